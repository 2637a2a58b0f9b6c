/-
  Plain arithmetic of layer 7: what pins and graces come to. No Go in sight.
-/
import Derived.Test.YtjicfonpldobdaaPinMath
namespace Um
set_option maxRecDepth 100000

theorem Cf.cl_epoch {c : Cf} (h : c.r = true) : c.cl 2 0 = 1 := by simp [Cf.cl, cellN, h]

theorem Cf.cl_pin {c : Cf} (h : c.r = true) {t : Int} (h0 : 0 ≤ t) (h1 : t < c.t) : c.cl 3 t = 2 + t := by simp [Cf.cl, cellN, h, h0, h1]

theorem touch_hit {c : Cf} {m : Mm} {kind a b : Int} {old v p : Nat} (h : c.cl a b = (p : Int)) : mtouch c m kind a b old v = mhit m p kind a b old v := by
  unfold mtouch
  rw [if_pos (by omega), h]
  rfl

theorem touch_epoch {c : Cf} (h : c.r = true) (m : Mm) (kind : Int) (old v : Nat) : mtouch c m kind 2 0 old v = mhit m 1 kind 2 0 old v := touch_hit (p := 1) (c.cl_epoch h)

theorem touch_pin {c : Cf} (h : c.r = true) {t : Int} (h0 : 0 ≤ t) (h1 : t < c.t) (m : Mm) (kind : Int) (old v : Nat) : mtouch c m kind 3 t old v = mhit m (2 + t.toNat) kind 3 t old v :=
  touch_hit (by rw [c.cl_pin h h0 h1]; omega)

/-- an access that only loads leaves the words -/
theorem load_ws (c : Cf) (m : Mm) (a b : Int) : (mtouch c m 1 a b 0 0).ws = m.ws := by
  unfold mtouch
  split
  · show putW m.ws _ (trn 1 0 0 _) = m.ws
    exact putW_id (by simp [trn])
  · rfl

/-- so many steps of a pin, of a grace -/
def pit (c : Cf) (t : Int) (s : Ps) : Nat → Ps
  | 0 => s
  | k + 1 => pstep c t (pit c t s k)

def git (c : Cf) (own : Int) (ret : Nat) (s : Gs) : Nat → Gs
  | 0 => s
  | k + 1 => gask c own ret (git c own ret s k)

def m00 : Mm := ⟨fun _ => 0, 0, noT⟩

theorem twice_math {c : Cf} (h : c.r = true) {t : Int} (h0 : 0 ≤ t) (h1 : t < c.t) (q : Nat) (hq : q ≤ 1000) :
    (mtouch c (pit c t ⟨m00, 0, 0⟩ 3).m 1 3 t 0 0).l.old = 1 ∧ (mtouch c (pit c t ⟨mtouch c (mtouch c (mtouch c (pit c t ⟨m00, 0, 0⟩ 3).m 1 3 t 0 0) 2 3 t 0 0) 4 2 0 0 q, 0, 0⟩ 3).m 1 3 t 0 0).l.old = q + 1 := by
  have e1 : (1 : Nat) ≠ 2 + t.toNat := by omega
  have e2 : (2 + t.toNat : Nat) ≠ 1 := by omega
  have e3 : (q + 1) % 18446744073709551616 = q + 1 := Nat.mod_eq_of_lt (by omega)
  have e4 : q % 18446744073709551616 = q := Nat.mod_eq_of_lt (by omega)
  simp [pit, pstep, touch_epoch h, touch_pin h h0 h1, mhit, trn, putW, addW, m00, e1, e2, e3, e4]

/-- does one of the first k threads, but one's own, hold -/
def heldU (ws : Nat → Nat) (own : Int) (ret : Nat) : Nat → Bool
  | 0 => false
  | k + 1 => heldU ws own ret k || (decide ((k : Int) ≠ own) && holdsW (ws (2 + k)) ret)

theorem heldU_true {ws : Nat → Nat} {own : Int} {ret n k : Nat} (hk : k < n) (h1 : (k : Int) ≠ own) (h2 : holdsW (ws (2 + k)) ret = true) : heldU ws own ret n = true := by
  induction n with
  | zero => omega
  | succ n ih =>
    unfold heldU
    by_cases e : k = n
    · subst e
      simp [h1, h2]
    · rw [ih (by omega)]
      rfl

theorem heldU_false {ws : Nat → Nat} {own : Int} {ret : Nat} : ∀ {n : Nat}, (∀ k, k < n → (k : Int) ≠ own → holdsW (ws (2 + k)) ret = false) → heldU ws own ret n = false := by
  intro n
  induction n with
  | zero => intro _; rfl
  | succ n ih =>
    intro h
    unfold heldU
    rw [ih (fun k hk => h k (by omega))]
    by_cases e : (n : Int) = own
    · simp [e]
    · rw [h n (by omega) e]
      simp

theorem git_char {c : Cf} (hr : c.r = true) (m : Mm) (own : Int) (ret : Nat) (k : Nat) :
    (git c own ret ⟨m, goTo own 0, false⟩ k).m.ws = m.ws ∧ 0 ≤ (git c own ret ⟨m, goTo own 0, false⟩ k).oth ∧
    ((git c own ret ⟨m, goTo own 0, false⟩ k).later = true → ∃ t : Nat, (t : Int) < c.t ∧ (t : Int) ≠ own ∧ holdsW (m.ws (2 + t)) ret = true) ∧
    ((git c own ret ⟨m, goTo own 0, false⟩ k).later = false → ((git c own ret ⟨m, goTo own 0, false⟩ k).oth ≠ own ∧ ((k : Int) ≤ (git c own ret ⟨m, goTo own 0, false⟩ k).oth ∨ c.t ≤ (git c own ret ⟨m, goTo own 0, false⟩ k).oth) ∧
      ∀ t : Nat, (t : Int) < (git c own ret ⟨m, goTo own 0, false⟩ k).oth → (t : Int) < c.t → (t : Int) ≠ own → holdsW (m.ws (2 + t)) ret = false)) := by
  induction k with
  | zero =>
    refine ⟨rfl, ?_, (fun h => by cases h), fun _ => ⟨?_, .inl ?_, fun t h0 h1 h2 => ?_⟩⟩
    · show 0 ≤ goTo own 0
      unfold goTo; split <;> omega
    · show goTo own 0 ≠ own
      unfold goTo; split <;> omega
    · show ((0 : Nat) : Int) ≤ goTo own 0
      unfold goTo; split <;> omega
    · have h0' : (t : Int) < goTo own 0 := h0
      unfold goTo at h0'
      split at h0' <;> omega
  | succ k ih =>
    show (gask c own ret (git c own ret ⟨m, goTo own 0, false⟩ k)).m.ws = m.ws ∧ 0 ≤ (gask c own ret (git c own ret ⟨m, goTo own 0, false⟩ k)).oth ∧ ((gask c own ret (git c own ret ⟨m, goTo own 0, false⟩ k)).later = true → _) ∧ ((gask c own ret (git c own ret ⟨m, goTo own 0, false⟩ k)).later = false → (gask c own ret (git c own ret ⟨m, goTo own 0, false⟩ k)).oth ≠ own ∧ (((k + 1 : Nat) : Int) ≤ (gask c own ret (git c own ret ⟨m, goTo own 0, false⟩ k)).oth ∨ c.t ≤ (gask c own ret (git c own ret ⟨m, goTo own 0, false⟩ k)).oth) ∧ ∀ t : Nat, (t : Int) < (gask c own ret (git c own ret ⟨m, goTo own 0, false⟩ k)).oth → _)
    generalize git c own ret ⟨m, goTo own 0, false⟩ k = s at *
    obtain ⟨i1, i2, i3, i4⟩ := ih
    unfold gask
    by_cases hd : gdone c s.oth s.later = true
    · rw [if_pos hd]
      refine ⟨i1, i2, i3, fun hl => ?_⟩
      have hge : c.t ≤ s.oth := by
        unfold gdone at hd
        rw [hl] at hd
        simpa using hd
      exact ⟨(i4 hl).1, .inr hge, (i4 hl).2.2⟩
    · rw [if_neg hd]
      have hl : s.later = false := by
        cases h : s.later with
        | false => rfl
        | true => unfold gdone at hd; rw [h] at hd; simp at hd
      have hlt : s.oth < c.t := by
        unfold gdone at hd
        rw [hl] at hd
        simpa using hd
      obtain ⟨j1, j2, j3⟩ := i4 hl
      have ho : (mtouch c s.m 1 3 s.oth 0 0).l.old = m.ws (2 + s.oth.toNat) := by
        rw [touch_pin hr i2 hlt, ← i1]
        rfl
      split
      · rename_i hh
        refine ⟨by rw [load_ws]; exact i1, i2, fun _ => ⟨s.oth.toNat, by omega, by omega, by rw [← ho]; exact hh⟩, fun h => by cases h⟩
      · rename_i hh
        refine ⟨by rw [load_ws]; exact i1, ?_, (fun h => by cases h), fun _ => ⟨?_, .inl ?_, fun t h0 h1 h2 => ?_⟩⟩
        · show 0 ≤ goTo own (s.oth + 1)
          unfold goTo; split <;> omega
        · show goTo own (s.oth + 1) ≠ own
          unfold goTo; split <;> omega
        · show ((k + 1 : Nat) : Int) ≤ goTo own (s.oth + 1)
          have : (k : Int) ≤ s.oth := by omega
          unfold goTo; split <;> omega
        · have h0' : (t : Int) < goTo own (s.oth + 1) := h0
          by_cases e : (t : Int) = s.oth
          · have : t = s.oth.toNat := by omega
            subst this
            rw [ho] at hh
            exact Bool.eq_false_iff.2 hh
          · refine j3 t ?_ h1 h2
            unfold goTo at h0'
            split at h0' <;> omega

/-- a grace, alone, to its end -/
theorem git_end {c : Cf} (hr : c.r = true) (m : Mm) (own : Int) (ret : Nat) :
    (git c own ret ⟨m, goTo own 0, false⟩ c.t.toNat).later = heldU m.ws own ret c.t.toNat ∧ gdone c (git c own ret ⟨m, goTo own 0, false⟩ c.t.toNat).oth (git c own ret ⟨m, goTo own 0, false⟩ c.t.toNat).later = true := by
  obtain ⟨i1, i2, i3, i4⟩ := git_char hr m own ret c.t.toNat
  generalize git c own ret ⟨m, goTo own 0, false⟩ c.t.toNat = s at *
  cases hl : s.later with
  | true =>
    obtain ⟨t, h1, h2, h3⟩ := i3 hl
    exact ⟨(heldU_true (by omega) h2 h3).symm, rfl⟩
  | false =>
    obtain ⟨j1, j2, j3⟩ := i4 hl
    have hge : c.t ≤ s.oth := by omega
    refine ⟨(heldU_false fun k hk h1 => j3 k (by omega) (by omega) h1).symm, ?_⟩
    unfold gdone
    simp [hge]

theorem late_ws {c : Cf} (h : c.r = true) {a b : Int} (a0 : 0 ≤ a) (a1 : a < c.t) (b0 : 0 ≤ b) (b1 : b < c.t) (_ : a ≠ b) :
    (mtouch c (pit c a ⟨m00, 0, 0⟩ 2).m 4 2 0 0 1).l.old = 0 ∧
    ∀ i, (pit c b ⟨mtouch c (pit c a ⟨m00, 0, 0⟩ 2).m 4 2 0 0 1, 0, 0⟩ 2).m.ws i = if i = 2 + b.toNat then 2 else if i = 1 then 1 else if i = 2 + a.toNat then 1 else 0 := by
  have e1 : (1 : Nat) ≠ 2 + a.toNat := by omega
  refine ⟨?_, fun i => ?_⟩
  · simp [pit, pstep, touch_epoch h, touch_pin h a0 a1, mhit, trn, putW, addW, m00, e1]
  · simp [pit, pstep, touch_epoch h, touch_pin h a0 a1, touch_pin h b0 b1, mhit, trn, putW, addW, m00, e1]
    (repeat' split) <;> omega

theorem late_math {c : Cf} (h : c.r = true) {a b : Int} (a0 : 0 ≤ a) (a1 : a < c.t) (b0 : 0 ≤ b) (_ : b < c.t) (hab : a ≠ b) (m : Mm)
    (hm : ∀ i, m.ws i = if i = 2 + b.toNat then 2 else if i = 1 then 1 else if i = 2 + a.toNat then 1 else 0) :
    (git c b 0 ⟨m, goTo b 0, false⟩ c.t.toNat).later = true ∧ ∀ m' : Mm, m'.ws = m.ws → (git c a 0 ⟨mtouch c m' 2 3 a 0 0, goTo a 0, false⟩ c.t.toNat).later = false := by
  refine ⟨?_, fun m' hm' => ?_⟩
  · rw [(git_end h m b 0).1]
    refine heldU_true (k := a.toNat) (by omega) (by omega) ?_
    rw [hm, if_neg (by omega), if_neg (by omega), if_pos rfl]
    rfl
  · rw [(git_end h _ a 0).1]
    refine heldU_false fun k hk hka => ?_
    have hw : (mtouch c m' 2 3 a 0 0).ws (2 + k) = m.ws (2 + k) := by
      rw [touch_pin h a0 a1, ← hm']
      exact putW_other (by omega)
    rw [hw, hm]
    by_cases e : k = b.toNat
    · rw [if_pos (by omega)]
      rfl
    · rw [if_neg (by omega), if_neg (by omega), if_neg (by omega)]
      rfl

/-- so many pins loaded, one behind the other -/
def lit (c : Cf) (m : Mm) : Nat → Mm
  | 0 => m
  | k + 1 => mtouch c (lit c m k) 1 3 k 0 0

theorem lit_ws (c : Cf) (m : Mm) (k : Nat) : (lit c m k).ws = m.ws := by
  induction k with
  | zero => rfl
  | succ k ih => exact (load_ws c _ 3 k).trans ih

theorem lit_old {c : Cf} (h : c.r = true) (m : Mm) {k : Nat} (hk : (k : Int) < c.t) : (lit c m (k + 1)).l.old = m.ws (2 + k) := by
  show (mtouch c (lit c m k) 1 3 k 0 0).l.old = _
  rw [touch_pin h (by omega) hk, ← lit_ws c m k]
  rfl

theorem held_own (ws : Nat → Nat) {own : Int} {ret k : Nat} (h : heldU ws own ret k = false) (e : (k : Int) = own) : heldU ws own ret (k + 1) = false := by
  unfold heldU
  rw [h]
  simp [e]

theorem held_zero {ws : Nat → Nat} {own : Int} {ret k : Nat} (h : heldU ws own ret k = false) (e : ws (2 + k) = 0) : heldU ws own ret (k + 1) = false := by
  unfold heldU
  rw [h, e]
  simp [holdsW]

theorem held_more {ws : Nat → Nat} {own : Int} {ret k q : Nat} (h : heldU ws own ret k = false) (e : (k : Int) ≠ own) (e2 : ws (2 + k) = q + 1) : heldU ws own ret (k + 1) = decide (q ≤ ret) := by
  unfold heldU
  rw [h, e2]
  simp [holdsW, e]

theorem held_yet {ws : Nat → Nat} {own : Int} {ret k : Nat} (h : heldU ws own ret k = true) : heldU ws own ret (k + 1) = true := by
  unfold heldU
  rw [h]
  rfl

/-- the document's next thread -/
def nextU (own p n : Int) : Int := if n < goTo own p then n else goTo own p

theorem nextU_ge (own p n : Int) : decide (n ≤ nextU own p n) = decide (n ≤ goTo own p) := by
  unfold nextU
  split
  · simp; omega
  · rfl

theorem nextU_lt {own p n : Int} (h : ¬ n ≤ goTo own p) : nextU own p n = goTo own p := by
  unfold nextU
  rw [if_neg (by omega)]

/-- a store's words: another cell's stay; its own is what was stored -/
theorem store_ws {c : Cf} (m : Mm) (t : Int) (v : Nat) {j : Nat} (hj : j < c.n) :
    ((atK c.r c.t c.s c.k (j : Int) = 3 ∧ atO c.r c.t c.s c.k (j : Int) = t) → (mtouch c m 2 3 t 0 v).ws j = v) ∧
    (¬ (atK c.r c.t c.s c.k (j : Int) = 3 ∧ atO c.r c.t c.s c.k (j : Int) = t) → (mtouch c m 2 3 t 0 v).ws j = m.ws j) := by
  have hn := c.n_eq
  constructor
  · rintro ⟨h1, h2⟩
    have hc := at_cell (r := c.r) (t := c.t) (s := c.s) (k := c.k) (x := (j : Int)) c.rb (by omega) (by omega)
    rw [h1, h2] at hc
    rw [touch_hit (p := j) (show c.cl 3 t = _ from hc)]
    show putW m.ws j (trn 2 0 v (m.ws j)) j = v
    rw [putW_same]
    rfl
  · intro h
    unfold mtouch
    split
    · rename_i h0
      show putW m.ws (c.cl 3 t).toNat _ j = m.ws j
      refine putW_other fun e => h ?_
      have ha := cell_at (a := 3) (b := t) c.rb h0
      have e2 : cellN c.r c.t c.s c.k 3 t = (j : Int) := by
        have h0' : 0 ≤ cellN c.r c.t c.s c.k 3 t := h0
        have e' : j = (cellN c.r c.t c.s c.k 3 t).toNat := e
        omega
      rw [e2] at ha
      exact ha.2
    · rfl

theorem only_math {c : Cf} (hr : c.r = true) (m : Mm) (t : Int) (ret n : Nat) {j : Nat} (hj : j < c.n) :
    ((atK c.r c.t c.s c.k (j : Int) = 3 ∧ atO c.r c.t c.s c.k (j : Int) = t) → (mtouch c (git c t ret ⟨(pstep c t (pstep c t ⟨m, 0, 0⟩)).m, goTo t 0, false⟩ n).m 2 3 t 0 0).ws j = 0) ∧
    (¬ (atK c.r c.t c.s c.k (j : Int) = 3 ∧ atO c.r c.t c.s c.k (j : Int) = t) → (mtouch c (git c t ret ⟨(pstep c t (pstep c t ⟨m, 0, 0⟩)).m, goTo t 0, false⟩ n).m 2 3 t 0 0).ws j = m.ws j ∧ (git c t ret ⟨(pstep c t (pstep c t ⟨m, 0, 0⟩)).m, goTo t 0, false⟩ n).m.ws j = m.ws j) := by
  have hg := (git_char hr (pstep c t (pstep c t ⟨m, 0, 0⟩)).m t ret n).1
  have hs := fun m' => store_ws m' t 0 hj
  generalize git c t ret ⟨(pstep c t (pstep c t ⟨m, 0, 0⟩)).m, goTo t 0, false⟩ n = S at *
  refine ⟨(hs S.m).1, fun h => ?_⟩
  have e1 : (pstep c t (pstep c t ⟨m, 0, 0⟩)).m.ws j = m.ws j := by
    show (mtouch c (mtouch c m 1 2 0 0 0) 2 3 t 0 _).ws j = m.ws j
    rw [(store_ws _ t _ hj).2 h, load_ws]
  rw [(hs S.m).2 h, hg]
  exact ⟨e1, e1⟩

end Um
