/-
  Texts that the laws stand on, merged (PinMath2, TallyMath, HelpMath, TallyA, WalkB, WalkC, Eq).
-/
import Derived.Test.YtkiaogbddfjkkaaM1
import Derived.Test.YtkiaogbddfjkkaaM3
import Derived.Deep.RegionWith
import Derived.Lib.QuietBelow
import Derived.WalkSmall

/-
  Plain arithmetic of layer 7: what pins and graces come to. No Go in sight.
-/
namespace Um
set_option maxRecDepth 100000

theorem Cf.cl_epoch {c : Cf} (h : c.r = true) : c.cl 2 0 = 1 := by simp [Cf.cl, cellN, h]

theorem Cf.cl_pin {c : Cf} (h : c.r = true) {t : Int} (h0 : 0 ≤ t) (h1 : t < c.t) : c.cl 3 t = 2 + t := by simp [Cf.cl, cellN, h, h0, h1]

theorem touch_hit {c : Cf} {m : Mm} {kind a b : Int} {old v p : Nat} (h : c.cl a b = (p : Int)) : mtouch c m kind a b old v = mhit m p kind a b old v := by
  unfold mtouch
  rw [if_pos (by omega), h]
  rfl

theorem touch_epoch {c : Cf} (h : c.r = true) (m : Mm) (kind : Int) (old v : Nat) : mtouch c m kind 2 0 old v = mhit m 1 kind 2 0 old v := touch_hit (p := 1) (c.cl_epoch h)

theorem touch_pin {c : Cf} (h : c.r = true) {t : Int} (h0 : 0 ≤ t) (h1 : t < c.t) (m : Mm) (kind : Int) (old v : Nat) : mtouch c m kind 3 t old v = mhit m (2 + t.toNat) kind 3 t old v :=
  touch_hit (by rw [c.cl_pin h h0 h1]; omega)

/-- an access that only loads leaves the words -/
theorem load_ws (c : Cf) (m : Mm) (a b : Int) : (mtouch c m 1 a b 0 0).ws = m.ws := by
  unfold mtouch
  split
  · show putW m.ws _ (trn 1 0 0 _) = m.ws
    exact putW_id (by simp [trn])
  · rfl

/-- so many steps of a pin, of a grace -/
def pit (c : Cf) (t : Int) (s : Ps) : Nat → Ps
  | 0 => s
  | k + 1 => pstep c t (pit c t s k)

def git (c : Cf) (own : Int) (ret : Nat) (s : Gs) : Nat → Gs
  | 0 => s
  | k + 1 => gask c own ret (git c own ret s k)

def m00 : Mm := ⟨fun _ => 0, 0, noT⟩

theorem twice_math {c : Cf} (h : c.r = true) {t : Int} (h0 : 0 ≤ t) (h1 : t < c.t) (q : Nat) (hq : q ≤ 1000) :
    (mtouch c (pit c t ⟨m00, 0, 0⟩ 3).m 1 3 t 0 0).l.old = 1 ∧ (mtouch c (pit c t ⟨mtouch c (mtouch c (mtouch c (pit c t ⟨m00, 0, 0⟩ 3).m 1 3 t 0 0) 2 3 t 0 0) 4 2 0 0 q, 0, 0⟩ 3).m 1 3 t 0 0).l.old = q + 1 := by
  have e1 : (1 : Nat) ≠ 2 + t.toNat := by omega
  have e2 : (2 + t.toNat : Nat) ≠ 1 := by omega
  have e3 : (q + 1) % 18446744073709551616 = q + 1 := Nat.mod_eq_of_lt (by omega)
  have e4 : q % 18446744073709551616 = q := Nat.mod_eq_of_lt (by omega)
  simp [pit, pstep, touch_epoch h, touch_pin h h0 h1, mhit, trn, putW, addW, m00, e1, e2, e3, e4]

/-- does one of the first k threads, but one's own, hold -/
def heldU (ws : Nat → Nat) (own : Int) (ret : Nat) : Nat → Bool
  | 0 => false
  | k + 1 => heldU ws own ret k || (decide ((k : Int) ≠ own) && holdsW (ws (2 + k)) ret)

theorem heldU_true {ws : Nat → Nat} {own : Int} {ret n k : Nat} (hk : k < n) (h1 : (k : Int) ≠ own) (h2 : holdsW (ws (2 + k)) ret = true) : heldU ws own ret n = true := by
  induction n with
  | zero => omega
  | succ n ih =>
    unfold heldU
    by_cases e : k = n
    · subst e
      simp [h1, h2]
    · rw [ih (by omega)]
      rfl

theorem heldU_false {ws : Nat → Nat} {own : Int} {ret : Nat} : ∀ {n : Nat}, (∀ k, k < n → (k : Int) ≠ own → holdsW (ws (2 + k)) ret = false) → heldU ws own ret n = false := by
  intro n
  induction n with
  | zero => intro _; rfl
  | succ n ih =>
    intro h
    unfold heldU
    rw [ih (fun k hk => h k (by omega))]
    by_cases e : (n : Int) = own
    · simp [e]
    · rw [h n (by omega) e]
      simp

theorem git_char {c : Cf} (hr : c.r = true) (m : Mm) (own : Int) (ret : Nat) (k : Nat) :
    (git c own ret ⟨m, goTo own 0, false⟩ k).m.ws = m.ws ∧ 0 ≤ (git c own ret ⟨m, goTo own 0, false⟩ k).oth ∧
    ((git c own ret ⟨m, goTo own 0, false⟩ k).later = true → ∃ t : Nat, (t : Int) < c.t ∧ (t : Int) ≠ own ∧ holdsW (m.ws (2 + t)) ret = true) ∧
    ((git c own ret ⟨m, goTo own 0, false⟩ k).later = false → ((git c own ret ⟨m, goTo own 0, false⟩ k).oth ≠ own ∧ ((k : Int) ≤ (git c own ret ⟨m, goTo own 0, false⟩ k).oth ∨ c.t ≤ (git c own ret ⟨m, goTo own 0, false⟩ k).oth) ∧
      ∀ t : Nat, (t : Int) < (git c own ret ⟨m, goTo own 0, false⟩ k).oth → (t : Int) < c.t → (t : Int) ≠ own → holdsW (m.ws (2 + t)) ret = false)) := by
  induction k with
  | zero =>
    refine ⟨rfl, ?_, (fun h => by cases h), fun _ => ⟨?_, .inl ?_, fun t h0 h1 h2 => ?_⟩⟩
    · show 0 ≤ goTo own 0
      unfold goTo; split <;> omega
    · show goTo own 0 ≠ own
      unfold goTo; split <;> omega
    · show ((0 : Nat) : Int) ≤ goTo own 0
      unfold goTo; split <;> omega
    · have h0' : (t : Int) < goTo own 0 := h0
      unfold goTo at h0'
      split at h0' <;> omega
  | succ k ih =>
    show (gask c own ret (git c own ret ⟨m, goTo own 0, false⟩ k)).m.ws = m.ws ∧ 0 ≤ (gask c own ret (git c own ret ⟨m, goTo own 0, false⟩ k)).oth ∧ ((gask c own ret (git c own ret ⟨m, goTo own 0, false⟩ k)).later = true → _) ∧ ((gask c own ret (git c own ret ⟨m, goTo own 0, false⟩ k)).later = false → (gask c own ret (git c own ret ⟨m, goTo own 0, false⟩ k)).oth ≠ own ∧ (((k + 1 : Nat) : Int) ≤ (gask c own ret (git c own ret ⟨m, goTo own 0, false⟩ k)).oth ∨ c.t ≤ (gask c own ret (git c own ret ⟨m, goTo own 0, false⟩ k)).oth) ∧ ∀ t : Nat, (t : Int) < (gask c own ret (git c own ret ⟨m, goTo own 0, false⟩ k)).oth → _)
    generalize git c own ret ⟨m, goTo own 0, false⟩ k = s at *
    obtain ⟨i1, i2, i3, i4⟩ := ih
    unfold gask
    by_cases hd : gdone c s.oth s.later = true
    · rw [if_pos hd]
      refine ⟨i1, i2, i3, fun hl => ?_⟩
      have hge : c.t ≤ s.oth := by
        unfold gdone at hd
        rw [hl] at hd
        simpa using hd
      exact ⟨(i4 hl).1, .inr hge, (i4 hl).2.2⟩
    · rw [if_neg hd]
      have hl : s.later = false := by
        cases h : s.later with
        | false => rfl
        | true => unfold gdone at hd; rw [h] at hd; simp at hd
      have hlt : s.oth < c.t := by
        unfold gdone at hd
        rw [hl] at hd
        simpa using hd
      obtain ⟨j1, j2, j3⟩ := i4 hl
      have ho : (mtouch c s.m 1 3 s.oth 0 0).l.old = m.ws (2 + s.oth.toNat) := by
        rw [touch_pin hr i2 hlt, ← i1]
        rfl
      split
      · rename_i hh
        refine ⟨by rw [load_ws]; exact i1, i2, fun _ => ⟨s.oth.toNat, by omega, by omega, by rw [← ho]; exact hh⟩, fun h => by cases h⟩
      · rename_i hh
        refine ⟨by rw [load_ws]; exact i1, ?_, (fun h => by cases h), fun _ => ⟨?_, .inl ?_, fun t h0 h1 h2 => ?_⟩⟩
        · show 0 ≤ goTo own (s.oth + 1)
          unfold goTo; split <;> omega
        · show goTo own (s.oth + 1) ≠ own
          unfold goTo; split <;> omega
        · show ((k + 1 : Nat) : Int) ≤ goTo own (s.oth + 1)
          have : (k : Int) ≤ s.oth := by omega
          unfold goTo; split <;> omega
        · have h0' : (t : Int) < goTo own (s.oth + 1) := h0
          by_cases e : (t : Int) = s.oth
          · have : t = s.oth.toNat := by omega
            subst this
            rw [ho] at hh
            exact Bool.eq_false_iff.2 hh
          · refine j3 t ?_ h1 h2
            unfold goTo at h0'
            split at h0' <;> omega

/-- a grace, alone, to its end -/
theorem git_end {c : Cf} (hr : c.r = true) (m : Mm) (own : Int) (ret : Nat) :
    (git c own ret ⟨m, goTo own 0, false⟩ c.t.toNat).later = heldU m.ws own ret c.t.toNat ∧ gdone c (git c own ret ⟨m, goTo own 0, false⟩ c.t.toNat).oth (git c own ret ⟨m, goTo own 0, false⟩ c.t.toNat).later = true := by
  obtain ⟨i1, i2, i3, i4⟩ := git_char hr m own ret c.t.toNat
  generalize git c own ret ⟨m, goTo own 0, false⟩ c.t.toNat = s at *
  cases hl : s.later with
  | true =>
    obtain ⟨t, h1, h2, h3⟩ := i3 hl
    exact ⟨(heldU_true (by omega) h2 h3).symm, rfl⟩
  | false =>
    obtain ⟨j1, j2, j3⟩ := i4 hl
    have hge : c.t ≤ s.oth := by omega
    refine ⟨(heldU_false fun k hk h1 => j3 k (by omega) (by omega) h1).symm, ?_⟩
    unfold gdone
    simp [hge]

theorem late_ws {c : Cf} (h : c.r = true) {a b : Int} (a0 : 0 ≤ a) (a1 : a < c.t) (b0 : 0 ≤ b) (b1 : b < c.t) (_ : a ≠ b) :
    (mtouch c (pit c a ⟨m00, 0, 0⟩ 2).m 4 2 0 0 1).l.old = 0 ∧
    ∀ i, (pit c b ⟨mtouch c (pit c a ⟨m00, 0, 0⟩ 2).m 4 2 0 0 1, 0, 0⟩ 2).m.ws i = if i = 2 + b.toNat then 2 else if i = 1 then 1 else if i = 2 + a.toNat then 1 else 0 := by
  have e1 : (1 : Nat) ≠ 2 + a.toNat := by omega
  refine ⟨?_, fun i => ?_⟩
  · simp [pit, pstep, touch_epoch h, touch_pin h a0 a1, mhit, trn, putW, addW, m00, e1]
  · simp [pit, pstep, touch_epoch h, touch_pin h a0 a1, touch_pin h b0 b1, mhit, trn, putW, addW, m00, e1]
    (repeat' split) <;> omega

theorem late_math {c : Cf} (h : c.r = true) {a b : Int} (a0 : 0 ≤ a) (a1 : a < c.t) (b0 : 0 ≤ b) (_ : b < c.t) (hab : a ≠ b) (m : Mm)
    (hm : ∀ i, m.ws i = if i = 2 + b.toNat then 2 else if i = 1 then 1 else if i = 2 + a.toNat then 1 else 0) :
    (git c b 0 ⟨m, goTo b 0, false⟩ c.t.toNat).later = true ∧ ∀ m' : Mm, m'.ws = m.ws → (git c a 0 ⟨mtouch c m' 2 3 a 0 0, goTo a 0, false⟩ c.t.toNat).later = false := by
  refine ⟨?_, fun m' hm' => ?_⟩
  · rw [(git_end h m b 0).1]
    refine heldU_true (k := a.toNat) (by omega) (by omega) ?_
    rw [hm, if_neg (by omega), if_neg (by omega), if_pos rfl]
    rfl
  · rw [(git_end h _ a 0).1]
    refine heldU_false fun k hk hka => ?_
    have hw : (mtouch c m' 2 3 a 0 0).ws (2 + k) = m.ws (2 + k) := by
      rw [touch_pin h a0 a1, ← hm']
      exact putW_other (by omega)
    rw [hw, hm]
    by_cases e : k = b.toNat
    · rw [if_pos (by omega)]
      rfl
    · rw [if_neg (by omega), if_neg (by omega), if_neg (by omega)]
      rfl

/-- so many pins loaded, one behind the other -/
def lit (c : Cf) (m : Mm) : Nat → Mm
  | 0 => m
  | k + 1 => mtouch c (lit c m k) 1 3 k 0 0

theorem lit_ws (c : Cf) (m : Mm) (k : Nat) : (lit c m k).ws = m.ws := by
  induction k with
  | zero => rfl
  | succ k ih => exact (load_ws c _ 3 k).trans ih

theorem lit_old {c : Cf} (h : c.r = true) (m : Mm) {k : Nat} (hk : (k : Int) < c.t) : (lit c m (k + 1)).l.old = m.ws (2 + k) := by
  show (mtouch c (lit c m k) 1 3 k 0 0).l.old = _
  rw [touch_pin h (by omega) hk, ← lit_ws c m k]
  rfl

theorem held_own (ws : Nat → Nat) {own : Int} {ret k : Nat} (h : heldU ws own ret k = false) (e : (k : Int) = own) : heldU ws own ret (k + 1) = false := by
  unfold heldU
  rw [h]
  simp [e]

theorem held_zero {ws : Nat → Nat} {own : Int} {ret k : Nat} (h : heldU ws own ret k = false) (e : ws (2 + k) = 0) : heldU ws own ret (k + 1) = false := by
  unfold heldU
  rw [h, e]
  simp [holdsW]

theorem held_more {ws : Nat → Nat} {own : Int} {ret k q : Nat} (h : heldU ws own ret k = false) (e : (k : Int) ≠ own) (e2 : ws (2 + k) = q + 1) : heldU ws own ret (k + 1) = decide (q ≤ ret) := by
  unfold heldU
  rw [h, e2]
  simp [holdsW, e]

theorem held_yet {ws : Nat → Nat} {own : Int} {ret k : Nat} (h : heldU ws own ret k = true) : heldU ws own ret (k + 1) = true := by
  unfold heldU
  rw [h]
  rfl

/-- the document's next thread -/
def nextU (own p n : Int) : Int := if n < goTo own p then n else goTo own p

theorem nextU_ge (own p n : Int) : decide (n ≤ nextU own p n) = decide (n ≤ goTo own p) := by
  unfold nextU
  split
  · simp; omega
  · rfl

theorem nextU_lt {own p n : Int} (h : ¬ n ≤ goTo own p) : nextU own p n = goTo own p := by
  unfold nextU
  rw [if_neg (by omega)]

/-- a store's words: another cell's stay; its own is what was stored -/
theorem store_ws {c : Cf} (m : Mm) (t : Int) (v : Nat) {j : Nat} (hj : j < c.n) :
    ((atK c.r c.t c.s c.k (j : Int) = 3 ∧ atO c.r c.t c.s c.k (j : Int) = t) → (mtouch c m 2 3 t 0 v).ws j = v) ∧
    (¬ (atK c.r c.t c.s c.k (j : Int) = 3 ∧ atO c.r c.t c.s c.k (j : Int) = t) → (mtouch c m 2 3 t 0 v).ws j = m.ws j) := by
  have hn := c.n_eq
  constructor
  · rintro ⟨h1, h2⟩
    have hc := at_cell (r := c.r) (t := c.t) (s := c.s) (k := c.k) (x := (j : Int)) c.rb (by omega) (by omega)
    rw [h1, h2] at hc
    rw [touch_hit (p := j) (show c.cl 3 t = _ from hc)]
    show putW m.ws j (trn 2 0 v (m.ws j)) j = v
    rw [putW_same]
    rfl
  · intro h
    unfold mtouch
    split
    · rename_i h0
      show putW m.ws (c.cl 3 t).toNat _ j = m.ws j
      refine putW_other fun e => h ?_
      have ha := cell_at (a := 3) (b := t) c.rb h0
      have e2 : cellN c.r c.t c.s c.k 3 t = (j : Int) := by
        have h0' : 0 ≤ cellN c.r c.t c.s c.k 3 t := h0
        have e' : j = (cellN c.r c.t c.s c.k 3 t).toNat := e
        omega
      rw [e2] at ha
      exact ha.2
    · rfl

theorem only_math {c : Cf} (hr : c.r = true) (m : Mm) (t : Int) (ret n : Nat) {j : Nat} (hj : j < c.n) :
    ((atK c.r c.t c.s c.k (j : Int) = 3 ∧ atO c.r c.t c.s c.k (j : Int) = t) → (mtouch c (git c t ret ⟨(pstep c t (pstep c t ⟨m, 0, 0⟩)).m, goTo t 0, false⟩ n).m 2 3 t 0 0).ws j = 0) ∧
    (¬ (atK c.r c.t c.s c.k (j : Int) = 3 ∧ atO c.r c.t c.s c.k (j : Int) = t) → (mtouch c (git c t ret ⟨(pstep c t (pstep c t ⟨m, 0, 0⟩)).m, goTo t 0, false⟩ n).m 2 3 t 0 0).ws j = m.ws j ∧ (git c t ret ⟨(pstep c t (pstep c t ⟨m, 0, 0⟩)).m, goTo t 0, false⟩ n).m.ws j = m.ws j) := by
  have hg := (git_char hr (pstep c t (pstep c t ⟨m, 0, 0⟩)).m t ret n).1
  have hs := fun m' => store_ws m' t 0 hj
  generalize git c t ret ⟨(pstep c t (pstep c t ⟨m, 0, 0⟩)).m, goTo t 0, false⟩ n = S at *
  refine ⟨(hs S.m).1, fun h => ?_⟩
  have e1 : (pstep c t (pstep c t ⟨m, 0, 0⟩)).m.ws j = m.ws j := by
    show (mtouch c (mtouch c m 1 2 0 0 0) 2 3 t 0 _).ws j = m.ws j
    rw [(store_ws _ t _ hj).2 h, load_ws]
  rw [(hs S.m).2 h, hg]
  exact ⟨e1, e1⟩

end Um

/-
  Plain arithmetic of layer 3's words: no Go in sight.
-/
namespace Um
set_option maxRecDepth 100000

/-- A tally that has a word. -/
def tok (s : Nat) (p : Int) : Bool := decide (s ≤ 1099511627775 ∧ -1 ≤ p ∧ p ≤ 11)

/-- Its word; 0, if there is none. -/
def tpack (s : Nat) (p : Int) : Nat := if tok s p then 16 * s + (p + 1).toNat else 0

/-- The parts of a word, and the word of which nothing is pending. -/
def seqN (x : Nat) : Nat := x / 16
def penN (x : Nat) : Int := (x % 16 : Nat) - 1
def setlN (x : Nat) : Nat := x - x % 16

theorem setl_word {x : Nat} (h : Word x) : Word (setlN x) := Nat.lt_of_le_of_lt (Nat.sub_le _ _) h
theorem seq_setl (x : Nat) : seqN (setlN x) = seqN x := by unfold seqN setlN; omega
theorem pen_setl (x : Nat) : penN (setlN x) = -1 := by unfold penN setlN; omega
theorem setl_setl (x : Nat) : setlN (setlN x) = setlN x := by unfold setlN; omega
theorem pen_none (x : Nat) : penN x = -1 ↔ x % 16 = 0 := by unfold penN; omega
theorem seq_word {x : Nat} (h : Word x) : seqN x + 1 < 1152921504606846977 := by unfold seqN; unfold Word at h; omega

/-- A commit more may be behind x. -/
def nok (x : Nat) (p : Int) : Bool := decide (penN x = -1 ∧ 0 ≤ p) && tok (seqN x + 1) p

/-- The word behind x; 0, if there is none. -/
def tnext (x : Nat) (p : Int) : Nat := if nok x p then tpack (seqN x + 1) p else 0

def past (n s : Nat) : Bool := decide (0 < n ∧ n ≤ s)

theorem tok_iff {s : Nat} {p : Int} : tok s p = true ↔ s ≤ 1099511627775 ∧ -1 ≤ p ∧ p ≤ 11 := by unfold tok; simp

theorem tok_no {s : Nat} {p : Int} : tok s p = false ↔ ¬ (s ≤ 1099511627775 ∧ -1 ≤ p ∧ p ≤ 11) := by unfold tok; simp

theorem tpack_yes {s : Nat} {p : Int} (h : tok s p = true) : tpack s p = 16 * s + (p + 1).toNat := by unfold tpack; rw [if_pos h]

theorem tpack_no {s : Nat} {p : Int} (h : tok s p = false) : tpack s p = 0 := by unfold tpack; rw [h]; rfl

theorem tpack_word (s : Nat) (p : Int) : Word (tpack s p) := by
  unfold Word
  cases h : tok s p
  · rw [tpack_no h]; omega
  · rw [tpack_yes h]; have := tok_iff.1 h; omega

theorem tpack_seq {s : Nat} {p : Int} (h : tok s p = true) : seqN (tpack s p) = s := by
  unfold seqN; rw [tpack_yes h]; have := tok_iff.1 h; omega

theorem tpack_pending {s : Nat} {p : Int} (h : tok s p = true) : penN (tpack s p) = p := by
  unfold penN; rw [tpack_yes h]; have := tok_iff.1 h; omega

theorem nok_iff {x : Nat} {p : Int} : nok x p = true ↔ penN x = -1 ∧ 0 ≤ p ∧ p ≤ 11 ∧ seqN x + 1 ≤ 1099511627775 := by
  unfold nok
  rw [Bool.and_eq_true, decide_eq_true_iff, tok_iff]
  omega

theorem tnext_yes {x : Nat} {p : Int} (h : nok x p = true) : tnext x p = tpack (seqN x + 1) p := by unfold tnext; rw [if_pos h]

theorem tnext_no {x : Nat} {p : Int} (h : nok x p = false) : tnext x p = 0 := by unfold tnext; rw [h]; rfl

theorem nok_tok {x : Nat} {p : Int} (h : nok x p = true) : tok (seqN x + 1) p = true := by
  unfold nok at h
  exact (Bool.and_eq_true _ _ ▸ h).2

theorem tnext_word (x : Nat) (p : Int) : Word (tnext x p) := by
  cases h : nok x p
  · rw [tnext_no h]; unfold Word; omega
  · rw [tnext_yes h]; exact tpack_word _ _

theorem tpack_inj {s t : Nat} {p q : Int} (h : tok s p = true) (h' : tok t q = true) : tpack s p = tpack t q ↔ s = t ∧ p = q := by
  rw [tpack_yes h, tpack_yes h']
  have := tok_iff.1 h
  have := tok_iff.1 h'
  omega

theorem nok_settled {s : Nat} {q : Int} (h : tok s (-1) = true) : nok (tpack s (-1)) q = true ↔ 0 ≤ q ∧ q < 12 ∧ s < 1099511627775 := by
  rw [nok_iff, tpack_seq h, tpack_pending h]
  omega

theorem nok_settled_no {s : Nat} {q : Int} (h : tok s (-1) = true) (h' : ¬ (0 ≤ q ∧ q < 12 ∧ s < 1099511627775)) : nok (tpack s (-1)) q = false := by
  cases hh : nok (tpack s (-1)) q
  · rfl
  · exact absurd ((nok_settled h).1 hh) h'

theorem tnext_settled {s : Nat} {q : Int} (h : tok s (-1) = true) (h' : 0 ≤ q ∧ q < 12 ∧ s < 1099511627775) : tnext (tpack s (-1)) q = tpack (s + 1) q := by
  rw [tnext_yes ((nok_settled h).2 h'), tpack_seq h]

theorem nok_pending {s : Nat} {q r : Int} (h : tok s q = true) (h0 : 0 ≤ q) : nok (tpack s q) r = false := by
  cases hh : nok (tpack s q) r
  · rfl
  · have := (nok_iff.1 hh).1
    rw [tpack_pending h] at this
    omega

theorem setl_tpack {s : Nat} {q : Int} (h : tok s q = true) : setlN (tpack s q) = tpack s (-1) := by
  have h1 := tok_iff.1 h
  have h2 : tok s (-1) = true := tok_iff.2 (by omega)
  unfold setlN
  rw [tpack_yes h, tpack_yes h2]
  omega

/-- A multiple of 16 and four bits more: or is plus. -/
theorem or_low (s k : Nat) (h : k < 16) : (16 * s) ||| k = 16 * s + k := by
  have := Nat.two_pow_add_eq_or_of_lt (i := 4) (b := k) (by omega) s
  rw [show (2 : Nat) ^ 4 = 16 by decide] at this
  exact this.symm

end Um

/-
  Plain arithmetic of layer 8: a commit that is noted. No Go in sight.
-/
namespace Um
set_option maxRecDepth 100000

/-- a status word's state -/
def stN (x : Nat) : Nat := part x 27 3

/-- a status word of the state Committed, busy as it was -/
def comN (x : Nat) : Nat := moveN x 4 (x.testBit 26)

/-- a help over a memory: the memory, its next step (4: it is done), what it looked at -/
structure Hs where
  m : Mm
  nx : Nat
  s : Nat

/-- a help's step -/
def hstep (c : Cf) (w : Nat) (h : Hs) : Hs :=
  if h.nx = 0 then ⟨mtouch c h.m 3 6 (penN w) 0 (seqN w), 1, h.s⟩
  else if h.nx = 1 then ⟨mtouch c h.m 1 4 (penN w) 0 0, if stN (mtouch c h.m 1 4 (penN w) 0 0).l.old = 3 then 2 else 3, (mtouch c h.m 1 4 (penN w) 0 0).l.old⟩
  else if h.nx = 2 then ⟨mtouch c h.m 3 4 (penN w) h.s (comN h.s), cond (mtouch c h.m 3 4 (penN w) h.s (comN h.s)).l.done 3 1, h.s⟩
  else if h.nx = 3 then ⟨mtouch c h.m 3 1 0 w (setlN w), 4, h.s⟩
  else h

/-- the first step of a word's help -/
def hfst (w : Nat) : Nat := if penN w < 0 then 4 else 0

theorem seq_isword {w : Nat} (h : Word w) : Word (seqN w) := by unfold Word at *; unfold seqN; omega

theorem com_word {x : Nat} (h : Word x) : Word (comN x) := move_word h (by decide)

theorem pen_bd (w : Nat) : -1 ≤ penN w ∧ penN w ≤ 14 := by unfold penN; omega

theorem hstep_words {c : Cf} {w : Nat} {h : Hs} (hw : Word w) (hs : Word h.s) (hm : ∀ i, i < c.n → Word (h.m.ws i)) : (∀ i, i < c.n → Word ((hstep c w h).m.ws i)) ∧ Word (hstep c w h).s := by
  unfold hstep
  split
  · exact ⟨word_touch hm (seq_isword hw), hs⟩
  split
  · exact ⟨word_touch hm (by unfold Word; omega), old_word hm⟩
  split
  · exact ⟨word_touch hm (com_word hs), hs⟩
  split
  · exact ⟨word_touch hm (setl_word hw), hs⟩
  · exact ⟨hm, hs⟩

theorem hstep_nx {c : Cf} {w : Nat} {h : Hs} (hn : h.nx ≤ 4) : (hstep c w h).nx ≤ 4 := by
  unfold hstep
  split
  · show 1 ≤ 4
    decide
  split
  · show (if _ then 2 else 3) ≤ 4
    split <;> decide
  split
  · show cond _ 3 1 ≤ 4
    cases (mtouch c h.m 3 4 (penN w) h.s (comN h.s)).l.done <;> decide
  split
  · show 4 ≤ 4
    decide
  · exact hn

end Um

/-
  The walks of layer 3's functions, and of the document's answers for them.
-/
namespace Go.Proofs.Ytkiaogbddfjkkaa
set_option maxRecDepth 100000
open Go.RowKit Go.Sort

/-- '==' of two tallies. -/
theorem eqTally (T : TypeId) (hT : T = 140 ∨ T = 96) (s p s' p' : Int) (w : World) :
    (Op.equalIn 10000 T (.agg #[.int .u64 s, .int .i64 p]) (.agg #[.int .u64 s', .int .i64 p'])).run Try.prog w = .ok (decide (s = s' ∧ p = p')) w := by
  rw [show (10000:Nat) = 9999 + 1 from rfl]
  rcases hT with rfl | rfl
  all_goals
    rw [run_equalIn_agg w 9999 _ _ _ (by kernel_rfl) (by kernel_rfl)]
    go_simp
    (repeat' split) <;> simp_all

theorem neqTally (T : TypeId) (hT : T = 140 ∨ T = 96) {s p s' p' : Int} {r : Bool} (hr : r = decide (s = s' ∧ p = p')) (w : World) :
    (binOp .neq T (.agg #[.int .u64 s, .int .i64 p]) (.agg #[.int .u64 s', .int .i64 p'])).run Try.prog w = .ok (.bool (!r)) w := by
  rw [run_neq_struct, eqTally T hT, hr]
  rfl

theorem eqlTally (T : TypeId) (hT : T = 140 ∨ T = 96) {s p s' p' : Int} {r : Bool} (hr : r = decide (s = s' ∧ p = p')) (w : World) :
    (binOp .eql T (.agg #[.int .u64 s, .int .i64 p]) (.agg #[.int .u64 s', .int .i64 p'])).run Try.prog w = .ok (.bool r) w := by
  rw [run_eql_struct, eqTally T hT, hr]
  rfl

set_option maxHeartbeats 400000 in
theorem tSettled_any (x : Nat) (w : World) (hx : Um.Word x) :
    Calls Try.prog 88 #[.int .u64 x] w fun e w' => e = .returned (.int .u64 (Um.setlN x : Nat)) ∧ w' = w := by
  go_enter Try.func88, Try.ntmps88
  go_wp2
  go_ret
  refine ⟨ret_u64 ?_, rfl⟩
  rw [IntKind.wrap_u64]
  unfold Um.Word at hx
  unfold Um.setlN
  omega

set_option maxHeartbeats 400000 in
theorem trSettled_any (x : Nat) (w : World) (hx : Um.Word x) :
    Calls Try.prog 72 #[.int .u64 x] w fun e w' => e = .returned (.int .u64 (Um.setlN x : Nat)) ∧ w' = w := by
  unfold Um.Word at hx
  go_enter Try.func72, Try.ntmps72
  go_wp2
  go_ret
  exact ⟨ret_u64 (by unfold Um.setlN; omega), rfl⟩

set_option maxHeartbeats 400000 in
theorem tUnpack_any (x : Nat) (w : World) (hx : Um.Word x) :
    Calls Try.prog 84 #[.int .u64 x] w fun e w' => e = .returned (.agg #[.int .u64 (Um.seqN x : Nat), .int .i64 (Um.penN x)]) ∧ Below w.heap.size w w' := by
  have hle : Um.setlN x ≤ x ∧ x < Um.setlN x + 16 := by unfold Um.setlN; omega
  obtain ⟨hle1, hle2⟩ := hle
  go_enter Try.func84, Try.ntmps84
  go_wp2_with fail
  refine (tSettled_any _ _ hx).mono ?_
  rintro e w1 ⟨rfl, rfl⟩
  go_wp2
  have e1 : (x : Int) - (Um.setlN x : Int) + -1 = Um.penN x := by unfold Um.setlN Um.penN; omega
  have e2 : (x : Int) / 16 = (Um.seqN x : Int) := by unfold Um.seqN; omega
  rw [e1, e2]
  refine bodyPost_ret (v := .agg #[.int .u64 (Um.seqN x : Nat), .int .i64 (Um.penN x)]) (by simp [results, Try.results84, go_sem]) rfl ⟨rfl, ?_⟩
  exact (Below.refl _ _).alloc (Nat.le_refl _) _

set_option maxHeartbeats 400000 in
theorem trUnpack_any (x : Nat) (w : World) (hx : Um.Word x) :
    Calls Try.prog 43 #[.int .u64 x] w fun e w' => e = .returned (.agg #[.int .u64 (Um.seqN x : Nat), .int .i64 (Um.penN x)]) ∧ Below w.heap.size w w' := by
  go_enter Try.func43, Try.ntmps43
  go_wp2
  have e1 : (x : Int) % 16 - 1 = Um.penN x := by unfold Um.penN; omega
  have e2 : IntKind.u64.wrap ((x : Int) / 16) = (Um.seqN x : Int) := by rw [IntKind.wrap_u64]; unfold Um.Word at hx; unfold Um.seqN; omega
  rw [e1, e2]
  refine bodyPost_ret (v := .agg #[.int .u64 (Um.seqN x : Nat), .int .i64 (Um.penN x)]) (by simp [results, Try.results43, go_sem]) rfl ⟨rfl, ?_⟩
  exact (Below.refl _ _).alloc (Nat.le_refl _) _

theorem pack_or {s : Nat} {p : Int} (h : Um.tok s p = true) : bits .or .u64 ((s : Int) * 16) (p + 1) = (Um.tpack s p : Int) := by
  obtain ⟨h1, h2, h3⟩ := Um.tok_iff.1 h
  have e1 : (s : Int) * 16 = ((16 * s : Nat) : Int) := by omega
  have e2 : p + 1 = ((p + 1).toNat : Int) := by omega
  rw [e1, e2, u64_or_nat _ _ (by omega) (by omega), Um.or_low _ _ (by omega), Um.tpack_yes h]

end Go.Proofs.Ytkiaogbddfjkkaa

/-
  The walks of layer 1's functions on words, and of the document's answers for them.
-/
namespace Go.Proofs.Ytkiaogbddfjkkaa
set_option maxRecDepth 100000
open Go.RowKit

theorem bits_drop (y : Nat) (a b : Int) (hy : Um.Word y) (hh : Um.hasN y a b = true) : bits .andNot .u64 (y : Int) (Um.slotN a b : Int) = (Um.dropAt y a b false : Int) := by
  have ho : Um.okS a b = true := by unfold Um.hasN at hh; revert hh; cases Um.okS a b <;> simp
  rw [u64_andNot_nat _ _ hy (Um.slot_word a b)]
  unfold Um.dropAt Um.slotN
  rw [if_pos ho, if_pos hh, Um.andNot_pow _ _ hy (by have := Um.bitAt_lt ho; omega)]
  rfl

theorem bits_past (y k : Nat) (b : Int) (hy : Um.Word y) (hk : k < 2) (hh : Um.hasN y k b = true) :
    bits .or .u64 (bits .andNot .u64 (y : Int) (Um.slotN k b : Int)) (2 ^ (24 + k)) = (Um.dropAt y k b true : Int) := by
  rw [bits_drop _ _ _ hy hh, show ((2:Int) ^ (24 + k)) = ((2 ^ (24 + k) : Nat) : Int) by simp, u64_or_nat _ _ (Um.dropAt_word hy _ _ _) (pow_word (by omega)), Um.or_pow]
  unfold Um.dropAt
  rw [if_pos hh, if_pos hh, show ((24 : Int) + k).toNat = 24 + k by omega]
  rfl

end Go.Proofs.Ytkiaogbddfjkkaa

/-
  The walks of packing and unpacking.
-/
namespace Go.Proofs.Ytkiaogbddfjkkaa
set_option maxRecDepth 100000
open Go.RowKit

attribute [local go_sem] alloc_drewN setCell_drewN

theorem div_word {x k : Nat} (h : Um.Word x) : Um.Word (x / k) := Nat.lt_of_le_of_lt (Nat.div_le_self _ _) h

theorem and_part (y n : Nat) (hy : Um.Word y) (hn : n < 63) : wrap64 (bits .and .u64 (y : Int) ((2 ^ n - 1 : Nat) : Int)) = (Um.part y 0 n : Int) := by
  have h1 : Um.Word (2 ^ n - 1) := Nat.lt_of_le_of_lt (Nat.sub_le _ _) (pow_word (by omega))
  have e : Um.part y 0 n = y % 2 ^ n := by unfold Um.part; simp
  rw [u64_and_nat _ _ hy h1, Um.and_mask, e]
  apply wrap64_small
  have h2 := Nat.mod_lt y (Nat.two_pow_pos n)
  have h3 : 2 ^ n < 2 ^ 63 := Nat.pow_lt_pow_right (by decide) hn
  rw [show (2:Nat) ^ 63 = 9223372036854775808 by decide] at h3
  omega

set_option maxHeartbeats 400000 in
theorem take_any (y : Nat) (a : Int) (B : Nat) (w : World) (hy : Um.Word y) (h0 : 0 ≤ a) (h1 : a < 63)
    (hc : w.cell? ⟨B, 0, none⟩ = some (.int .u64 y)) (hf : w.frozen? ⟨B, 0, none⟩ = false) :
    Calls Try.prog 74 #[.int .i64 a, .pointer (some ⟨B, 0, none⟩)] w fun e w' =>
      e = .returned (.int .i64 (Um.part y 0 a.toNat)) ∧ ∃ n, w' = (w.setCell ⟨B, 0, none⟩ (.int .u64 (y / 2 ^ a.toNat : Nat))).drewN n := by
  go_enter Try.func74, Try.ntmps74
  go_wp2
  go_quiet ((go_at_call 75; exact Calls.quiet_of_same (ones_any _ _ (by omega) (by omega))))
  go_wp2
  go_ret
  refine ⟨ret_i64 (and_part _ _ hy (by omega)), nq, ?_⟩
  rw [show ((y : Int) / 2 ^ a.toNat) = ((y / 2 ^ a.toNat : Nat) : Int) by simp]

set_option maxHeartbeats 4000000 in
theorem unpack_any (x : Nat) (w : World) (hx : Um.Word x) :
    Calls Try.prog 63 #[.int .u64 x] w fun e w' => e = .returned (.agg #[.int .i64 (Um.part x 30 32), .int .i64 (Um.part x 27 3), .bool (x.testBit 26), .bool (x.testBit 25), .bool (x.testBit 24), .int .i64 (Um.part x 12 12), .int .i64 (Um.part x 0 12)]) ∧ Below w.heap.size w w' := by
  go_enter Try.func63, Try.ntmps63
  go_wp2_with fail
  refine (take_any (x) _ _ _ (by repeat (first | exact hx | apply div_word)) (by omega) (by omega) (by go_simp) (by go_simp)).mono ?_
  rintro e w' ⟨rfl, n0, rfl⟩
  go_wp2_with fail
  refine (take_any (x / 2 ^ 12) _ _ _ (by repeat (first | exact hx | apply div_word)) (by omega) (by omega) (by go_simp) (by go_simp)).mono ?_
  rintro e w' ⟨rfl, n1, rfl⟩
  go_wp2_with fail
  refine (take_any (x / 2 ^ 12 / 2 ^ 12) _ _ _ (by repeat (first | exact hx | apply div_word)) (by omega) (by omega) (by go_simp) (by go_simp)).mono ?_
  rintro e w' ⟨rfl, n2, rfl⟩
  go_wp2_with fail
  refine (take_any (x / 2 ^ 12 / 2 ^ 12 / 2 ^ 1) _ _ _ (by repeat (first | exact hx | apply div_word)) (by omega) (by omega) (by go_simp) (by go_simp)).mono ?_
  rintro e w' ⟨rfl, n3, rfl⟩
  go_wp2_with fail
  refine (take_any (x / 2 ^ 12 / 2 ^ 12 / 2 ^ 1 / 2 ^ 1) _ _ _ (by repeat (first | exact hx | apply div_word)) (by omega) (by omega) (by go_simp) (by go_simp)).mono ?_
  rintro e w' ⟨rfl, n4, rfl⟩
  go_wp2_with fail
  refine (take_any (x / 2 ^ 12 / 2 ^ 12 / 2 ^ 1 / 2 ^ 1 / 2 ^ 1) _ _ _ (by repeat (first | exact hx | apply div_word)) (by omega) (by omega) (by go_simp) (by go_simp)).mono ?_
  rintro e w' ⟨rfl, n5, rfl⟩
  go_wp2_with fail
  refine (take_any (x / 2 ^ 12 / 2 ^ 12 / 2 ^ 1 / 2 ^ 1 / 2 ^ 1 / 2 ^ 3) _ _ _ (by repeat (first | exact hx | apply div_word)) (by omega) (by omega) (by go_simp) (by go_simp)).mono ?_
  rintro e w' ⟨rfl, n6, rfl⟩
  go_wp2
  simp only [Um.un12, Um.un24, Um.un25, Um.un26, Um.un27, Um.un30]
  refine bodyPost_ret (v := .agg #[.int .i64 (Um.part x 30 32), .int .i64 (Um.part x 27 3), .bool (x.testBit 26), .bool (x.testBit 25), .bool (x.testBit 24), .int .i64 (Um.part x 12 12), .int .i64 (Um.part x 0 12)]) (by simp [results, Try.results63, go_sem]) rfl ⟨rfl, ?_⟩
  apply below_drewN
  exact (((Below.refl _ _).alloc (Nat.le_refl _) _).alloc (by simp) _).alloc (by simp; omega) _

end Go.Proofs.Ytkiaogbddfjkkaa

/-
  '==' of two statuses: field by field.
-/
namespace Go.Proofs.Ytkiaogbddfjkkaa
set_option maxRecDepth 100000
open Go.RowKit

set_option maxHeartbeats 1000000 in
theorem eqStatus (T : TypeId) (hT : T = 123 ∨ T = 115) (g st : Int) (b i o : Bool) (n t : Int) (g' st' : Int) (b' i' o' : Bool) (n' t' : Int) (w : World) :
    (Op.equalIn 10000 T (.agg #[.int .i64 g, .int .i64 st, .bool b, .bool i, .bool o, .int .i64 n, .int .i64 t]) (.agg #[.int .i64 g', .int .i64 st', .bool b', .bool i', .bool o', .int .i64 n', .int .i64 t'])).run Try.prog w
      = .ok (decide (g = g' ∧ st = st' ∧ b = b' ∧ i = i' ∧ o = o' ∧ n = n' ∧ t = t')) w := by
  rw [show (10000:Nat) = 9999 + 1 from rfl]
  rcases hT with rfl | rfl
  all_goals
    rw [run_equalIn_agg w 9999 _ _ _ (by kernel_rfl) (by kernel_rfl)]
    go_simp
    (repeat' split) <;> simp_all

theorem neqStatus (T : TypeId) (hT : T = 123 ∨ T = 115) {g st : Int} {b i o : Bool} {n t : Int} {g' st' : Int} {b' i' o' : Bool} {n' t' : Int} {r : Bool}
    (hr : r = decide (g = g' ∧ st = st' ∧ b = b' ∧ i = i' ∧ o = o' ∧ n = n' ∧ t = t')) (w : World) :
    (binOp .neq T (.agg #[.int .i64 g, .int .i64 st, .bool b, .bool i, .bool o, .int .i64 n, .int .i64 t]) (.agg #[.int .i64 g', .int .i64 st', .bool b', .bool i', .bool o', .int .i64 n', .int .i64 t'])).run Try.prog w
      = .ok (.bool (!r)) w := by
  rw [run_neq_struct, eqStatus T hT, hr]
  rfl

theorem eqlStatus (T : TypeId) (hT : T = 123 ∨ T = 115) {g st : Int} {b i o : Bool} {n t : Int} {g' st' : Int} {b' i' o' : Bool} {n' t' : Int} {r : Bool}
    (hr : r = decide (g = g' ∧ st = st' ∧ b = b' ∧ i = i' ∧ o = o' ∧ n = n' ∧ t = t')) (w : World) :
    (binOp .eql T (.agg #[.int .i64 g, .int .i64 st, .bool b, .bool i, .bool o, .int .i64 n, .int .i64 t]) (.agg #[.int .i64 g', .int .i64 st', .bool b', .bool i', .bool o', .int .i64 n', .int .i64 t'])).run Try.prog w
      = .ok (.bool r) w := by
  rw [run_eql_struct, eqStatus T hT, hr]
  rfl

end Go.Proofs.Ytkiaogbddfjkkaa
