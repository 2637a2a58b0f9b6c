/-
  Texts that the laws stand on, merged (HelpMath2, HelpMath3, StoreN, StoreZ2, HelpX, HelpE, HelpR).
-/
import Derived.Test.YtkiaogbddfjkkaaM11
import Derived.Test.YtkiaogbddfjkkaaM3
import Derived.Test.YtkiaogbddfjkkaaM4
import Derived.Test.YtkiaogbddfjkkaaM5
import Derived.LoopTactic

/-
  Plain arithmetic of layer 8: however many help, each word is as it was, or as one leaves it. No Go in sight.
-/
namespace Um
set_option maxRecDepth 100000

theorem swap_ws (c : Cf) (m : Mm) (a b : Int) (o v i : Nat) : (mtouch c m 3 a b o v).ws i = if (i : Int) = c.cl a b ∧ m.ws i = o then v else m.ws i := by
  unfold mtouch
  split
  · rename_i h
    show putW m.ws (c.cl a b).toNat (trn 3 o v (m.ws (c.cl a b).toNat)) i = _
    by_cases e : i = (c.cl a b).toNat
    · subst e
      rw [putW_same]
      have e1 : (((c.cl a b).toNat : Nat) : Int) = c.cl a b := by omega
      simp [trn, e1]
    · rw [putW_other e, if_neg (by intro ⟨h1, _⟩; omega)]
  · rename_i h
    rw [if_neg (by intro ⟨h1, _⟩; omega)]
    rfl

theorem swap_done (c : Cf) (m : Mm) (a b : Int) (o v : Nat) : (mtouch c m 3 a b o v).l.done = decide (0 ≤ c.cl a b ∧ m.ws (c.cl a b).toNat = o) := by
  unfold mtouch
  split
  · rename_i h
    show trd 3 o (m.ws (c.cl a b).toNat) = _
    simp [trd, h]
    rfl
  · rename_i h
    simp [mmiss, h]

theorem load_old (c : Cf) (m : Mm) (a b : Int) : (mtouch c m 1 a b 0 0).l.old = if 0 ≤ c.cl a b then m.ws (c.cl a b).toNat else 0 := by
  unfold mtouch
  split <;> rfl

/-- the cells of a slot that is pending -/
def iS (c : Cf) (w : Nat) : Int := c.cl 4 (penN w)
def iN (c : Cf) (w : Nat) : Int := c.cl 6 (penN w)

theorem cl_tally {c : Cf} (h : c.r = true) : c.cl 1 0 = 0 := by simp [Cf.cl, cellN, h]

theorem i_facts {c : Cf} (h : c.r = true) (w : Nat) : (iS c w = -1 ∧ iN c w = -1) ∨ (0 < iS c w ∧ iN c w = iS c w + 2) := by
  have hb := c.rb h
  unfold iS iN Cf.cl cellN
  rw [h]
  simp only [if_true]
  by_cases hp : 0 ≤ penN w ∧ penN w < c.s
  · right
    simp [hp]
    omega
  · left
    have h1 : ¬ (0 ≤ penN w ∧ penN w < c.s) := hp
    simp
    omega

/-- what one leaves -/
def hgN (c : Cf) (w : Nat) (ws : Nat → Nat) (i : Nat) : Nat :=
  if i = 0 then (if ws 0 = w then setlN w else ws 0)
  else if (i : Int) = iN c w then (if ws i = 0 then seqN w else ws i)
  else if (i : Int) = iS c w then (if stN (ws i) = 3 then comN (ws i) else ws i)
  else ws i

theorem st_com (x : Nat) : stN (comN x) = 4 := (move_parts x 4 (x.testBit 26) (by decide)).2.1

/-- each word is as it was, or as one leaves it -/
def Mix (c : Cf) (w : Nat) (ws0 ws : Nat → Nat) : Prop := ∀ i, ws i = ws0 i ∨ ws i = hgN c w ws0 i

/-- what a help knows -/
structure Knows (c : Cf) (w : Nat) (ws0 ws : Nat → Nat) (h : Hs) : Prop where
  nx : h.nx ≤ 4
  num : 1 ≤ h.nx → 0 ≤ iN c w → ws (iN c w).toNat = hgN c w ws0 (iN c w).toNat
  lay : h.nx = 2 → 0 ≤ iS c w ∧ h.s = ws0 (iS c w).toNat ∧ stN (ws0 (iS c w).toNat) = 3
  set : 3 ≤ h.nx → 0 ≤ iS c w → ws (iS c w).toNat = hgN c w ws0 (iS c w).toNat
  tal : h.nx = 4 → ws 0 = hgN c w ws0 0

theorem tg_N {c : Cf} (hr : c.r = true) {w : Nat} {ws : Nat → Nat} {i : Nat} (h : (i : Int) = iN c w) : hgN c w ws i = if ws i = 0 then seqN w else ws i := by
  have := i_facts hr w
  unfold hgN
  rw [if_neg (by omega), if_pos h]

theorem tg_S {c : Cf} (hr : c.r = true) {w : Nat} {ws : Nat → Nat} {i : Nat} (h : (i : Int) = iS c w) : hgN c w ws i = if stN (ws i) = 3 then comN (ws i) else ws i := by
  have := i_facts hr w
  unfold hgN
  rw [if_neg (by omega), if_neg (by omega), if_pos h]

theorem tg_T (c : Cf) (w : Nat) (ws : Nat → Nat) : hgN c w ws 0 = if ws 0 = w then setlN w else ws 0 := by
  unfold hgN
  rw [if_pos rfl]

/-- a swap that, where it is done, lays what one leaves -/
theorem toward {c : Cf} {m : Mm} {a b : Int} {o v : Nat} {ws0 tg : Nat → Nat} (hm : ∀ i, m.ws i = ws0 i ∨ m.ws i = tg i) (hq : ∀ i : Nat, (i : Int) = c.cl a b → m.ws i = o → v = tg i) :
    (∀ i, (mtouch c m 3 a b o v).ws i = ws0 i ∨ (mtouch c m 3 a b o v).ws i = tg i) ∧ (∀ i, m.ws i = tg i → (mtouch c m 3 a b o v).ws i = tg i) := by
  refine ⟨fun i => ?_, fun i h => ?_⟩ <;> rw [swap_ws]
  · split
    · rename_i h
      exact .inr (hq i h.1 h.2)
    · exact hm i
  · split
    · rename_i h2
      exact hq i h2.1 h2.2
    · exact h

theorem Knows.keep {c : Cf} {w : Nat} {ws0 ws ws' : Nat → Nat} {h : Hs} (hK : Knows c w ws0 ws h) (hs : ∀ i, ws i = hgN c w ws0 i → ws' i = hgN c w ws0 i) : Knows c w ws0 ws' h :=
  ⟨hK.nx, fun h1 h2 => hs _ (hK.num h1 h2), hK.lay, fun h1 h2 => hs _ (hK.set h1 h2), fun h1 => hs _ (hK.tal h1)⟩

theorem know_step {c : Cf} (hr : c.r = true) {w : Nat} {ws0 : Nat → Nat} {h : Hs} (hM : Mix c w ws0 h.m.ws) (hK : Knows c w ws0 h.m.ws h) :
    Mix c w ws0 (hstep c w h).m.ws ∧ Knows c w ws0 (hstep c w h).m.ws (hstep c w h) ∧ (∀ i, h.m.ws i = hgN c w ws0 i → (hstep c w h).m.ws i = hgN c w ws0 i) := by
  have hi := i_facts hr w
  unfold hstep
  split
  · rename_i e0
    have hq : ∀ i : Nat, (i : Int) = c.cl 6 (penN w) → h.m.ws i = 0 → seqN w = hgN c w ws0 i := by
      intro i h1 h2
      rw [tg_N hr h1]
      rcases hM i with e | e
      · rw [if_pos (by omega)]
      · rw [tg_N hr h1] at e
        split
        · rfl
        · rename_i h3
          rw [if_neg h3] at e
          omega
    obtain ⟨m1, m2⟩ := toward (c := c) (a := 6) (b := penN w) (o := 0) (v := seqN w) hM hq
    refine ⟨m1, ⟨by show 1 ≤ 4; decide, fun _ hn => ?_, (fun h => by cases h), (fun h => absurd (show 3 ≤ 1 from h) (by decide)), (fun h => by cases h)⟩, m2⟩
    have e1 : (((iN c w).toNat : Nat) : Int) = iN c w := by omega
    show (mtouch c h.m 3 6 (penN w) 0 (seqN w)).ws (iN c w).toNat = _
    rw [swap_ws]
    split
    · rename_i h1
      exact hq _ h1.1 h1.2
    · rename_i h1
      have h2 : h.m.ws (iN c w).toNat ≠ 0 := fun e => h1 ⟨e1, e⟩
      rcases hM (iN c w).toNat with e | e
      · rw [tg_N hr e1, if_neg (by omega)]
        exact e
      · exact e
  split
  · rename_i e0 e1
    have hws : (mtouch c h.m 1 4 (penN w) 0 0).ws = h.m.ws := load_ws c h.m 4 (penN w)
    have hold : (mtouch c h.m 1 4 (penN w) 0 0).l.old = if 0 ≤ iS c w then h.m.ws (iS c w).toNat else 0 := load_old c h.m 4 (penN w)
    generalize (mtouch c h.m 1 4 (penN w) 0 0).l.old = old at hold ⊢
    dsimp only
    rw [hws]
    by_cases h3 : stN old = 3
    · rw [if_pos h3]
      refine ⟨hM, ⟨(show 2 ≤ 4 by decide), fun _ hn => hK.num (by omega) hn, fun _ => ?_, (fun h => absurd (show 3 ≤ 2 from h) (by decide)), (fun h => by cases h)⟩, fun i h => h⟩
      by_cases hp : 0 ≤ iS c w
      · rw [if_pos hp] at hold
        have e2 : (((iS c w).toNat : Nat) : Int) = iS c w := by omega
        rcases hM (iS c w).toNat with e | e
        · exact ⟨hp, hold.trans e, by rw [← e, ← hold]; exact h3⟩
        · exfalso
          rw [hold, e, tg_S hr e2] at h3
          split at h3
          · rw [st_com] at h3
            omega
          · omega
      · rw [if_neg hp] at hold
        rw [hold] at h3
        exact absurd h3 (by decide)
    · rw [if_neg h3]
      refine ⟨hM, ⟨(show 3 ≤ 4 by decide), fun _ hn => hK.num (by omega) hn, (fun h => by cases h), fun _ hp => ?_, (fun h => by cases h)⟩, fun i h => h⟩
      rw [if_pos hp] at hold
      have e2 : (((iS c w).toNat : Nat) : Int) = iS c w := by omega
      rcases hM (iS c w).toNat with e | e
      · rw [tg_S hr e2, if_neg (by rw [← e, ← hold]; exact h3)]
        exact e
      · exact e
  split
  · rename_i e0 e1 e2
    obtain ⟨hp, hs, h3⟩ := hK.lay e2
    have e3 : (((iS c w).toNat : Nat) : Int) = iS c w := by omega
    have hq : ∀ i : Nat, (i : Int) = c.cl 4 (penN w) → h.m.ws i = h.s → comN h.s = hgN c w ws0 i := by
      intro i h1 h2
      have : i = (iS c w).toNat := by
        have : (i : Int) = iS c w := h1
        omega
      subst this
      rw [tg_S hr e3, if_pos h3, hs]
    obtain ⟨m1, m2⟩ := toward (c := c) (a := 4) (b := penN w) (o := h.s) (v := comN h.s) hM hq
    have hd := swap_done c h.m 4 (penN w) h.s (comN h.s)
    refine ⟨m1, ⟨?_, fun _ hn => m2 _ (hK.num (by omega) hn), ?_, ?_, ?_⟩, m2⟩
    · show cond _ 3 1 ≤ 4
      cases (mtouch c h.m 3 4 (penN w) h.s (comN h.s)).l.done <;> decide
    · show cond _ 3 1 = 2 → _
      cases (mtouch c h.m 3 4 (penN w) h.s (comN h.s)).l.done <;> (intro h; cases h)
    · show 3 ≤ cond _ 3 1 → _
      intro hge hp2
      cases hd2 : (mtouch c h.m 3 4 (penN w) h.s (comN h.s)).l.done with
      | false => rw [hd2] at hge; exact absurd hge (by decide)
      | true =>
        rw [hd] at hd2
        have h4 := of_decide_eq_true hd2
        show (mtouch c h.m 3 4 (penN w) h.s (comN h.s)).ws (iS c w).toNat = _
        rw [swap_ws, if_pos ⟨e3, h4.2⟩]
        exact hq _ e3 h4.2
    · show cond _ 3 1 = 4 → _
      cases (mtouch c h.m 3 4 (penN w) h.s (comN h.s)).l.done <;> (intro h; cases h)
  split
  · rename_i e0 e1 e2 e3
    have hq : ∀ i : Nat, (i : Int) = c.cl 1 0 → h.m.ws i = w → setlN w = hgN c w ws0 i := by
      intro i h1 h2
      rw [cl_tally hr] at h1
      obtain rfl : i = 0 := by omega
      rw [tg_T]
      rcases hM 0 with e | e
      · rw [if_pos (by omega)]
      · rw [tg_T] at e
        split
        · rfl
        · rename_i h3
          rw [if_neg h3] at e
          omega
    obtain ⟨m1, m2⟩ := toward (c := c) (a := 1) (b := 0) (o := w) (v := setlN w) hM hq
    refine ⟨m1, ⟨by show 4 ≤ 4; decide, fun _ hn => m2 _ (hK.num (by omega) hn), (fun h => by cases h), fun _ hn => m2 _ (hK.set (by omega) hn), fun _ => ?_⟩, m2⟩
    show (mtouch c h.m 3 1 0 w (setlN w)).ws 0 = _
    rw [swap_ws]
    split
    · rename_i h1
      exact hq 0 h1.1 h1.2
    · rename_i h1
      have h2 : h.m.ws 0 ≠ w := fun e => h1 ⟨by rw [cl_tally hr]; rfl, e⟩
      rcases hM 0 with e | e
      · rw [tg_T, if_neg (by omega)]
        exact e
      · exact e
  · exact ⟨hM, hK, fun i h => h⟩

/-- so many steps -/
def hit (c : Cf) (w : Nat) (h : Hs) : Nat → Hs
  | 0 => h
  | k + 1 => hstep c w (hit c w h k)

/-- how many steps are left at most -/
def left (c : Cf) (w : Nat) (ws0 : Nat → Nat) (h : Hs) : Nat :=
  if h.nx = 0 then 6 else if h.nx = 1 then (if 0 ≤ iS c w ∧ h.m.ws (iS c w).toNat ≠ hgN c w ws0 (iS c w).toNat then 4 else 2) else if h.nx = 2 then 3 else if h.nx = 3 then 1 else 0

theorem left_step {c : Cf} (hr : c.r = true) {w : Nat} {ws0 : Nat → Nat} {h : Hs} (hM : Mix c w ws0 h.m.ws) (hK : Knows c w ws0 h.m.ws h) (hn : h.nx ≠ 4) : left c w ws0 (hstep c w h) < left c w ws0 h := by
  have hi := i_facts hr w
  have hK4 := hK.nx
  unfold hstep
  split
  · rename_i e0
    have : left c w ws0 h = 6 := by unfold left; rw [if_pos e0]
    rw [this]
    unfold left
    dsimp only
    (repeat' split) <;> omega
  split
  · rename_i e0 e1
    have hws : (mtouch c h.m 1 4 (penN w) 0 0).ws = h.m.ws := load_ws c h.m 4 (penN w)
    have hold : (mtouch c h.m 1 4 (penN w) 0 0).l.old = if 0 ≤ iS c w then h.m.ws (iS c w).toNat else 0 := load_old c h.m 4 (penN w)
    rw [hold]
    by_cases hp : 0 ≤ iS c w ∧ h.m.ws (iS c w).toNat ≠ hgN c w ws0 (iS c w).toNat
    · have : left c w ws0 h = 4 := by unfold left; rw [if_neg e0, if_pos e1, if_pos hp]
      rw [this]
      unfold left
      dsimp only
      (repeat' split) <;> omega
    · have : left c w ws0 h = 2 := by unfold left; rw [if_neg e0, if_pos e1, if_neg hp]
      rw [this]
      have h3 : ¬ stN (if 0 ≤ iS c w then h.m.ws (iS c w).toNat else 0) = 3 := by
        by_cases h0 : 0 ≤ iS c w
        · rw [if_pos h0]
          have e2 : (((iS c w).toNat : Nat) : Int) = iS c w := by omega
          have e : h.m.ws (iS c w).toNat = hgN c w ws0 (iS c w).toNat := by
            rcases Decidable.em (h.m.ws (iS c w).toNat = hgN c w ws0 (iS c w).toNat) with e | e
            · exact e
            · exact absurd ⟨h0, e⟩ hp
          rw [e, tg_S hr e2]
          split
          · rw [st_com]; omega
          · omega
        · rw [if_neg h0]
          decide
      rw [if_neg h3]
      show (1 : Nat) < 2
      decide
  split
  · rename_i e0 e1 e2
    obtain ⟨hp, hs, h3⟩ := hK.lay e2
    have e3 : (((iS c w).toNat : Nat) : Int) = iS c w := by omega
    have : left c w ws0 h = 3 := by unfold left; rw [if_neg e0, if_neg e1, if_pos e2]
    rw [this]
    have hd := swap_done c h.m 4 (penN w) h.s (comN h.s)
    cases hd2 : (mtouch c h.m 3 4 (penN w) h.s (comN h.s)).l.done with
    | true =>
      show (1 : Nat) < 3
      decide
    | false =>
      rw [hd] at hd2
      have h4 := of_decide_eq_false hd2
      have h5 : h.m.ws (iS c w).toNat ≠ h.s := fun e => h4 ⟨hp, e⟩
      have h6 : h.m.ws (iS c w).toNat = hgN c w ws0 (iS c w).toNat := by
        rcases hM (iS c w).toNat with e | e
        · rw [hs] at h5; exact absurd e h5
        · exact e
      have h7 : (mtouch c h.m 3 4 (penN w) h.s (comN h.s)).ws (iS c w).toNat = hgN c w ws0 (iS c w).toNat := by
        rw [swap_ws, if_neg (fun e => h5 e.2)]
        exact h6
      unfold left
      dsimp only [cond_false]
      rw [if_neg (by decide), if_pos rfl, if_neg (fun e => e.2 h7)]
      decide
  split
  · rename_i e0 e1 e2 e3
    have : left c w ws0 h = 1 := by unfold left; rw [if_neg e0, if_neg e1, if_neg e2, if_pos e3]
    rw [this]
    show (0 : Nat) < 1
    decide
  · omega

/-- where a help is done, and each word is as it was or as one leaves it, each is as one leaves it -/
theorem know_end {c : Cf} (hr : c.r = true) {w : Nat} {ws0 : Nat → Nat} {h : Hs} (hM : Mix c w ws0 h.m.ws) (hK : Knows c w ws0 h.m.ws h) (hn : h.nx = 4) : ∀ i, h.m.ws i = hgN c w ws0 i := by
  have hi := i_facts hr w
  intro i
  by_cases e0 : i = 0
  · subst e0; exact hK.tal hn
  by_cases e1 : (i : Int) = iN c w
  · have := hK.num (by omega) (by omega)
    rw [show (iN c w).toNat = i by omega] at this
    exact this
  by_cases e2 : (i : Int) = iS c w
  · have := hK.set (by omega) (by omega)
    rw [show (iS c w).toNat = i by omega] at this
    exact this
  rcases hM i with e | e
  · rw [e]; unfold hgN; rw [if_neg e0, if_neg e1, if_neg e2]
  · exact e

end Um

/-
  Plain arithmetic of layer 8: a help to its end. No Go in sight.
-/
namespace Um
set_option maxRecDepth 100000

theorem hstep_4 {c : Cf} {w : Nat} {h : Hs} (hn : h.nx = 4) : hstep c w h = h := by
  unfold hstep
  rw [if_neg (by omega), if_neg (by omega), if_neg (by omega), if_neg (by omega)]

theorem hit_done {c : Cf} {w : Nat} {h : Hs} {q : Nat} (hn : (hit c w h q).nx = 4) {k : Nat} (hk : q ≤ k) : hit c w h k = hit c w h q := by
  obtain ⟨d, rfl⟩ : ∃ d, k = q + d := ⟨k - q, by omega⟩
  clear hk
  induction d with
  | zero => rfl
  | succ d ih =>
    show hstep c w (hit c w h (q + d)) = _
    rw [ih]
    exact hstep_4 hn

theorem hit_mix {c : Cf} (hr : c.r = true) {w : Nat} {ws0 : Nat → Nat} {h : Hs} (hM : Mix c w ws0 h.m.ws) (hK : Knows c w ws0 h.m.ws h) (k : Nat) :
    Mix c w ws0 (hit c w h k).m.ws ∧ Knows c w ws0 (hit c w h k).m.ws (hit c w h k) ∧ (∀ i, h.m.ws i = hgN c w ws0 i → (hit c w h k).m.ws i = hgN c w ws0 i) ∧ (left c w ws0 (hit c w h k) + k ≤ left c w ws0 h ∨ (hit c w h k).nx = 4) := by
  induction k with
  | zero => exact ⟨hM, hK, fun i h => h, .inl (Nat.le_refl _)⟩
  | succ k ih =>
    obtain ⟨h1, h2, h3, h4⟩ := ih
    obtain ⟨s1, s2, s3⟩ := know_step hr h1 h2
    refine ⟨s1, s2, fun i e => s3 i (h3 i e), ?_⟩
    by_cases hn : (hit c w h k).nx = 4
    · right
      show (hstep c w (hit c w h k)).nx = 4
      rw [hstep_4 hn]
      exact hn
    · rcases h4 with h4 | h4
      · have := left_step hr h1 h2 hn
        left
        show left c w ws0 (hstep c w (hit c w h k)) + (k + 1) ≤ _
        omega
      · exact absurd h4 hn

theorem left_le (c : Cf) (w : Nat) (ws0 : Nat → Nat) (h : Hs) : left c w ws0 h ≤ 6 := by
  unfold left
  (repeat' split) <;> omega

/-- each ends, and all words are as one leaves them -/
theorem hit_ends {c : Cf} (hr : c.r = true) {w : Nat} {ws0 : Nat → Nat} {h : Hs} (hM : Mix c w ws0 h.m.ws) (hK : Knows c w ws0 h.m.ws h) {k : Nat} (hk : 7 ≤ k) :
    (hit c w h k).nx = 4 ∧ ∀ i, (hit c w h k).m.ws i = hgN c w ws0 i := by
  obtain ⟨h1, h2, _, h4⟩ := hit_mix hr hM hK k
  have h5 : (hit c w h k).nx = 4 := by
    rcases h4 with h4 | h4
    · have := left_le c w ws0 h
      omega
    · exact h4
  exact ⟨h5, know_end hr h1 h2 h5⟩

theorem mix_refl (c : Cf) (w : Nat) (ws : Nat → Nat) : Mix c w ws ws := fun _ => .inl rfl

theorem knows_new {c : Cf} (hr : c.r = true) (w : Nat) (m : Mm) (s : Nat) : Knows c w m.ws m.ws ⟨m, hfst w, s⟩ := by
  have hi := i_facts hr w
  unfold hfst
  by_cases hp : penN w < 0
  · rw [if_pos hp]
    have hz : w % 16 = 0 := by unfold penN at hp; omega
    have hneg : iN c w = -1 ∧ iS c w = -1 := by
      unfold iN iS Cf.cl cellN
      rw [hr]
      have : ¬ (0 ≤ penN w ∧ penN w < c.s) := by omega
      simp
      omega
    refine ⟨(show 4 ≤ 4 by decide), fun _ h => by omega, (fun h => by cases h), fun _ h => by omega, fun _ => ?_⟩
    rw [tg_T]
    split
    · rename_i e
      rw [e]
      unfold setlN
      omega
    · rfl
  · rw [if_neg hp]
    exact ⟨(show 0 ≤ 4 by decide), (fun h => absurd (show 1 ≤ 0 from h) (by decide)), (fun h => by cases h), (fun h => absurd (show 3 ≤ 0 from h) (by decide)), (fun h => by cases h)⟩

/-- whose words one changes -/
theorem only8 {c : Cf} (hr : c.r = true) {x : Nat} {ws : Nat → Nat} {j : Nat} (hne : hgN c x ws j ≠ ws j) :
    (atK c.r c.t c.s c.k (j : Int) = 1 ∧ atO c.r c.t c.s c.k (j : Int) = 0) ∨ (0 ≤ penN x ∧ (atK c.r c.t c.s c.k (j : Int) = 4 ∨ atK c.r c.t c.s c.k (j : Int) = 6) ∧ atO c.r c.t c.s c.k (j : Int) = penN x) := by
  have hi := i_facts hr x
  have hp : 0 ≤ iS c x → 0 ≤ penN x := by
    unfold iS Cf.cl cellN
    rw [hr]
    intro h
    by_cases hq : 0 ≤ penN x
    · exact hq
    · exfalso
      simp [hq] at h
  unfold hgN at hne
  split at hne
  · rename_i e
    have h := cell_at (a := 1) (b := 0) c.rb (show 0 ≤ c.cl 1 0 by rw [cl_tally hr]; decide)
    left
    rw [show (j : Int) = cellN c.r c.t c.s c.k 1 0 from by rw [e]; exact (cl_tally hr).symm]
    exact h.2
  split at hne
  · rename_i e1 e
    have h := cell_at (a := 6) (b := penN x) c.rb (show 0 ≤ iN c x by omega)
    right
    rw [show (j : Int) = cellN c.r c.t c.s c.k 6 (penN x) from e]
    exact ⟨hp (by omega), .inr h.2.1, h.2.2⟩
  split at hne
  · rename_i e1 e2 e
    have h := cell_at (a := 4) (b := penN x) c.rb (show 0 ≤ iS c x by omega)
    right
    rw [show (j : Int) = cellN c.r c.t c.s c.k 4 (penN x) from e]
    exact ⟨hp (by omega), .inl h.2.1, h.2.2⟩
  · exact absurd rfl hne

/-- late: nothing is changed -/
theorem late8 {c : Cf} {x : Nat} {ws : Nat → Nat} (h0 : ws 0 ≠ x) (hs : stN (ws (iS c x).toNat) ≠ 3) (hn : ws (iN c x).toNat ≠ 0) (j : Nat) : hgN c x ws j = ws j := by
  unfold hgN
  split
  · rename_i e
    subst e
    rfl
  split
  · rename_i e1 e
    rw [show (iN c x).toNat = j by omega] at hn
    rw [if_neg hn]
  split
  · rename_i e1 e2 e
    rw [show (iS c x).toNat = j by omega] at hs
    rw [if_neg hs]
  · rfl

theorem iS_pos {c : Cf} (hr : c.r = true) {x : Nat} (hp0 : 0 ≤ penN x) (hp1 : penN x < c.s) : 0 < iS c x ∧ iN c x = iS c x + 2 := by
  rcases i_facts hr x with h | h
  · exfalso
    have hb := c.rb hr
    have := h.1
    unfold iS Cf.cl cellN at this
    rw [hr] at this
    simp [hp0, hp1] at this
    omega
  · exact h

/-- alone: four steps -/
theorem alone4 {c : Cf} (w : Nat) (m : Mm) (s : Nat) (hp : 0 ≤ penN w) : (hit c w ⟨m, hfst w, s⟩ 4).nx = 4 := by
  have e0 : hfst w = 0 := by unfold hfst; rw [if_neg (by omega)]
  rw [e0]
  have e1 : hit c w ⟨m, 0, s⟩ 1 = ⟨mtouch c m 3 6 (penN w) 0 (seqN w), 1, s⟩ := rfl
  generalize mtouch c m 3 6 (penN w) 0 (seqN w) = m1 at e1
  have hws : (mtouch c m1 1 4 (penN w) 0 0).ws = m1.ws := load_ws c m1 4 (penN w)
  have hold := load_old c m1 4 (penN w)
  have e2 : hit c w ⟨m, 0, s⟩ 2 = ⟨mtouch c m1 1 4 (penN w) 0 0, if stN (mtouch c m1 1 4 (penN w) 0 0).l.old = 3 then 2 else 3, (mtouch c m1 1 4 (penN w) 0 0).l.old⟩ := by
    show hstep c w (hit c w ⟨m, 0, s⟩ 1) = _
    rw [e1]
    rfl
  generalize mtouch c m1 1 4 (penN w) 0 0 = m2 at *
  have e4 : hit c w ⟨m, 0, s⟩ 4 = hstep c w (hstep c w (hit c w ⟨m, 0, s⟩ 2)) := rfl
  by_cases h3 : stN m2.l.old = 3
  · rw [if_pos h3] at e2
    have hc : 0 ≤ c.cl 4 (penN w) := by
      rcases Decidable.em (0 ≤ c.cl 4 (penN w)) with h | h
      · exact h
      · rw [if_neg h] at hold
        rw [hold] at h3
        exact absurd h3 (by decide)
    rw [if_pos hc] at hold
    have hd : (mtouch c m2 3 4 (penN w) m2.l.old (comN m2.l.old)).l.done = true := by
      rw [swap_done]
      exact decide_eq_true ⟨hc, by rw [hws, hold]⟩
    have e3 : hstep c w (hit c w ⟨m, 0, s⟩ 2) = ⟨mtouch c m2 3 4 (penN w) m2.l.old (comN m2.l.old), 3, m2.l.old⟩ := by
      rw [e2]
      show (⟨mtouch c m2 3 4 (penN w) m2.l.old (comN m2.l.old), cond (mtouch c m2 3 4 (penN w) m2.l.old (comN m2.l.old)).l.done 3 1, m2.l.old⟩ : Hs) = _
      rw [hd]
      rfl
    rw [e4, e3]
    rfl
  · rw [if_neg h3] at e2
    have e3 : (hstep c w (hit c w ⟨m, 0, s⟩ 2)).nx = 4 := by rw [e2]; rfl
    rw [e4, hstep_4 e3]
    exact e3

end Um

/-
  The walks of layer 6's maker of a new memory.
-/
namespace Go.Proofs.Ytkiaogbddfjkkaa
set_option maxRecDepth 100000
open Go.RowKit Go.Sort

set_option maxHeartbeats 2000000 in
theorem sNew_wrong (c : Um.Cf) (w : World) (h : c.r = false) :
    Calls Try.prog 26 #[(.agg #[.int .i64 (c.t), .int .i64 (c.s), .int .i64 (c.k), .int .i64 (c.g), .int .u64 (c.q : Int)])] w fun e w' => e = .returned (.tuple #[.pointer none, .int .i64 1]) ∧ Below w.heap.size w w' := by
  have hL := cLen_any c.t c.s c.k c.g c.q
  rw [Cf_len] at hL
  have hO := fun v w => sOf_wrong c v w h
  have hk := run_makeW c.n (by have := c.n_le; omega)
  clear h
  generalize c.n = m at *
  go_enter Try.func26, Try.ntmps26
  go_wp2_with fail
  have K := cfAt_alloc w c 24
  have hB : Below w.heap.size w (w.alloc (.cells #[.int .i64 c.t, .int .i64 c.s, .int .i64 c.k, .int .i64 c.g, .int .u64 c.q] 24)) := (Below.refl _ _).alloc (Nat.le_refl _) _
  generalize w.alloc _ = W at *
  obtain ⟨_, a0, a1, a2, a3, a4⟩ := id K
  go_region_with (first | (go_at_call 53; refine (hL _).mono ?_; rintro e w3 ⟨rfl, hb3⟩; obtain ⟨_, b0, b1, b2, b3, b4⟩ := K.below (below_undrew hb3)) | (go_at_call 34; refine (hO _ _).mono ?_; rintro e w4 ⟨rfl, hb4⟩))
  all_goals
    have hB3 := hB.trans ((below_undrew hb3).mono hB.size)
    have hB4 := (hB3.alloc hB3.size _).trans (hb4.mono (by simp; exact Nat.le_succ_of_le hB3.size))
    clear hb3 hb4 b0 b1 b2 b3 b4 a0 a1 a2 a3 a4 K hk hO hL
    go_wp2
    go_ret2
    exact ⟨rfl, hB4⟩

theorem zero_words (w : World) (m : Nat) (hp : 0 < m) (hn : m ≤ 1000) : IsWords (w.alloc (.cells (rowW (fun _ => 0) m).toArray 22)) (.slice (some ⟨w.heap.size, 0, none⟩) m m) m (fun _ => 0) :=
  (LowWords.of_row hp hn (heap_alloc_new w _) (fun _ _ => by unfold Um.Word; omega)).is (by simp)

set_option maxHeartbeats 2000000 in
theorem sNew_right (c : Um.Cf) (w : World) (h : c.r = true) :
    Calls Try.prog 26 #[(.agg #[.int .i64 (c.t), .int .i64 (c.s), .int .i64 (c.k), .int .i64 (c.g), .int .u64 (c.q : Int)])] w fun e w' => ∃ B C, e = .returned (.tuple #[.pointer (some ⟨B, 0, none⟩), .int .i64 0]) ∧ w.heap.size ≤ B ∧ w.heap.size ≤ C ∧ MemAt w' B C c ⟨fun _ => 0, 0, Um.noT⟩ ∧ Below w.heap.size w w' := by
  have hL := cLen_any c.t c.s c.k c.g c.q
  rw [Cf_len] at hL
  have hp := Um.Cf.n_pos h
  have hO := fun v w => sOf_right c v (fun _ => 0) w h
  have hk := run_makeW c.n (by have := c.n_le; omega)
  have hm := c.n_le
  have HO := hide hO
  clear h hO
  generalize c.n = m at *
  go_enter Try.func26, Try.ntmps26
  go_wp2_with fail
  have K := cfAt_alloc w c 24
  have hB : Below w.heap.size w (w.alloc (.cells #[.int .i64 c.t, .int .i64 c.s, .int .i64 c.k, .int .i64 c.g, .int .u64 c.q] 24)) := (Below.refl _ _).alloc (Nat.le_refl _) _
  generalize w.alloc _ = W at *
  obtain ⟨_, a0, a1, a2, a3, a4⟩ := id K
  go_region_with (first | (go_at_call 53; refine (hL _).mono ?_; rintro e w3 ⟨rfl, hb3⟩; obtain ⟨_, b0, b1, b2, b3, b4⟩ := K.below (below_undrew hb3)) | (go_at_call 34; refine ((unhide HO) _ _ (zero_words _ m (by omega) (by omega))).mono ?_; rintro e w4 ⟨B, C, rfl, hl1, hl2, hM, hb4⟩))
  all_goals
    have hB3 := hB.trans ((below_undrew hb3).mono hB.size)
    have hs3 := hB3.size
    have hB4 := (hB3.alloc hB3.size _).trans (hb4.mono (by simp; exact Nat.le_succ_of_le hB3.size))
    have HM := hide hM
    simp at hl1 hl2
    clear hb3 hb4 b0 b1 b2 b3 b4 a0 a1 a2 a3 a4 K hk HO hL hM
    go_wp2
    go_ret2
    exact ⟨B, C, rfl, by omega, by omega, unhide HM, hB4⟩

end Go.Proofs.Ytkiaogbddfjkkaa

/-
  A new memory, how many accesses there were, and its words: over blocks of two lists.
-/
namespace Go.Proofs.Ytkiaogbddfjkkaa
set_option maxRecDepth 100000
open Go.RowKit Go.Sort

theorem set_same {α : Type} {l : List α} {k : Nat} {x : α} (h : l[k]? = some x) : l.set k x = l := by
  obtain ⟨h1, h2⟩ := List.getElem?_eq_some_iff.1 h
  subst h2
  exact List.set_getElem_self h1

section
variable {bs : List Nat} {w0 w : World} {l e : List (Nat × List Value)} {B C P : Nat} {c : Um.Cf} {m : Um.Mm}

theorem new_x (hS : Sx bs w0 w l e) (c : Um.Cf) (hr : c.r = true) : Calls Try.prog 26 #[(.agg #[.int .i64 (c.t), .int .i64 (c.s), .int .i64 (c.k), .int .i64 (c.g), .int .u64 (c.q : Int)])] w fun r w' => ∃ B C, r = .returned (.tuple #[.pointer (some ⟨B, 0, none⟩), .int .i64 0]) ∧ WordsOk c ⟨fun _ => 0, 0, Um.noT⟩ ∧ Sx bs w0 w' (l ++ [(B, memL c C ⟨fun _ => 0, 0, Um.noT⟩), (C, rowW (fun _ => 0) c.n)]) e := by
  refine (sNew_right c w hr).mono ?_
  rintro r w' ⟨B, C, rfl, h1, h2, hM, hb⟩
  refine ⟨B, C, rfl, hM.wd, hS.adds hb _ (fun p hp => ?_) (fun p hp => ?_) ?_⟩
  · rcases (by simpa using hp : p = (B, memL c C ⟨fun _ => 0, 0, Um.noT⟩) ∨ p = (C, rowW (fun _ => 0) c.n)) with rfl | rfl
    · exact hM.blkB
    · exact hM.blkC
  · rcases (by simpa using hp : p = (B, memL c C ⟨fun _ => 0, 0, Um.noT⟩) ∨ p = (C, rowW (fun _ => 0) c.n)) with rfl | rfl
    · exact h1
    · exact h2
  · simpa using hM.ne

theorem count_x (hS : Sx bs w0 w l e) (i j : Nat) (hi : l[i]? = some (B, memL c C m)) (hj : l[j]? = some (C, rowW m.ws c.n)) (hij : i ≠ j) (hr : c.r = true) (hw : WordsOk c m) : Calls Try.prog 48 #[.pointer (some ⟨B, 0, none⟩)] w fun r w' => r = .returned (.int .i64 m.cnt) ∧ w' = w :=
  mCount_any (hS.mem i j hi hj hij hr hw)

end

theorem cells_x {bs : List Nat} {w0 w : World} {l e : List (Nat × List Value)} {B C : Nat} {c : Um.Cf} {m : Um.Mm} (hS : Sx bs w0 w l e) (i j : Nat) (hi : l[i]? = some (B, memL c C m)) (hj : l[j]? = some (C, rowW m.ws c.n)) (hij : i ≠ j) (hr : c.r = true) (hw : WordsOk c m) :
    Calls Try.prog 27 #[.pointer (some ⟨B, 0, none⟩)] w fun r w' => ∃ X, r = .returned (.slice (some ⟨X, 0, none⟩) c.n c.n) ∧ Sx bs w0 w' (l ++ [(X, rowW m.ws c.n)]) e := by
  refine (mCells_any (hS.mem i j hi hj hij hr hw)).mono ?_
  rintro r w' ⟨rfl, hg, hb⟩
  have := hS.add hb (blkAt_new hg) (Nat.le_refl _)
  rw [List.toList_toArray] at this
  exact ⟨_, rfl, this⟩

end Go.Proofs.Ytkiaogbddfjkkaa

/-
  A help's step, of whatever step; a help to its end; spots.
-/
namespace Go.Proofs.Ytkiaogbddfjkkaa
set_option maxRecDepth 100000
open Go.RowKit Go.Sort

/-- what comes next -/
def nxF (nx : Nat) : Value := if nx = 0 then .func (.func 89) #[] #[] else if nx = 1 then .func (.func 94) #[] #[] else if nx = 2 then .func (.func 96) #[] #[] else if nx = 3 then .func (.func 97) #[] #[] else .nilFunc

/-- a help's cells -/
def hlpL (x s nx : Nat) : List Value := [.int .u64 (x : Nat), .int .u64 (s : Nat), nxF nx]

/-- a help over a memory of words -/
def HOk (c : Um.Cf) (h : Um.Hs) : Prop := WordsOk c h.m ∧ Um.Word h.s ∧ h.nx ≤ 4

section
variable {bs : List Nat} {w0 w : World} {l e : List (Nat × List Value)} {B C P : Nat} {c : Um.Cf} {m : Um.Mm} {x s : Nat}

set_option maxHeartbeats 2000000 in
theorem hStep_0 (hS : Sx bs w0 w l e) (i j k : Nat) (hi : l[i]? = some (B, memL c C m)) (hj : l[j]? = some (C, rowW m.ws c.n)) (hk : l[k]? = some (P, [.int .u64 (x : Nat), .int .u64 (s : Nat), .func (.func 89) #[] #[]])) (hij : i ≠ j) (hik : i ≠ k) (hjk : j ≠ k) (hr : c.r = true) (hw : WordsOk c m) (hx : Um.Word x) (hs : Um.Word s) (M : Um.Mm) (hM : M = Um.mtouch c m 3 6 (Um.penN x) 0 (Um.seqN x)) :
    Calls Try.prog 90 #[.pointer (some ⟨P, 0, none⟩), .pointer (some ⟨B, 0, none⟩)] w fun r w' => r = .returned (.tuple #[]) ∧ WordsOk c M ∧ Sx bs w0 w' (putL l [(i, B, memL c C M), (j, C, rowW M.ws c.n), (k, P, [.int .u64 (x : Nat), .int .u64 (s : Nat), .func (.func 94) #[] #[]])]) e := by
  have HD := hide (hDone_f hS k _ _ _ hk)
  have HC := hide (hNumber_x hS i j k hi hj _ hk hij hik hjk hr hw hx hs M hM)
  have h2 := (hS.get k hk).cell 2 _ rfl
  clear hS hi hj hk hij hik hjk hr hw hM hx hs
  go_enter Try.func90, Try.ntmps90
  go_wp2_with fail
  refine (unhide HD).mono ?_
  rintro r u ⟨rfl, rfl⟩
  go_wp2_with fail
  refine (unhide HC).mono ?_
  rintro r u2 ⟨rfl, hW2, hS2⟩
  have H2 := hide hS2
  have HW2 := hide hW2
  clear hS2 hW2 h2
  go_wp2
  go_end0
  exact ⟨rfl, unhide HW2, unhide H2⟩

set_option maxHeartbeats 2000000 in
theorem hStep_1a (hS : Sx bs w0 w l e) (i j k : Nat) (hi : l[i]? = some (B, memL c C m)) (hj : l[j]? = some (C, rowW m.ws c.n)) (hk : l[k]? = some (P, [.int .u64 (x : Nat), .int .u64 (s : Nat), .func (.func 94) #[] #[]])) (hij : i ≠ j) (hik : i ≠ k) (hjk : j ≠ k) (hr : c.r = true) (hw : WordsOk c m) (hx : Um.Word x) (hs : Um.Word s) (M : Um.Mm) (hM : M = Um.mtouch c m 1 4 (Um.penN x) 0 0) (h3 : Um.stN M.l.old = 3) :
    Calls Try.prog 90 #[.pointer (some ⟨P, 0, none⟩), .pointer (some ⟨B, 0, none⟩)] w fun r w' => r = .returned (.tuple #[]) ∧ WordsOk c M ∧ Sx bs w0 w' (putL l [(i, B, memL c C M), (j, C, rowW M.ws c.n), (k, P, [.int .u64 (x : Nat), .int .u64 (M.l.old : Nat), .func (.func 96) #[] #[]])]) e := by
  have HD := hide (hDone_f hS k _ _ _ hk)
  have HC := hide (hLook_3 hS i j k hi hj _ hk hij hik hjk hr hw hx hs M hM h3)
  have h2 := (hS.get k hk).cell 2 _ rfl
  clear hS hi hj hk hij hik hjk hr hw hM hx hs h3
  go_enter Try.func90, Try.ntmps90
  go_wp2_with fail
  refine (unhide HD).mono ?_
  rintro r u ⟨rfl, rfl⟩
  go_wp2_with fail
  refine (unhide HC).mono ?_
  rintro r u2 ⟨rfl, hW2, hS2⟩
  have H2 := hide hS2
  have HW2 := hide hW2
  clear hS2 hW2 h2
  go_wp2
  go_end0
  exact ⟨rfl, unhide HW2, unhide H2⟩

set_option maxHeartbeats 2000000 in
theorem hStep_1b (hS : Sx bs w0 w l e) (i j k : Nat) (hi : l[i]? = some (B, memL c C m)) (hj : l[j]? = some (C, rowW m.ws c.n)) (hk : l[k]? = some (P, [.int .u64 (x : Nat), .int .u64 (s : Nat), .func (.func 94) #[] #[]])) (hij : i ≠ j) (hik : i ≠ k) (hjk : j ≠ k) (hr : c.r = true) (hw : WordsOk c m) (hx : Um.Word x) (hs : Um.Word s) (M : Um.Mm) (hM : M = Um.mtouch c m 1 4 (Um.penN x) 0 0) (h3 : Um.stN M.l.old ≠ 3) :
    Calls Try.prog 90 #[.pointer (some ⟨P, 0, none⟩), .pointer (some ⟨B, 0, none⟩)] w fun r w' => r = .returned (.tuple #[]) ∧ WordsOk c M ∧ Sx bs w0 w' (putL l [(i, B, memL c C M), (j, C, rowW M.ws c.n), (k, P, [.int .u64 (x : Nat), .int .u64 (M.l.old : Nat), .func (.func 97) #[] #[]])]) e := by
  have HD := hide (hDone_f hS k _ _ _ hk)
  have HC := hide (hLook_n hS i j k hi hj _ hk hij hik hjk hr hw hx hs M hM h3)
  have h2 := (hS.get k hk).cell 2 _ rfl
  clear hS hi hj hk hij hik hjk hr hw hM hx hs h3
  go_enter Try.func90, Try.ntmps90
  go_wp2_with fail
  refine (unhide HD).mono ?_
  rintro r u ⟨rfl, rfl⟩
  go_wp2_with fail
  refine (unhide HC).mono ?_
  rintro r u2 ⟨rfl, hW2, hS2⟩
  have H2 := hide hS2
  have HW2 := hide hW2
  clear hS2 hW2 h2
  go_wp2
  go_end0
  exact ⟨rfl, unhide HW2, unhide H2⟩

set_option maxHeartbeats 2000000 in
theorem hStep_2a (hS : Sx bs w0 w l e) (i j k : Nat) (hi : l[i]? = some (B, memL c C m)) (hj : l[j]? = some (C, rowW m.ws c.n)) (hk : l[k]? = some (P, [.int .u64 (x : Nat), .int .u64 (s : Nat), .func (.func 96) #[] #[]])) (hij : i ≠ j) (hik : i ≠ k) (hjk : j ≠ k) (hr : c.r = true) (hw : WordsOk c m) (hx : Um.Word x) (hs : Um.Word s) (M : Um.Mm) (hM : M = Um.mtouch c m 3 4 (Um.penN x) s (Um.comN s)) (hd : M.l.done = true) :
    Calls Try.prog 90 #[.pointer (some ⟨P, 0, none⟩), .pointer (some ⟨B, 0, none⟩)] w fun r w' => r = .returned (.tuple #[]) ∧ WordsOk c M ∧ Sx bs w0 w' (putL l [(i, B, memL c C M), (j, C, rowW M.ws c.n), (k, P, [.int .u64 (x : Nat), .int .u64 (s : Nat), .func (.func 97) #[] #[]])]) e := by
  have HD := hide (hDone_f hS k _ _ _ hk)
  have HC := hide (hLay_t hS i j k hi hj _ hk hij hik hjk hr hw hx hs M hM hd)
  have h2 := (hS.get k hk).cell 2 _ rfl
  clear hS hi hj hk hij hik hjk hr hw hM hx hs hd
  go_enter Try.func90, Try.ntmps90
  go_wp2_with fail
  refine (unhide HD).mono ?_
  rintro r u ⟨rfl, rfl⟩
  go_wp2_with fail
  refine (unhide HC).mono ?_
  rintro r u2 ⟨rfl, hW2, hS2⟩
  have H2 := hide hS2
  have HW2 := hide hW2
  clear hS2 hW2 h2
  go_wp2
  go_end0
  exact ⟨rfl, unhide HW2, unhide H2⟩

set_option maxHeartbeats 2000000 in
theorem hStep_2b (hS : Sx bs w0 w l e) (i j k : Nat) (hi : l[i]? = some (B, memL c C m)) (hj : l[j]? = some (C, rowW m.ws c.n)) (hk : l[k]? = some (P, [.int .u64 (x : Nat), .int .u64 (s : Nat), .func (.func 96) #[] #[]])) (hij : i ≠ j) (hik : i ≠ k) (hjk : j ≠ k) (hr : c.r = true) (hw : WordsOk c m) (hx : Um.Word x) (hs : Um.Word s) (M : Um.Mm) (hM : M = Um.mtouch c m 3 4 (Um.penN x) s (Um.comN s)) (hd : M.l.done = false) :
    Calls Try.prog 90 #[.pointer (some ⟨P, 0, none⟩), .pointer (some ⟨B, 0, none⟩)] w fun r w' => r = .returned (.tuple #[]) ∧ WordsOk c M ∧ Sx bs w0 w' (putL l [(i, B, memL c C M), (j, C, rowW M.ws c.n), (k, P, [.int .u64 (x : Nat), .int .u64 (s : Nat), .func (.func 94) #[] #[]])]) e := by
  have HD := hide (hDone_f hS k _ _ _ hk)
  have HC := hide (hLay_f hS i j k hi hj _ hk hij hik hjk hr hw hx hs M hM hd)
  have h2 := (hS.get k hk).cell 2 _ rfl
  clear hS hi hj hk hij hik hjk hr hw hM hx hs hd
  go_enter Try.func90, Try.ntmps90
  go_wp2_with fail
  refine (unhide HD).mono ?_
  rintro r u ⟨rfl, rfl⟩
  go_wp2_with fail
  refine (unhide HC).mono ?_
  rintro r u2 ⟨rfl, hW2, hS2⟩
  have H2 := hide hS2
  have HW2 := hide hW2
  clear hS2 hW2 h2
  go_wp2
  go_end0
  exact ⟨rfl, unhide HW2, unhide H2⟩

set_option maxHeartbeats 2000000 in
theorem hStep_3 (hS : Sx bs w0 w l e) (i j k : Nat) (hi : l[i]? = some (B, memL c C m)) (hj : l[j]? = some (C, rowW m.ws c.n)) (hk : l[k]? = some (P, [.int .u64 (x : Nat), .int .u64 (s : Nat), .func (.func 97) #[] #[]])) (hij : i ≠ j) (hik : i ≠ k) (hjk : j ≠ k) (hr : c.r = true) (hw : WordsOk c m) (hx : Um.Word x) (hs : Um.Word s) (M : Um.Mm) (hM : M = Um.mtouch c m 3 1 0 x (Um.setlN x)) :
    Calls Try.prog 90 #[.pointer (some ⟨P, 0, none⟩), .pointer (some ⟨B, 0, none⟩)] w fun r w' => r = .returned (.tuple #[]) ∧ WordsOk c M ∧ Sx bs w0 w' (putL l [(i, B, memL c C M), (j, C, rowW M.ws c.n), (k, P, [.int .u64 (x : Nat), .int .u64 (s : Nat), .nilFunc])]) e := by
  have HD := hide (hDone_f hS k _ _ _ hk)
  have HC := hide (hSettle_x hS i j k hi hj _ hk hij hik hjk hr hw hx hs M hM)
  have h2 := (hS.get k hk).cell 2 _ rfl
  clear hS hi hj hk hij hik hjk hr hw hM hx hs
  go_enter Try.func90, Try.ntmps90
  go_wp2_with fail
  refine (unhide HD).mono ?_
  rintro r u ⟨rfl, rfl⟩
  go_wp2_with fail
  refine (unhide HC).mono ?_
  rintro r u2 ⟨rfl, hW2, hS2⟩
  have H2 := hide hS2
  have HW2 := hide hW2
  clear hS2 hW2 h2
  go_wp2
  go_end0
  exact ⟨rfl, unhide HW2, unhide H2⟩

set_option maxHeartbeats 2000000 in
theorem hStep_4 (hS : Sx bs w0 w l e) (k : Nat) (hk : l[k]? = some (P, [.int .u64 (x : Nat), .int .u64 (s : Nat), .nilFunc])) (q : Option Addr) :
    Calls Try.prog 90 #[.pointer (some ⟨P, 0, none⟩), .pointer q] w fun r w' => r = .returned (.tuple #[]) ∧ w' = w := by
  have HD := hide (hDone_n hS k hk)
  clear hS hk
  go_enter Try.func90, Try.ntmps90
  go_wp2_with fail
  refine (unhide HD).mono ?_
  rintro r u ⟨rfl, rfl⟩
  go_wp2
  go_end0
  exact ⟨rfl, rfl⟩

theorem hStep_any (hS : Sx bs w0 w l e) (i j k : Nat) (h H : Um.Hs) (hH : H = Um.hstep c x h) (hi : l[i]? = some (B, memL c C h.m)) (hj : l[j]? = some (C, rowW h.m.ws c.n)) (hk : l[k]? = some (P, hlpL x h.s h.nx)) (hij : i ≠ j) (hik : i ≠ k) (hjk : j ≠ k) (hr : c.r = true) (ho : HOk c h) (hx : Um.Word x) :
    Calls Try.prog 90 #[.pointer (some ⟨P, 0, none⟩), .pointer (some ⟨B, 0, none⟩)] w fun r w' => r = .returned (.tuple #[]) ∧ HOk c H ∧ Sx bs w0 w' (putL l [(i, B, memL c C H.m), (j, C, rowW H.m.ws c.n), (k, P, hlpL x H.s H.nx)]) e := by
  have hO : HOk c H := by
    rw [hH]
    exact ⟨(Um.hstep_words hx ho.2.1 ho.1).1, (Um.hstep_words hx ho.2.1 ho.1).2, Um.hstep_nx ho.2.2⟩
  obtain ⟨hw, hs, hn⟩ := ho
  obtain ⟨m, nx, s⟩ := h
  dsimp only at *
  match nx, hn with
  | 0, _ =>
    have e0 : H = ⟨Um.mtouch c m 3 6 (Um.penN x) 0 (Um.seqN x), 1, s⟩ := hH
    subst e0
    refine (hStep_0 hS i j k hi hj hk hij hik hjk hr hw hx hs _ rfl).mono ?_
    rintro r w' ⟨h1, h2, h3⟩
    exact ⟨h1, hO, h3⟩
  | 1, _ =>
    have e0 : H = ⟨Um.mtouch c m 1 4 (Um.penN x) 0 0, if Um.stN (Um.mtouch c m 1 4 (Um.penN x) 0 0).l.old = 3 then 2 else 3, (Um.mtouch c m 1 4 (Um.penN x) 0 0).l.old⟩ := hH
    by_cases h3 : Um.stN (Um.mtouch c m 1 4 (Um.penN x) 0 0).l.old = 3
    · rw [if_pos h3] at e0
      subst e0
      refine (hStep_1a hS i j k hi hj hk hij hik hjk hr hw hx hs _ rfl h3).mono ?_
      rintro r w' ⟨h1, h2, h3⟩
      exact ⟨h1, hO, h3⟩
    · rw [if_neg h3] at e0
      subst e0
      refine (hStep_1b hS i j k hi hj hk hij hik hjk hr hw hx hs _ rfl h3).mono ?_
      rintro r w' ⟨h1, h2, h3⟩
      exact ⟨h1, hO, h3⟩
  | 2, _ =>
    have e0 : H = ⟨Um.mtouch c m 3 4 (Um.penN x) s (Um.comN s), cond (Um.mtouch c m 3 4 (Um.penN x) s (Um.comN s)).l.done 3 1, s⟩ := hH
    cases hd : (Um.mtouch c m 3 4 (Um.penN x) s (Um.comN s)).l.done with
    | true =>
      rw [hd, cond_true] at e0
      subst e0
      refine (hStep_2a hS i j k hi hj hk hij hik hjk hr hw hx hs _ rfl hd).mono ?_
      rintro r w' ⟨h1, h2, h3⟩
      exact ⟨h1, hO, h3⟩
    | false =>
      rw [hd, cond_false] at e0
      subst e0
      refine (hStep_2b hS i j k hi hj hk hij hik hjk hr hw hx hs _ rfl hd).mono ?_
      rintro r w' ⟨h1, h2, h3⟩
      exact ⟨h1, hO, h3⟩
  | 3, _ =>
    have e0 : H = ⟨Um.mtouch c m 3 1 0 x (Um.setlN x), 4, s⟩ := hH
    subst e0
    refine (hStep_3 hS i j k hi hj hk hij hik hjk hr hw hx hs _ rfl).mono ?_
    rintro r w' ⟨h1, h2, h3⟩
    exact ⟨h1, hO, h3⟩
  | 4, _ =>
    have e0 : H = ⟨m, 4, s⟩ := hH
    subst e0
    refine (hStep_4 hS k hk _).mono ?_
    rintro r w' ⟨h1, rfl⟩
    refine ⟨h1, hO, ?_⟩
    unfold putL putL putL putL
    dsimp only
    rw [set_same hi, set_same hj, set_same hk]
    exact hS

theorem hDone_any (hS : Sx bs w0 w l e) (k : Nat) (nx : Nat) (hn : nx ≤ 4) (hk : l[k]? = some (P, hlpL x s nx)) : Calls Try.prog 91 #[.pointer (some ⟨P, 0, none⟩)] w fun r w' => r = .returned (.bool (decide (nx = 4))) ∧ w' = w := by
  match nx, hn with
  | 0, _ => exact hDone_f hS k _ _ _ hk
  | 1, _ => exact hDone_f hS k _ _ _ hk
  | 2, _ => exact hDone_f hS k _ _ _ hk
  | 3, _ => exact hDone_f hS k _ _ _ hk
  | 4, _ => exact hDone_n hS k hk

theorem hNew_any (hS : Sx bs w0 w l e) (x : Nat) (hx : Um.Word x) : Calls Try.prog 85 #[.int .u64 (x : Nat)] w fun r w' => ∃ P, r = .returned (.pointer (some ⟨P, 0, none⟩)) ∧ Sx bs w0 w' (l ++ [(P, hlpL x 0 (Um.hfst x))]) e := by
  by_cases hp : Um.penN x < 0
  · have e1 : Um.hfst x = 4 := by unfold Um.hfst; rw [if_pos hp]
    rw [e1]
    exact hNew_4 hS hx hp
  · have e1 : Um.hfst x = 0 := by unfold Um.hfst; rw [if_neg hp]
    rw [e1]
    exact hNew_0 hS hx (by omega)

theorem hok_hit (hx : Um.Word x) {h : Um.Hs} (ho : HOk c h) (k : Nat) : HOk c (Um.hit c x h k) := by
  induction k with
  | zero => exact ho
  | succ k ih => exact ⟨(Um.hstep_words hx ih.2.1 ih.1).1, (Um.hstep_words hx ih.2.1 ih.1).2, Um.hstep_nx ih.2.2⟩

end

end Go.Proofs.Ytkiaogbddfjkkaa

/-
  Calls of the document's words, as a region that draws asks for them.
-/
namespace Go.Proofs.Ytkiaogbddfjkkaa
set_option maxRecDepth 100000
open Go.RowKit Go.Sort

theorem egRSw (args : Array Value) (w : World) : (callFunc 41 args).run Try.prog w = .ok (.enter 41 args) w := by go_simp
theorem egBu (args : Array Value) (w : World) : (callFunc 71 args).run Try.prog w = .ok (.enter 71 args) w := by go_simp
theorem egMv (args : Array Value) (w : World) : (callFunc 42 args).run Try.prog w = .ok (.enter 42 args) w := by go_simp
theorem egSe (args : Array Value) (w : World) : (callFunc 72 args).run Try.prog w = .ok (.enter 72 args) w := by go_simp
theorem list1_eq {a a' : Value} (h : a = a') : [a] = [a'] := by rw [h]

end Go.Proofs.Ytkiaogbddfjkkaa

/-
  The walks of the document's own help.
-/
namespace Go.Proofs.Ytkiaogbddfjkkaa
set_option maxRecDepth 100000
open Go.RowKit Go.Sort

set_option maxHeartbeats 8000000 in
theorem rStep8_done (w : World) (c : Um.Cf) (m : Um.Mm) (g cg : Nat) (x s : Nat) (nx : Int) (hx : Um.Word x) (hs : Um.Word s) (hB : BlkAt w g (rowW m.ws c.n)) (hr : c.r = true) (hw : WordsOk c m) (h1 : c.n ≤ cg) (h2 : cg ≤ maxLen) :
    Calls Try.prog 45 #[.agg #[.int .u64 (x : Nat), .int .i64 nx, .int .u64 (s : Nat), .bool true], (.agg #[.int .i64 c.t, .int .i64 c.s, .int .i64 c.k, .int .i64 c.g, .int .u64 c.q, (.slice (some ⟨g, 0, none⟩) c.n cg), .int .i64 m.cnt, .int .i64 m.l.kind, .int .i64 m.l.a, .int .i64 m.l.b, .int .u64 (m.l.old : Nat), .int .u64 (m.l.new : Nat), .bool m.l.done])] w fun r w' => ∃ g' cg', r = .returned (.tuple #[.agg #[.int .u64 (x : Nat), .int .i64 nx, .int .u64 (s : Nat), .bool true], (.agg #[.int .i64 c.t, .int .i64 c.s, .int .i64 c.k, .int .i64 c.g, .int .u64 c.q, (.slice (some ⟨g', 0, none⟩) c.n cg'), .int .i64 m.cnt, .int .i64 m.l.kind, .int .i64 m.l.a, .int .i64 m.l.b, .int .u64 (m.l.old : Nat), .int .u64 (m.l.new : Nat), .bool m.l.done])]) ∧ c.n ≤ cg' ∧ cg' ≤ maxLen ∧ Fr w g g' ∧ WordsOk c m ∧ BlkAt w' g' (rowW m.ws c.n) ∧ Below w.heap.size w w' := by
  have hS := Sx.read w [(g, rowW m.ws c.n)] (fun p hp => by obtain rfl : p = _ := by simpa using hp
                                                            exact hB)
  have HR := hide hr
  have HW := hide hw
  have HXW := hide hx
  have HSW := hide hs
  clear hB hr hw hx hs
  go_enter Try.func45, Try.ntmps45
  go_wp2_with (first | (refine wpx_box hS rfl _ _ rfl _ rfl _ (by intro _; simp only [Act.put, List.setIfInBounds_toArray, List.set_cons_zero, List.set_cons_succ]; first | done | exact rfl) ?_; clear hS; intro _ _ hS; dsimp only [blit, List.set, List.cons_append, List.nil_append, Value.cells, List.toList_toArray] at hS) | (refine wpx_alloc hS rfl _ rfl _ (zer_any2 rfl) _ (by intro _; simp only [Act.put, List.setIfInBounds_toArray, List.set_cons_zero, List.set_cons_succ]; first | done | exact rfl) ?_; clear hS; intro _ _ hS; dsimp only [blit, List.set, List.cons_append, List.nil_append, Value.cells, List.toList_toArray] at hS) | (refine wpx_ld hS rfl _ _ rfl _ _ rfl ?_; (first | refine ⟨0, _, rfl, ?_⟩ | refine ⟨1, _, rfl, ?_⟩ | refine ⟨2, _, rfl, ?_⟩ | refine ⟨3, _, rfl, ?_⟩ | refine ⟨4, _, rfl, ?_⟩ | refine ⟨5, _, rfl, ?_⟩ | refine ⟨6, _, rfl, ?_⟩ | refine ⟨7, _, rfl, ?_⟩ | refine ⟨8, _, rfl, ?_⟩ | refine ⟨9, _, rfl, ?_⟩); first | refine .inl ⟨_, one_any2 rfl, rfl, _, (by simp only [Act.put, List.setIfInBounds_toArray, List.set_cons_zero, List.set_cons_succ]; first | done | exact rfl), ?_⟩ | refine .inr ⟨_, _, row_any2 rfl, rfl, (by dsimp only [cutL, List.drop, List.take]; first | done | exact rfl), _, (by simp only [Act.put, List.setIfInBounds_toArray, List.set_cons_zero, List.set_cons_succ]; first | done | exact rfl), ?_⟩) | (refine wpx_st hS rfl _ _ _ rfl rfl _ _ rfl ?_; (first | refine ⟨0, _, rfl, ?_⟩ | refine ⟨1, _, rfl, ?_⟩ | refine ⟨2, _, rfl, ?_⟩ | refine ⟨3, _, rfl, ?_⟩ | refine ⟨4, _, rfl, ?_⟩ | refine ⟨5, _, rfl, ?_⟩ | refine ⟨6, _, rfl, ?_⟩ | refine ⟨7, _, rfl, ?_⟩ | refine ⟨8, _, rfl, ?_⟩ | refine ⟨9, _, rfl, ?_⟩); refine ⟨_, (by first | exact shA rfl | exact shI rfl | exact shB rfl | exact shS rfl | exact shP rfl | exact shF rfl | exact shN rfl), _, siz_any2 rfl, (by exact rfl), (by exact rfl), (by exact rfl), ?_⟩; clear hS; intro _ hS; dsimp only [blit, List.set, List.cons_append, List.nil_append, Value.cells, List.toList_toArray] at hS))
  obtain ⟨HB, rfl⟩ := nameB hS 0 rfl
  obtain ⟨MB, rfl⟩ := nameB hS 1 rfl
  obtain ⟨R1, rfl⟩ := nameB hS 2 rfl
  obtain ⟨R2, rfl⟩ := nameB hS 3 rfl
  refine wp_region_ogt (fun ts D ts' w' => ts' = putS ts [(17, cond (D 0) (.agg #[.int .u64 (x : Nat), .int .i64 nx, .int .u64 (s : Nat), .bool true]) undef), (18, cond (D 1) (.agg #[.int .i64 c.t, .int .i64 c.s, .int .i64 c.k, .int .i64 c.g, .int .u64 c.q, (.slice (some ⟨g, 0, none⟩) c.n cg), .int .i64 m.cnt, .int .i64 m.l.kind, .int .i64 m.l.a, .int .i64 m.l.b, .int .u64 (m.l.old : Nat), .int .u64 (m.l.new : Nat), .bool m.l.done]) undef)] ∧ Sx [] w w' [(HB, [.int .u64 (x : Nat), .int .i64 nx, .int .u64 (s : Nat), .bool true]), (MB, [.int .i64 c.t, .int .i64 c.s, .int .i64 c.k, .int .i64 c.g, .int .u64 c.q, (.slice (some ⟨g, 0, none⟩) c.n cg), .int .i64 m.cnt, .int .i64 m.l.kind, .int .i64 m.l.a, .int .i64 m.l.b, .int .u64 (m.l.old : Nat), .int .u64 (m.l.new : Nat), .bool m.l.done]), (R1, cond (D 2) [.int .u64 (x : Nat), .int .i64 nx, .int .u64 (s : Nat), .bool true] [.int .u64 0, .int .i64 0, .int .u64 0, .bool false]), (R2, cond (D 3) [.int .i64 c.t, .int .i64 c.s, .int .i64 c.k, .int .i64 c.g, .int .u64 c.q, (.slice (some ⟨g, 0, none⟩) c.n cg), .int .i64 m.cnt, .int .i64 m.l.kind, .int .i64 m.l.a, .int .i64 m.l.b, .int .u64 (m.l.old : Nat), .int .u64 (m.l.new : Nat), .bool m.l.done] [.int .i64 0, .int .i64 0, .int .i64 0, .int .i64 0, .int .u64 0, .slice none 0 0, .int .i64 0, .int .i64 0, .int .i64 0, .int .i64 0, .int .u64 0, .int .u64 0, .bool false])] [(g, rowW m.ws c.n)]) (by kernel_rfl) (by kernel_rfl) ?start ?steps ?ends
  case start => exact ⟨rfl, hS.drew⟩
  case steps =>
    intro i o hi D ts' w' hD hpre hI
    obtain ⟨rfl, hS⟩ := hI
    dsimp only [putS, List.set]
    match i, hi with
    | 0, hi =>
      cases hi
      refine wpOp_step rfl (fun K hK => ?_)
      refine stp_val rfl (by refine yif_load (S := fun q => q = w') rfl _ _ rfl _ _ rfl _ (fun _ h => h ▸ hS.get 0 rfl) _ (row_any2 rfl) (by exact rfl) _ (by dsimp only [cutL, List.drop, List.take]; first | done | exact rfl)) rfl ?_
      exact hK _ _ ⟨_, rfl, rfl, hS⟩
    | 1, hi =>
      cases hi
      refine wpOp_step rfl (fun K hK => ?_)
      refine stp_val rfl (by refine yif_load (S := fun q => q = w') rfl _ _ rfl _ _ rfl _ (fun _ h => h ▸ hS.get 1 rfl) _ (row_any2 rfl) (by exact rfl) _ (by dsimp only [cutL, List.drop, List.take]; first | done | exact rfl)) rfl ?_
      exact hK _ _ ⟨_, rfl, rfl, hS⟩
    | 2, hi =>
      cases hi
      have d0 : D 0 = true := og_pre hpre (j := 0) (by kernel_rfl)
      refine wpOp_step rfl (fun K hK => ?_)
      simp only [hD, cond_false] at hS
      refine stx_store hS 2 rfl _ _ _ rfl _ _ rfl _ rfl _ (cond_at d0 rfl) _ rfl _ (siz_any2 rfl) (by exact rfl) (by exact rfl) (by exact rfl) rfl ?_
      intro u hS'
      exact hK _ _ ⟨_, rfl, rfl, hS'⟩
    | 3, hi =>
      cases hi
      have d1 : D 1 = true := og_pre hpre (j := 1) (by kernel_rfl)
      refine wpOp_step rfl (fun K hK => ?_)
      simp only [hD, cond_false] at hS
      refine stx_store hS 3 rfl _ _ _ rfl _ _ rfl _ rfl _ (cond_at d1 rfl) _ rfl _ (siz_any2 rfl) (by exact rfl) (by exact rfl) (by exact rfl) rfl ?_
      intro u hS'
      exact hK _ _ ⟨_, rfl, rfl, hS'⟩
    | i + 4, hi => simp at hi
  case ends =>
    intro D ts' w' hall hI
    obtain ⟨rfl, hS⟩ := hI
    have d0 : D 0 = true := hall 0 (by decide)
    have d1 : D 1 = true := hall 1 (by decide)
    have d2 : D 2 = true := hall 2 (by decide)
    have d3 : D 3 = true := hall 3 (by decide)
    simp only [d2, d3, cond_true] at hS
    dsimp only [putS, List.set]
    simp only [d0, d1, cond_true]
    clear hall d0 d1 d2 d3
    go_wp2
    have hZ := hS.get 2 rfl
    have hY := hS.get 3 rfl
    refine bodyPost_ret (v := .tuple #[.agg #[.int .u64 (x : Nat), .int .i64 nx, .int .u64 (s : Nat), .bool true], (.agg #[.int .i64 c.t, .int .i64 c.s, .int .i64 c.k, .int .i64 c.g, .int .u64 c.q, (.slice (some ⟨g, 0, none⟩) c.n cg), .int .i64 m.cnt, .int .i64 m.l.kind, .int .i64 m.l.a, .int .i64 m.l.b, .int .u64 (m.l.old : Nat), .int .u64 (m.l.new : Nat), .bool m.l.done])]) (by simp [results, Try.results45, go_sem, hZ.cell 0 _ rfl, hZ.cell 1 _ rfl, hZ.cell 2 _ rfl, hZ.cell 3 _ rfl, hY.cell 0 _ rfl, hY.cell 1 _ rfl, hY.cell 2 _ rfl, hY.cell 3 _ rfl, hY.cell 4 _ rfl, hY.cell 5 _ rfl, hY.cell 6 _ rfl, hY.cell 7 _ rfl, hY.cell 8 _ rfl, hY.cell 9 _ rfl, hY.cell 10 _ rfl, hY.cell 11 _ rfl, hY.cell 12 _ rfl]) rfl ?_
    exact ⟨g, cg, rfl, h1, h2, Fr.refl w g, unhide HW, hS.getE 0 rfl, hS.bel⟩

set_option maxHeartbeats 8000000 in
theorem rStep8_0 (w : World) (c : Um.Cf) (m M : Um.Mm) (g cg : Nat) (x s : Nat) (hx : Um.Word x) (hs : Um.Word s) (hB : BlkAt w g (rowW m.ws c.n)) (hr : c.r = true) (hw : WordsOk c m) (h1 : c.n ≤ cg) (h2 : cg ≤ maxLen) (hM : M = Um.mtouch c m 3 6 (Um.penN x) 0 (Um.seqN x)) :
    Calls Try.prog 45 #[.agg #[.int .u64 (x : Nat), .int .i64 0, .int .u64 (s : Nat), .bool false], (.agg #[.int .i64 c.t, .int .i64 c.s, .int .i64 c.k, .int .i64 c.g, .int .u64 c.q, (.slice (some ⟨g, 0, none⟩) c.n cg), .int .i64 m.cnt, .int .i64 m.l.kind, .int .i64 m.l.a, .int .i64 m.l.b, .int .u64 (m.l.old : Nat), .int .u64 (m.l.new : Nat), .bool m.l.done])] w fun r w' => ∃ g' cg', r = .returned (.tuple #[.agg #[.int .u64 (x : Nat), .int .i64 1, .int .u64 (s : Nat), .bool false], (.agg #[.int .i64 c.t, .int .i64 c.s, .int .i64 c.k, .int .i64 c.g, .int .u64 c.q, (.slice (some ⟨g', 0, none⟩) c.n cg'), .int .i64 M.cnt, .int .i64 M.l.kind, .int .i64 M.l.a, .int .i64 M.l.b, .int .u64 (M.l.old : Nat), .int .u64 (M.l.new : Nat), .bool M.l.done])]) ∧ c.n ≤ cg' ∧ cg' ≤ maxLen ∧ Fr w g g' ∧ WordsOk c M ∧ BlkAt w' g' (rowW M.ws c.n) ∧ Below w.heap.size w w' := by
  have hS := Sx.read w [(g, rowW m.ws c.n)] (fun p hp => by obtain rfl : p = _ := by simpa using hp
                                                            exact hB)
  have HR := hide hr
  have HW := hide hw
  have HM := hide hM
  have HXW := hide hx
  have HSW := hide hs
  clear hB hr hw hM hx hs
  go_enter Try.func45, Try.ntmps45
  go_wp2_with (first | (refine wpx_box hS rfl _ _ rfl _ rfl _ (by intro _; simp only [Act.put, List.setIfInBounds_toArray, List.set_cons_zero, List.set_cons_succ]; first | done | exact rfl) ?_; clear hS; intro _ _ hS; dsimp only [blit, List.set, List.cons_append, List.nil_append, Value.cells, List.toList_toArray] at hS) | (refine wpx_alloc hS rfl _ rfl _ (zer_any2 rfl) _ (by intro _; simp only [Act.put, List.setIfInBounds_toArray, List.set_cons_zero, List.set_cons_succ]; first | done | exact rfl) ?_; clear hS; intro _ _ hS; dsimp only [blit, List.set, List.cons_append, List.nil_append, Value.cells, List.toList_toArray] at hS) | (refine wpx_ld hS rfl _ _ rfl _ _ rfl ?_; (first | refine ⟨0, _, rfl, ?_⟩ | refine ⟨1, _, rfl, ?_⟩ | refine ⟨2, _, rfl, ?_⟩ | refine ⟨3, _, rfl, ?_⟩ | refine ⟨4, _, rfl, ?_⟩ | refine ⟨5, _, rfl, ?_⟩ | refine ⟨6, _, rfl, ?_⟩ | refine ⟨7, _, rfl, ?_⟩ | refine ⟨8, _, rfl, ?_⟩ | refine ⟨9, _, rfl, ?_⟩); first | refine .inl ⟨_, one_any2 rfl, rfl, _, (by simp only [Act.put, List.setIfInBounds_toArray, List.set_cons_zero, List.set_cons_succ]; first | done | exact rfl), ?_⟩ | refine .inr ⟨_, _, row_any2 rfl, rfl, (by dsimp only [cutL, List.drop, List.take]; first | done | exact rfl), _, (by simp only [Act.put, List.setIfInBounds_toArray, List.set_cons_zero, List.set_cons_succ]; first | done | exact rfl), ?_⟩) | (refine wpx_st hS rfl _ _ _ rfl rfl _ _ rfl ?_; (first | refine ⟨0, _, rfl, ?_⟩ | refine ⟨1, _, rfl, ?_⟩ | refine ⟨2, _, rfl, ?_⟩ | refine ⟨3, _, rfl, ?_⟩ | refine ⟨4, _, rfl, ?_⟩ | refine ⟨5, _, rfl, ?_⟩ | refine ⟨6, _, rfl, ?_⟩ | refine ⟨7, _, rfl, ?_⟩ | refine ⟨8, _, rfl, ?_⟩ | refine ⟨9, _, rfl, ?_⟩); refine ⟨_, (by first | exact shA rfl | exact shI rfl | exact shB rfl | exact shS rfl | exact shP rfl | exact shF rfl | exact shN rfl), _, siz_any2 rfl, (by exact rfl), (by exact rfl), (by exact rfl), ?_⟩; clear hS; intro _ hS; dsimp only [blit, List.set, List.cons_append, List.nil_append, Value.cells, List.toList_toArray] at hS))
  refine (trUnpack_x hS x (unhide HXW)).mono ?_
  rintro r u ⟨rfl, hSn⟩
  clear hS
  have hS := hSn
  clear hSn
  go_wp2_with (first | (refine wpx_box hS rfl _ _ rfl _ rfl _ (by intro _; simp only [Act.put, List.setIfInBounds_toArray, List.set_cons_zero, List.set_cons_succ]; first | done | exact rfl) ?_; clear hS; intro _ _ hS; dsimp only [blit, List.set, List.cons_append, List.nil_append, Value.cells, List.toList_toArray] at hS) | (refine wpx_alloc hS rfl _ rfl _ (zer_any2 rfl) _ (by intro _; simp only [Act.put, List.setIfInBounds_toArray, List.set_cons_zero, List.set_cons_succ]; first | done | exact rfl) ?_; clear hS; intro _ _ hS; dsimp only [blit, List.set, List.cons_append, List.nil_append, Value.cells, List.toList_toArray] at hS) | (refine wpx_ld hS rfl _ _ rfl _ _ rfl ?_; (first | refine ⟨0, _, rfl, ?_⟩ | refine ⟨1, _, rfl, ?_⟩ | refine ⟨2, _, rfl, ?_⟩ | refine ⟨3, _, rfl, ?_⟩ | refine ⟨4, _, rfl, ?_⟩ | refine ⟨5, _, rfl, ?_⟩ | refine ⟨6, _, rfl, ?_⟩ | refine ⟨7, _, rfl, ?_⟩ | refine ⟨8, _, rfl, ?_⟩ | refine ⟨9, _, rfl, ?_⟩); first | refine .inl ⟨_, one_any2 rfl, rfl, _, (by simp only [Act.put, List.setIfInBounds_toArray, List.set_cons_zero, List.set_cons_succ]; first | done | exact rfl), ?_⟩ | refine .inr ⟨_, _, row_any2 rfl, rfl, (by dsimp only [cutL, List.drop, List.take]; first | done | exact rfl), _, (by simp only [Act.put, List.setIfInBounds_toArray, List.set_cons_zero, List.set_cons_succ]; first | done | exact rfl), ?_⟩) | (refine wpx_st hS rfl _ _ _ rfl rfl _ _ rfl ?_; (first | refine ⟨0, _, rfl, ?_⟩ | refine ⟨1, _, rfl, ?_⟩ | refine ⟨2, _, rfl, ?_⟩ | refine ⟨3, _, rfl, ?_⟩ | refine ⟨4, _, rfl, ?_⟩ | refine ⟨5, _, rfl, ?_⟩ | refine ⟨6, _, rfl, ?_⟩ | refine ⟨7, _, rfl, ?_⟩ | refine ⟨8, _, rfl, ?_⟩ | refine ⟨9, _, rfl, ?_⟩); refine ⟨_, (by first | exact shA rfl | exact shI rfl | exact shB rfl | exact shS rfl | exact shP rfl | exact shF rfl | exact shN rfl), _, siz_any2 rfl, (by exact rfl), (by exact rfl), (by exact rfl), ?_⟩; clear hS; intro _ hS; dsimp only [blit, List.set, List.cons_append, List.nil_append, Value.cells, List.toList_toArray] at hS))
  have hSz := hS.size
  refine (rSwap_x hS 0 rfl (unhide HR) (unhide HW) h1 h2 6 (Um.penN x) 0 (Um.seqN x) (Um.seq_isword (unhide HXW)) M (unhide HM)).mono ?_
  rintro r u ⟨g', cg', rfl, q1, q2, hFr, hWn, hSn⟩
  clear hS
  have hS := hSn
  clear hSn
  dsimp only [putL, List.set, List.cons_append, List.nil_append] at hS
  have HW2 := hide hWn
  clear hWn
  go_wp2_with (first | (refine wpx_box hS rfl _ _ rfl _ rfl _ (by intro _; simp only [Act.put, List.setIfInBounds_toArray, List.set_cons_zero, List.set_cons_succ]; first | done | exact rfl) ?_; clear hS; intro _ _ hS; dsimp only [blit, List.set, List.cons_append, List.nil_append, Value.cells, List.toList_toArray] at hS) | (refine wpx_alloc hS rfl _ rfl _ (zer_any2 rfl) _ (by intro _; simp only [Act.put, List.setIfInBounds_toArray, List.set_cons_zero, List.set_cons_succ]; first | done | exact rfl) ?_; clear hS; intro _ _ hS; dsimp only [blit, List.set, List.cons_append, List.nil_append, Value.cells, List.toList_toArray] at hS) | (refine wpx_ld hS rfl _ _ rfl _ _ rfl ?_; (first | refine ⟨0, _, rfl, ?_⟩ | refine ⟨1, _, rfl, ?_⟩ | refine ⟨2, _, rfl, ?_⟩ | refine ⟨3, _, rfl, ?_⟩ | refine ⟨4, _, rfl, ?_⟩ | refine ⟨5, _, rfl, ?_⟩ | refine ⟨6, _, rfl, ?_⟩ | refine ⟨7, _, rfl, ?_⟩ | refine ⟨8, _, rfl, ?_⟩ | refine ⟨9, _, rfl, ?_⟩); first | refine .inl ⟨_, one_any2 rfl, rfl, _, (by simp only [Act.put, List.setIfInBounds_toArray, List.set_cons_zero, List.set_cons_succ]; first | done | exact rfl), ?_⟩ | refine .inr ⟨_, _, row_any2 rfl, rfl, (by dsimp only [cutL, List.drop, List.take]; first | done | exact rfl), _, (by simp only [Act.put, List.setIfInBounds_toArray, List.set_cons_zero, List.set_cons_succ]; first | done | exact rfl), ?_⟩) | (refine wpx_st hS rfl _ _ _ rfl rfl _ _ rfl ?_; (first | refine ⟨0, _, rfl, ?_⟩ | refine ⟨1, _, rfl, ?_⟩ | refine ⟨2, _, rfl, ?_⟩ | refine ⟨3, _, rfl, ?_⟩ | refine ⟨4, _, rfl, ?_⟩ | refine ⟨5, _, rfl, ?_⟩ | refine ⟨6, _, rfl, ?_⟩ | refine ⟨7, _, rfl, ?_⟩ | refine ⟨8, _, rfl, ?_⟩ | refine ⟨9, _, rfl, ?_⟩); refine ⟨_, (by first | exact shA rfl | exact shI rfl | exact shB rfl | exact shS rfl | exact shP rfl | exact shF rfl | exact shN rfl), _, siz_any2 rfl, (by exact rfl), (by exact rfl), (by exact rfl), ?_⟩; clear hS; intro _ hS; dsimp only [blit, List.set, List.cons_append, List.nil_append, Value.cells, List.toList_toArray] at hS))
  obtain ⟨HB, rfl⟩ := nameB hS 0 rfl
  obtain ⟨MB, rfl⟩ := nameB hS 1 rfl
  obtain ⟨R1, rfl⟩ := nameB hS 2 rfl
  obtain ⟨R2, rfl⟩ := nameB hS 3 rfl
  obtain ⟨TB, rfl⟩ := nameB hS 4 rfl
  obtain ⟨NX, rfl⟩ := nameB hS 5 rfl
  refine wp_region_ogt (fun ts D ts' w' => ts' = putS ts [(36, cond (D 0) (.agg #[.int .u64 (x : Nat), .int .i64 1, .int .u64 (s : Nat), .bool false]) undef), (37, cond (D 1) (.agg #[.int .i64 c.t, .int .i64 c.s, .int .i64 c.k, .int .i64 c.g, .int .u64 c.q, (.slice (some ⟨g', 0, none⟩) c.n cg'), .int .i64 M.cnt, .int .i64 M.l.kind, .int .i64 M.l.a, .int .i64 M.l.b, .int .u64 (M.l.old : Nat), .int .u64 (M.l.new : Nat), .bool M.l.done]) undef)] ∧ Sx [] w w' [(HB, [.int .u64 (x : Nat), .int .i64 1, .int .u64 (s : Nat), .bool false]), (MB, [.int .i64 c.t, .int .i64 c.s, .int .i64 c.k, .int .i64 c.g, .int .u64 c.q, (.slice (some ⟨g, 0, none⟩) c.n cg), .int .i64 m.cnt, .int .i64 m.l.kind, .int .i64 m.l.a, .int .i64 m.l.b, .int .u64 (m.l.old : Nat), .int .u64 (m.l.new : Nat), .bool m.l.done]), (R1, cond (D 2) [.int .u64 (x : Nat), .int .i64 1, .int .u64 (s : Nat), .bool false] [.int .u64 0, .int .i64 0, .int .u64 0, .bool false]), (R2, cond (D 3) [.int .i64 c.t, .int .i64 c.s, .int .i64 c.k, .int .i64 c.g, .int .u64 c.q, (.slice (some ⟨g', 0, none⟩) c.n cg'), .int .i64 M.cnt, .int .i64 M.l.kind, .int .i64 M.l.a, .int .i64 M.l.b, .int .u64 (M.l.old : Nat), .int .u64 (M.l.new : Nat), .bool M.l.done] [.int .i64 0, .int .i64 0, .int .i64 0, .int .i64 0, .int .u64 0, .slice none 0 0, .int .i64 0, .int .i64 0, .int .i64 0, .int .i64 0, .int .u64 0, .int .u64 0, .bool false]), (TB, [.int .u64 (Um.seqN x : Int), .int .i64 (Um.penN x)]), (NX, [.int .i64 c.t, .int .i64 c.s, .int .i64 c.k, .int .i64 c.g, .int .u64 c.q, (.slice (some ⟨g', 0, none⟩) c.n cg'), .int .i64 M.cnt, .int .i64 M.l.kind, .int .i64 M.l.a, .int .i64 M.l.b, .int .u64 (M.l.old : Nat), .int .u64 (M.l.new : Nat), .bool M.l.done])] [(g', rowW M.ws c.n)]) (by kernel_rfl) (by kernel_rfl) ?start ?steps ?ends
  case start => exact ⟨rfl, hS.drew⟩
  case steps =>
    intro i o hi D ts' w' hD hpre hI
    obtain ⟨rfl, hS⟩ := hI
    dsimp only [putS, List.set]
    match i, hi with
    | 0, hi =>
      cases hi
      refine wpOp_step rfl (fun K hK => ?_)
      refine stp_val rfl (by refine yif_load (S := fun q => q = w') rfl _ _ rfl _ _ rfl _ (fun _ h => h ▸ hS.get 0 rfl) _ (row_any2 rfl) (by exact rfl) _ (by dsimp only [cutL, List.drop, List.take]; first | done | exact rfl)) rfl ?_
      exact hK _ _ ⟨_, rfl, rfl, hS⟩
    | 1, hi =>
      cases hi
      refine wpOp_step rfl (fun K hK => ?_)
      refine stp_val rfl (by refine yif_load (S := fun q => q = w') rfl _ _ rfl _ _ rfl _ (fun _ h => h ▸ hS.get 5 rfl) _ (row_any2 rfl) (by exact rfl) _ (by dsimp only [cutL, List.drop, List.take]; first | done | exact rfl)) rfl ?_
      exact hK _ _ ⟨_, rfl, rfl, hS⟩
    | 2, hi =>
      cases hi
      have d0 : D 0 = true := og_pre hpre (j := 0) (by kernel_rfl)
      refine wpOp_step rfl (fun K hK => ?_)
      simp only [hD, cond_false] at hS
      refine stx_store hS 2 rfl _ _ _ rfl _ _ rfl _ rfl _ (cond_at d0 rfl) _ rfl _ (siz_any2 rfl) (by exact rfl) (by exact rfl) (by exact rfl) rfl ?_
      intro u hS'
      exact hK _ _ ⟨_, rfl, rfl, hS'⟩
    | 3, hi =>
      cases hi
      have d1 : D 1 = true := og_pre hpre (j := 1) (by kernel_rfl)
      refine wpOp_step rfl (fun K hK => ?_)
      simp only [hD, cond_false] at hS
      refine stx_store hS 3 rfl _ _ _ rfl _ _ rfl _ rfl _ (cond_at d1 rfl) _ rfl _ (siz_any2 rfl) (by exact rfl) (by exact rfl) (by exact rfl) rfl ?_
      intro u hS'
      exact hK _ _ ⟨_, rfl, rfl, hS'⟩
    | i + 4, hi => simp at hi
  case ends =>
    intro D ts' w' hall hI
    obtain ⟨rfl, hS⟩ := hI
    have d0 : D 0 = true := hall 0 (by decide)
    have d1 : D 1 = true := hall 1 (by decide)
    have d2 : D 2 = true := hall 2 (by decide)
    have d3 : D 3 = true := hall 3 (by decide)
    simp only [d2, d3, cond_true] at hS
    dsimp only [putS, List.set]
    simp only [d0, d1, cond_true]
    clear hall d0 d1 d2 d3
    go_wp2
    have hZ := hS.get 2 rfl
    have hY := hS.get 3 rfl
    refine bodyPost_ret (v := .tuple #[.agg #[.int .u64 (x : Nat), .int .i64 1, .int .u64 (s : Nat), .bool false], (.agg #[.int .i64 c.t, .int .i64 c.s, .int .i64 c.k, .int .i64 c.g, .int .u64 c.q, (.slice (some ⟨g', 0, none⟩) c.n cg'), .int .i64 M.cnt, .int .i64 M.l.kind, .int .i64 M.l.a, .int .i64 M.l.b, .int .u64 (M.l.old : Nat), .int .u64 (M.l.new : Nat), .bool M.l.done])]) (by simp [results, Try.results45, go_sem, hZ.cell 0 _ rfl, hZ.cell 1 _ rfl, hZ.cell 2 _ rfl, hZ.cell 3 _ rfl, hY.cell 0 _ rfl, hY.cell 1 _ rfl, hY.cell 2 _ rfl, hY.cell 3 _ rfl, hY.cell 4 _ rfl, hY.cell 5 _ rfl, hY.cell 6 _ rfl, hY.cell 7 _ rfl, hY.cell 8 _ rfl, hY.cell 9 _ rfl, hY.cell 10 _ rfl, hY.cell 11 _ rfl, hY.cell 12 _ rfl]) rfl ?_
    exact ⟨g', cg', rfl, q1, q2, (Fr.refl w g).trans hFr hSz, unhide HW2, hS.getE 0 rfl, hS.bel⟩

set_option maxHeartbeats 8000000 in
theorem rStep8_1a (w : World) (c : Um.Cf) (m M : Um.Mm) (g cg : Nat) (x s : Nat) (h3 : Um.stN M.l.old = 3) (hx : Um.Word x) (hs : Um.Word s) (hB : BlkAt w g (rowW m.ws c.n)) (hr : c.r = true) (hw : WordsOk c m) (h1 : c.n ≤ cg) (h2 : cg ≤ maxLen) (hM : M = Um.mtouch c m 1 4 (Um.penN x) 0 0) :
    Calls Try.prog 45 #[.agg #[.int .u64 (x : Nat), .int .i64 1, .int .u64 (s : Nat), .bool false], (.agg #[.int .i64 c.t, .int .i64 c.s, .int .i64 c.k, .int .i64 c.g, .int .u64 c.q, (.slice (some ⟨g, 0, none⟩) c.n cg), .int .i64 m.cnt, .int .i64 m.l.kind, .int .i64 m.l.a, .int .i64 m.l.b, .int .u64 (m.l.old : Nat), .int .u64 (m.l.new : Nat), .bool m.l.done])] w fun r w' => ∃ g' cg', r = .returned (.tuple #[.agg #[.int .u64 (x : Nat), .int .i64 2, .int .u64 (M.l.old : Nat), .bool false], (.agg #[.int .i64 c.t, .int .i64 c.s, .int .i64 c.k, .int .i64 c.g, .int .u64 c.q, (.slice (some ⟨g', 0, none⟩) c.n cg'), .int .i64 M.cnt, .int .i64 M.l.kind, .int .i64 M.l.a, .int .i64 M.l.b, .int .u64 (M.l.old : Nat), .int .u64 (M.l.new : Nat), .bool M.l.done])]) ∧ c.n ≤ cg' ∧ cg' ≤ maxLen ∧ Fr w g g' ∧ WordsOk c M ∧ BlkAt w' g' (rowW M.ws c.n) ∧ Below w.heap.size w w' := by
  have hS := Sx.read w [(g, rowW m.ws c.n)] (fun p hp => by obtain rfl : p = _ := by simpa using hp
                                                            exact hB)
  have hst : ((Um.stN M.l.old : Nat) : Int) = 3 := by rw [h3]; rfl
  clear h3
  have HOW := hide (show Um.Word M.l.old by rw [hM]; exact Um.old_word hw)
  have HR := hide hr
  have HW := hide hw
  have HM := hide hM
  have HXW := hide hx
  have HSW := hide hs
  clear hB hr hw hM hx hs
  go_enter Try.func45, Try.ntmps45
  go_wp2_with (first | (refine wpx_box hS rfl _ _ rfl _ rfl _ (by intro _; simp only [Act.put, List.setIfInBounds_toArray, List.set_cons_zero, List.set_cons_succ]; first | done | exact rfl) ?_; clear hS; intro _ _ hS; dsimp only [blit, List.set, List.cons_append, List.nil_append, Value.cells, List.toList_toArray] at hS) | (refine wpx_alloc hS rfl _ rfl _ (zer_any2 rfl) _ (by intro _; simp only [Act.put, List.setIfInBounds_toArray, List.set_cons_zero, List.set_cons_succ]; first | done | exact rfl) ?_; clear hS; intro _ _ hS; dsimp only [blit, List.set, List.cons_append, List.nil_append, Value.cells, List.toList_toArray] at hS) | (refine wpx_ld hS rfl _ _ rfl _ _ rfl ?_; (first | refine ⟨0, _, rfl, ?_⟩ | refine ⟨1, _, rfl, ?_⟩ | refine ⟨2, _, rfl, ?_⟩ | refine ⟨3, _, rfl, ?_⟩ | refine ⟨4, _, rfl, ?_⟩ | refine ⟨5, _, rfl, ?_⟩ | refine ⟨6, _, rfl, ?_⟩ | refine ⟨7, _, rfl, ?_⟩ | refine ⟨8, _, rfl, ?_⟩ | refine ⟨9, _, rfl, ?_⟩); first | refine .inl ⟨_, one_any2 rfl, rfl, _, (by simp only [Act.put, List.setIfInBounds_toArray, List.set_cons_zero, List.set_cons_succ]; first | done | exact rfl), ?_⟩ | refine .inr ⟨_, _, row_any2 rfl, rfl, (by dsimp only [cutL, List.drop, List.take]; first | done | exact rfl), _, (by simp only [Act.put, List.setIfInBounds_toArray, List.set_cons_zero, List.set_cons_succ]; first | done | exact rfl), ?_⟩) | (refine wpx_st hS rfl _ _ _ rfl rfl _ _ rfl ?_; (first | refine ⟨0, _, rfl, ?_⟩ | refine ⟨1, _, rfl, ?_⟩ | refine ⟨2, _, rfl, ?_⟩ | refine ⟨3, _, rfl, ?_⟩ | refine ⟨4, _, rfl, ?_⟩ | refine ⟨5, _, rfl, ?_⟩ | refine ⟨6, _, rfl, ?_⟩ | refine ⟨7, _, rfl, ?_⟩ | refine ⟨8, _, rfl, ?_⟩ | refine ⟨9, _, rfl, ?_⟩); refine ⟨_, (by first | exact shA rfl | exact shI rfl | exact shB rfl | exact shS rfl | exact shP rfl | exact shF rfl | exact shN rfl), _, siz_any2 rfl, (by exact rfl), (by exact rfl), (by exact rfl), ?_⟩; clear hS; intro _ hS; dsimp only [blit, List.set, List.cons_append, List.nil_append, Value.cells, List.toList_toArray] at hS))
  refine (trUnpack_x hS x (unhide HXW)).mono ?_
  rintro r u ⟨rfl, hSn⟩
  clear hS
  have hS := hSn
  clear hSn
  go_wp2_with (first | (refine wpx_box hS rfl _ _ rfl _ rfl _ (by intro _; simp only [Act.put, List.setIfInBounds_toArray, List.set_cons_zero, List.set_cons_succ]; first | done | exact rfl) ?_; clear hS; intro _ _ hS; dsimp only [blit, List.set, List.cons_append, List.nil_append, Value.cells, List.toList_toArray] at hS) | (refine wpx_alloc hS rfl _ rfl _ (zer_any2 rfl) _ (by intro _; simp only [Act.put, List.setIfInBounds_toArray, List.set_cons_zero, List.set_cons_succ]; first | done | exact rfl) ?_; clear hS; intro _ _ hS; dsimp only [blit, List.set, List.cons_append, List.nil_append, Value.cells, List.toList_toArray] at hS) | (refine wpx_ld hS rfl _ _ rfl _ _ rfl ?_; (first | refine ⟨0, _, rfl, ?_⟩ | refine ⟨1, _, rfl, ?_⟩ | refine ⟨2, _, rfl, ?_⟩ | refine ⟨3, _, rfl, ?_⟩ | refine ⟨4, _, rfl, ?_⟩ | refine ⟨5, _, rfl, ?_⟩ | refine ⟨6, _, rfl, ?_⟩ | refine ⟨7, _, rfl, ?_⟩ | refine ⟨8, _, rfl, ?_⟩ | refine ⟨9, _, rfl, ?_⟩); first | refine .inl ⟨_, one_any2 rfl, rfl, _, (by simp only [Act.put, List.setIfInBounds_toArray, List.set_cons_zero, List.set_cons_succ]; first | done | exact rfl), ?_⟩ | refine .inr ⟨_, _, row_any2 rfl, rfl, (by dsimp only [cutL, List.drop, List.take]; first | done | exact rfl), _, (by simp only [Act.put, List.setIfInBounds_toArray, List.set_cons_zero, List.set_cons_succ]; first | done | exact rfl), ?_⟩) | (refine wpx_st hS rfl _ _ _ rfl rfl _ _ rfl ?_; (first | refine ⟨0, _, rfl, ?_⟩ | refine ⟨1, _, rfl, ?_⟩ | refine ⟨2, _, rfl, ?_⟩ | refine ⟨3, _, rfl, ?_⟩ | refine ⟨4, _, rfl, ?_⟩ | refine ⟨5, _, rfl, ?_⟩ | refine ⟨6, _, rfl, ?_⟩ | refine ⟨7, _, rfl, ?_⟩ | refine ⟨8, _, rfl, ?_⟩ | refine ⟨9, _, rfl, ?_⟩); refine ⟨_, (by first | exact shA rfl | exact shI rfl | exact shB rfl | exact shS rfl | exact shP rfl | exact shF rfl | exact shN rfl), _, siz_any2 rfl, (by exact rfl), (by exact rfl), (by exact rfl), ?_⟩; clear hS; intro _ hS; dsimp only [blit, List.set, List.cons_append, List.nil_append, Value.cells, List.toList_toArray] at hS))
  have hSz := hS.size
  refine (rLoad_x hS 0 rfl (unhide HR) (unhide HW) h1 h2 4 (Um.penN x) M (unhide HM)).mono ?_
  rintro r u ⟨g', cg', rfl, q1, q2, hFr, hWn, hSn⟩
  clear hS
  have hS := hSn
  clear hSn
  dsimp only [putL, List.set, List.cons_append, List.nil_append] at hS
  have HW2 := hide hWn
  clear hWn
  go_wp2_with (first | (refine wpx_box hS rfl _ _ rfl _ rfl _ (by intro _; simp only [Act.put, List.setIfInBounds_toArray, List.set_cons_zero, List.set_cons_succ]; first | done | exact rfl) ?_; clear hS; intro _ _ hS; dsimp only [blit, List.set, List.cons_append, List.nil_append, Value.cells, List.toList_toArray] at hS) | (refine wpx_alloc hS rfl _ rfl _ (zer_any2 rfl) _ (by intro _; simp only [Act.put, List.setIfInBounds_toArray, List.set_cons_zero, List.set_cons_succ]; first | done | exact rfl) ?_; clear hS; intro _ _ hS; dsimp only [blit, List.set, List.cons_append, List.nil_append, Value.cells, List.toList_toArray] at hS) | (refine wpx_ld hS rfl _ _ rfl _ _ rfl ?_; (first | refine ⟨0, _, rfl, ?_⟩ | refine ⟨1, _, rfl, ?_⟩ | refine ⟨2, _, rfl, ?_⟩ | refine ⟨3, _, rfl, ?_⟩ | refine ⟨4, _, rfl, ?_⟩ | refine ⟨5, _, rfl, ?_⟩ | refine ⟨6, _, rfl, ?_⟩ | refine ⟨7, _, rfl, ?_⟩ | refine ⟨8, _, rfl, ?_⟩ | refine ⟨9, _, rfl, ?_⟩); first | refine .inl ⟨_, one_any2 rfl, rfl, _, (by simp only [Act.put, List.setIfInBounds_toArray, List.set_cons_zero, List.set_cons_succ]; first | done | exact rfl), ?_⟩ | refine .inr ⟨_, _, row_any2 rfl, rfl, (by dsimp only [cutL, List.drop, List.take]; first | done | exact rfl), _, (by simp only [Act.put, List.setIfInBounds_toArray, List.set_cons_zero, List.set_cons_succ]; first | done | exact rfl), ?_⟩) | (refine wpx_st hS rfl _ _ _ rfl rfl _ _ rfl ?_; (first | refine ⟨0, _, rfl, ?_⟩ | refine ⟨1, _, rfl, ?_⟩ | refine ⟨2, _, rfl, ?_⟩ | refine ⟨3, _, rfl, ?_⟩ | refine ⟨4, _, rfl, ?_⟩ | refine ⟨5, _, rfl, ?_⟩ | refine ⟨6, _, rfl, ?_⟩ | refine ⟨7, _, rfl, ?_⟩ | refine ⟨8, _, rfl, ?_⟩ | refine ⟨9, _, rfl, ?_⟩); refine ⟨_, (by first | exact shA rfl | exact shI rfl | exact shB rfl | exact shS rfl | exact shP rfl | exact shF rfl | exact shN rfl), _, siz_any2 rfl, (by exact rfl), (by exact rfl), (by exact rfl), ?_⟩; clear hS; intro _ hS; dsimp only [blit, List.set, List.cons_append, List.nil_append, Value.cells, List.toList_toArray] at hS))
  refine (rState_x hS M.l.old (unhide HOW)).mono ?_
  rintro r u ⟨rfl, hSn⟩
  clear hS
  have hS := hSn
  clear hSn
  go_wp2_with (first | (refine wpx_box hS rfl _ _ rfl _ rfl _ (by intro _; simp only [Act.put, List.setIfInBounds_toArray, List.set_cons_zero, List.set_cons_succ]; first | done | exact rfl) ?_; clear hS; intro _ _ hS; dsimp only [blit, List.set, List.cons_append, List.nil_append, Value.cells, List.toList_toArray] at hS) | (refine wpx_alloc hS rfl _ rfl _ (zer_any2 rfl) _ (by intro _; simp only [Act.put, List.setIfInBounds_toArray, List.set_cons_zero, List.set_cons_succ]; first | done | exact rfl) ?_; clear hS; intro _ _ hS; dsimp only [blit, List.set, List.cons_append, List.nil_append, Value.cells, List.toList_toArray] at hS) | (refine wpx_ld hS rfl _ _ rfl _ _ rfl ?_; (first | refine ⟨0, _, rfl, ?_⟩ | refine ⟨1, _, rfl, ?_⟩ | refine ⟨2, _, rfl, ?_⟩ | refine ⟨3, _, rfl, ?_⟩ | refine ⟨4, _, rfl, ?_⟩ | refine ⟨5, _, rfl, ?_⟩ | refine ⟨6, _, rfl, ?_⟩ | refine ⟨7, _, rfl, ?_⟩ | refine ⟨8, _, rfl, ?_⟩ | refine ⟨9, _, rfl, ?_⟩); first | refine .inl ⟨_, one_any2 rfl, rfl, _, (by simp only [Act.put, List.setIfInBounds_toArray, List.set_cons_zero, List.set_cons_succ]; first | done | exact rfl), ?_⟩ | refine .inr ⟨_, _, row_any2 rfl, rfl, (by dsimp only [cutL, List.drop, List.take]; first | done | exact rfl), _, (by simp only [Act.put, List.setIfInBounds_toArray, List.set_cons_zero, List.set_cons_succ]; first | done | exact rfl), ?_⟩) | (refine wpx_st hS rfl _ _ _ rfl rfl _ _ rfl ?_; (first | refine ⟨0, _, rfl, ?_⟩ | refine ⟨1, _, rfl, ?_⟩ | refine ⟨2, _, rfl, ?_⟩ | refine ⟨3, _, rfl, ?_⟩ | refine ⟨4, _, rfl, ?_⟩ | refine ⟨5, _, rfl, ?_⟩ | refine ⟨6, _, rfl, ?_⟩ | refine ⟨7, _, rfl, ?_⟩ | refine ⟨8, _, rfl, ?_⟩ | refine ⟨9, _, rfl, ?_⟩); refine ⟨_, (by first | exact shA rfl | exact shI rfl | exact shB rfl | exact shS rfl | exact shP rfl | exact shF rfl | exact shN rfl), _, siz_any2 rfl, (by exact rfl), (by exact rfl), (by exact rfl), ?_⟩; clear hS; intro _ hS; dsimp only [blit, List.set, List.cons_append, List.nil_append, Value.cells, List.toList_toArray] at hS))
  obtain ⟨HB, rfl⟩ := nameB hS 0 rfl
  obtain ⟨MB, rfl⟩ := nameB hS 1 rfl
  obtain ⟨R1, rfl⟩ := nameB hS 2 rfl
  obtain ⟨R2, rfl⟩ := nameB hS 3 rfl
  obtain ⟨TB, rfl⟩ := nameB hS 4 rfl
  obtain ⟨NX, rfl⟩ := nameB hS 5 rfl
  refine wp_region_ogt (fun ts D ts' w' => ts' = putS ts [(54, cond (D 0) (.agg #[.int .u64 (x : Nat), .int .i64 2, .int .u64 (M.l.old : Nat), .bool false]) undef), (55, cond (D 1) (.agg #[.int .i64 c.t, .int .i64 c.s, .int .i64 c.k, .int .i64 c.g, .int .u64 c.q, (.slice (some ⟨g', 0, none⟩) c.n cg'), .int .i64 M.cnt, .int .i64 M.l.kind, .int .i64 M.l.a, .int .i64 M.l.b, .int .u64 (M.l.old : Nat), .int .u64 (M.l.new : Nat), .bool M.l.done]) undef)] ∧ Sx [] w w' [(HB, [.int .u64 (x : Nat), .int .i64 2, .int .u64 (M.l.old : Nat), .bool false]), (MB, [.int .i64 c.t, .int .i64 c.s, .int .i64 c.k, .int .i64 c.g, .int .u64 c.q, (.slice (some ⟨g, 0, none⟩) c.n cg), .int .i64 m.cnt, .int .i64 m.l.kind, .int .i64 m.l.a, .int .i64 m.l.b, .int .u64 (m.l.old : Nat), .int .u64 (m.l.new : Nat), .bool m.l.done]), (R1, cond (D 2) [.int .u64 (x : Nat), .int .i64 2, .int .u64 (M.l.old : Nat), .bool false] [.int .u64 0, .int .i64 0, .int .u64 0, .bool false]), (R2, cond (D 3) [.int .i64 c.t, .int .i64 c.s, .int .i64 c.k, .int .i64 c.g, .int .u64 c.q, (.slice (some ⟨g', 0, none⟩) c.n cg'), .int .i64 M.cnt, .int .i64 M.l.kind, .int .i64 M.l.a, .int .i64 M.l.b, .int .u64 (M.l.old : Nat), .int .u64 (M.l.new : Nat), .bool M.l.done] [.int .i64 0, .int .i64 0, .int .i64 0, .int .i64 0, .int .u64 0, .slice none 0 0, .int .i64 0, .int .i64 0, .int .i64 0, .int .i64 0, .int .u64 0, .int .u64 0, .bool false]), (TB, [.int .u64 (Um.seqN x : Int), .int .i64 (Um.penN x)]), (NX, [.int .i64 c.t, .int .i64 c.s, .int .i64 c.k, .int .i64 c.g, .int .u64 c.q, (.slice (some ⟨g', 0, none⟩) c.n cg'), .int .i64 M.cnt, .int .i64 M.l.kind, .int .i64 M.l.a, .int .i64 M.l.b, .int .u64 (M.l.old : Nat), .int .u64 (M.l.new : Nat), .bool M.l.done])] [(g', rowW M.ws c.n)]) (by kernel_rfl) (by kernel_rfl) ?start ?steps ?ends
  case start => exact ⟨rfl, hS.drew⟩
  case steps =>
    intro i o hi D ts' w' hD hpre hI
    obtain ⟨rfl, hS⟩ := hI
    dsimp only [putS, List.set]
    match i, hi with
    | 0, hi =>
      cases hi
      refine wpOp_step rfl (fun K hK => ?_)
      refine stp_val rfl (by refine yif_load (S := fun q => q = w') rfl _ _ rfl _ _ rfl _ (fun _ h => h ▸ hS.get 0 rfl) _ (row_any2 rfl) (by exact rfl) _ (by dsimp only [cutL, List.drop, List.take]; first | done | exact rfl)) rfl ?_
      exact hK _ _ ⟨_, rfl, rfl, hS⟩
    | 1, hi =>
      cases hi
      refine wpOp_step rfl (fun K hK => ?_)
      refine stp_val rfl (by refine yif_load (S := fun q => q = w') rfl _ _ rfl _ _ rfl _ (fun _ h => h ▸ hS.get 5 rfl) _ (row_any2 rfl) (by exact rfl) _ (by dsimp only [cutL, List.drop, List.take]; first | done | exact rfl)) rfl ?_
      exact hK _ _ ⟨_, rfl, rfl, hS⟩
    | 2, hi =>
      cases hi
      have d0 : D 0 = true := og_pre hpre (j := 0) (by kernel_rfl)
      refine wpOp_step rfl (fun K hK => ?_)
      simp only [hD, cond_false] at hS
      refine stx_store hS 2 rfl _ _ _ rfl _ _ rfl _ rfl _ (cond_at d0 rfl) _ rfl _ (siz_any2 rfl) (by exact rfl) (by exact rfl) (by exact rfl) rfl ?_
      intro u hS'
      exact hK _ _ ⟨_, rfl, rfl, hS'⟩
    | 3, hi =>
      cases hi
      have d1 : D 1 = true := og_pre hpre (j := 1) (by kernel_rfl)
      refine wpOp_step rfl (fun K hK => ?_)
      simp only [hD, cond_false] at hS
      refine stx_store hS 3 rfl _ _ _ rfl _ _ rfl _ rfl _ (cond_at d1 rfl) _ rfl _ (siz_any2 rfl) (by exact rfl) (by exact rfl) (by exact rfl) rfl ?_
      intro u hS'
      exact hK _ _ ⟨_, rfl, rfl, hS'⟩
    | i + 4, hi => simp at hi
  case ends =>
    intro D ts' w' hall hI
    obtain ⟨rfl, hS⟩ := hI
    have d0 : D 0 = true := hall 0 (by decide)
    have d1 : D 1 = true := hall 1 (by decide)
    have d2 : D 2 = true := hall 2 (by decide)
    have d3 : D 3 = true := hall 3 (by decide)
    simp only [d2, d3, cond_true] at hS
    dsimp only [putS, List.set]
    simp only [d0, d1, cond_true]
    clear hall d0 d1 d2 d3
    go_wp2
    have hZ := hS.get 2 rfl
    have hY := hS.get 3 rfl
    refine bodyPost_ret (v := .tuple #[.agg #[.int .u64 (x : Nat), .int .i64 2, .int .u64 (M.l.old : Nat), .bool false], (.agg #[.int .i64 c.t, .int .i64 c.s, .int .i64 c.k, .int .i64 c.g, .int .u64 c.q, (.slice (some ⟨g', 0, none⟩) c.n cg'), .int .i64 M.cnt, .int .i64 M.l.kind, .int .i64 M.l.a, .int .i64 M.l.b, .int .u64 (M.l.old : Nat), .int .u64 (M.l.new : Nat), .bool M.l.done])]) (by simp [results, Try.results45, go_sem, hZ.cell 0 _ rfl, hZ.cell 1 _ rfl, hZ.cell 2 _ rfl, hZ.cell 3 _ rfl, hY.cell 0 _ rfl, hY.cell 1 _ rfl, hY.cell 2 _ rfl, hY.cell 3 _ rfl, hY.cell 4 _ rfl, hY.cell 5 _ rfl, hY.cell 6 _ rfl, hY.cell 7 _ rfl, hY.cell 8 _ rfl, hY.cell 9 _ rfl, hY.cell 10 _ rfl, hY.cell 11 _ rfl, hY.cell 12 _ rfl]) rfl ?_
    exact ⟨g', cg', rfl, q1, q2, (Fr.refl w g).trans hFr hSz, unhide HW2, hS.getE 0 rfl, hS.bel⟩

set_option maxHeartbeats 8000000 in
theorem rStep8_1b (w : World) (c : Um.Cf) (m M : Um.Mm) (g cg : Nat) (x s : Nat) (h3 : ¬ Um.stN M.l.old = 3) (hx : Um.Word x) (hs : Um.Word s) (hB : BlkAt w g (rowW m.ws c.n)) (hr : c.r = true) (hw : WordsOk c m) (h1 : c.n ≤ cg) (h2 : cg ≤ maxLen) (hM : M = Um.mtouch c m 1 4 (Um.penN x) 0 0) :
    Calls Try.prog 45 #[.agg #[.int .u64 (x : Nat), .int .i64 1, .int .u64 (s : Nat), .bool false], (.agg #[.int .i64 c.t, .int .i64 c.s, .int .i64 c.k, .int .i64 c.g, .int .u64 c.q, (.slice (some ⟨g, 0, none⟩) c.n cg), .int .i64 m.cnt, .int .i64 m.l.kind, .int .i64 m.l.a, .int .i64 m.l.b, .int .u64 (m.l.old : Nat), .int .u64 (m.l.new : Nat), .bool m.l.done])] w fun r w' => ∃ g' cg', r = .returned (.tuple #[.agg #[.int .u64 (x : Nat), .int .i64 3, .int .u64 (M.l.old : Nat), .bool false], (.agg #[.int .i64 c.t, .int .i64 c.s, .int .i64 c.k, .int .i64 c.g, .int .u64 c.q, (.slice (some ⟨g', 0, none⟩) c.n cg'), .int .i64 M.cnt, .int .i64 M.l.kind, .int .i64 M.l.a, .int .i64 M.l.b, .int .u64 (M.l.old : Nat), .int .u64 (M.l.new : Nat), .bool M.l.done])]) ∧ c.n ≤ cg' ∧ cg' ≤ maxLen ∧ Fr w g g' ∧ WordsOk c M ∧ BlkAt w' g' (rowW M.ws c.n) ∧ Below w.heap.size w w' := by
  have hS := Sx.read w [(g, rowW m.ws c.n)] (fun p hp => by obtain rfl : p = _ := by simpa using hp
                                                            exact hB)
  have hst : (((Um.stN M.l.old : Nat) : Int) == 3) = false := by have : ¬ ((Um.stN M.l.old : Nat) : Int) = 3 := by omega
                                                                 simpa using this
  clear h3
  have HOW := hide (show Um.Word M.l.old by rw [hM]; exact Um.old_word hw)
  have HR := hide hr
  have HW := hide hw
  have HM := hide hM
  have HXW := hide hx
  have HSW := hide hs
  clear hB hr hw hM hx hs
  go_enter Try.func45, Try.ntmps45
  go_wp2_with (first | (refine wpx_box hS rfl _ _ rfl _ rfl _ (by intro _; simp only [Act.put, List.setIfInBounds_toArray, List.set_cons_zero, List.set_cons_succ]; first | done | exact rfl) ?_; clear hS; intro _ _ hS; dsimp only [blit, List.set, List.cons_append, List.nil_append, Value.cells, List.toList_toArray] at hS) | (refine wpx_alloc hS rfl _ rfl _ (zer_any2 rfl) _ (by intro _; simp only [Act.put, List.setIfInBounds_toArray, List.set_cons_zero, List.set_cons_succ]; first | done | exact rfl) ?_; clear hS; intro _ _ hS; dsimp only [blit, List.set, List.cons_append, List.nil_append, Value.cells, List.toList_toArray] at hS) | (refine wpx_ld hS rfl _ _ rfl _ _ rfl ?_; (first | refine ⟨0, _, rfl, ?_⟩ | refine ⟨1, _, rfl, ?_⟩ | refine ⟨2, _, rfl, ?_⟩ | refine ⟨3, _, rfl, ?_⟩ | refine ⟨4, _, rfl, ?_⟩ | refine ⟨5, _, rfl, ?_⟩ | refine ⟨6, _, rfl, ?_⟩ | refine ⟨7, _, rfl, ?_⟩ | refine ⟨8, _, rfl, ?_⟩ | refine ⟨9, _, rfl, ?_⟩); first | refine .inl ⟨_, one_any2 rfl, rfl, _, (by simp only [Act.put, List.setIfInBounds_toArray, List.set_cons_zero, List.set_cons_succ]; first | done | exact rfl), ?_⟩ | refine .inr ⟨_, _, row_any2 rfl, rfl, (by dsimp only [cutL, List.drop, List.take]; first | done | exact rfl), _, (by simp only [Act.put, List.setIfInBounds_toArray, List.set_cons_zero, List.set_cons_succ]; first | done | exact rfl), ?_⟩) | (refine wpx_st hS rfl _ _ _ rfl rfl _ _ rfl ?_; (first | refine ⟨0, _, rfl, ?_⟩ | refine ⟨1, _, rfl, ?_⟩ | refine ⟨2, _, rfl, ?_⟩ | refine ⟨3, _, rfl, ?_⟩ | refine ⟨4, _, rfl, ?_⟩ | refine ⟨5, _, rfl, ?_⟩ | refine ⟨6, _, rfl, ?_⟩ | refine ⟨7, _, rfl, ?_⟩ | refine ⟨8, _, rfl, ?_⟩ | refine ⟨9, _, rfl, ?_⟩); refine ⟨_, (by first | exact shA rfl | exact shI rfl | exact shB rfl | exact shS rfl | exact shP rfl | exact shF rfl | exact shN rfl), _, siz_any2 rfl, (by exact rfl), (by exact rfl), (by exact rfl), ?_⟩; clear hS; intro _ hS; dsimp only [blit, List.set, List.cons_append, List.nil_append, Value.cells, List.toList_toArray] at hS))
  refine (trUnpack_x hS x (unhide HXW)).mono ?_
  rintro r u ⟨rfl, hSn⟩
  clear hS
  have hS := hSn
  clear hSn
  go_wp2_with (first | (refine wpx_box hS rfl _ _ rfl _ rfl _ (by intro _; simp only [Act.put, List.setIfInBounds_toArray, List.set_cons_zero, List.set_cons_succ]; first | done | exact rfl) ?_; clear hS; intro _ _ hS; dsimp only [blit, List.set, List.cons_append, List.nil_append, Value.cells, List.toList_toArray] at hS) | (refine wpx_alloc hS rfl _ rfl _ (zer_any2 rfl) _ (by intro _; simp only [Act.put, List.setIfInBounds_toArray, List.set_cons_zero, List.set_cons_succ]; first | done | exact rfl) ?_; clear hS; intro _ _ hS; dsimp only [blit, List.set, List.cons_append, List.nil_append, Value.cells, List.toList_toArray] at hS) | (refine wpx_ld hS rfl _ _ rfl _ _ rfl ?_; (first | refine ⟨0, _, rfl, ?_⟩ | refine ⟨1, _, rfl, ?_⟩ | refine ⟨2, _, rfl, ?_⟩ | refine ⟨3, _, rfl, ?_⟩ | refine ⟨4, _, rfl, ?_⟩ | refine ⟨5, _, rfl, ?_⟩ | refine ⟨6, _, rfl, ?_⟩ | refine ⟨7, _, rfl, ?_⟩ | refine ⟨8, _, rfl, ?_⟩ | refine ⟨9, _, rfl, ?_⟩); first | refine .inl ⟨_, one_any2 rfl, rfl, _, (by simp only [Act.put, List.setIfInBounds_toArray, List.set_cons_zero, List.set_cons_succ]; first | done | exact rfl), ?_⟩ | refine .inr ⟨_, _, row_any2 rfl, rfl, (by dsimp only [cutL, List.drop, List.take]; first | done | exact rfl), _, (by simp only [Act.put, List.setIfInBounds_toArray, List.set_cons_zero, List.set_cons_succ]; first | done | exact rfl), ?_⟩) | (refine wpx_st hS rfl _ _ _ rfl rfl _ _ rfl ?_; (first | refine ⟨0, _, rfl, ?_⟩ | refine ⟨1, _, rfl, ?_⟩ | refine ⟨2, _, rfl, ?_⟩ | refine ⟨3, _, rfl, ?_⟩ | refine ⟨4, _, rfl, ?_⟩ | refine ⟨5, _, rfl, ?_⟩ | refine ⟨6, _, rfl, ?_⟩ | refine ⟨7, _, rfl, ?_⟩ | refine ⟨8, _, rfl, ?_⟩ | refine ⟨9, _, rfl, ?_⟩); refine ⟨_, (by first | exact shA rfl | exact shI rfl | exact shB rfl | exact shS rfl | exact shP rfl | exact shF rfl | exact shN rfl), _, siz_any2 rfl, (by exact rfl), (by exact rfl), (by exact rfl), ?_⟩; clear hS; intro _ hS; dsimp only [blit, List.set, List.cons_append, List.nil_append, Value.cells, List.toList_toArray] at hS))
  have hSz := hS.size
  refine (rLoad_x hS 0 rfl (unhide HR) (unhide HW) h1 h2 4 (Um.penN x) M (unhide HM)).mono ?_
  rintro r u ⟨g', cg', rfl, q1, q2, hFr, hWn, hSn⟩
  clear hS
  have hS := hSn
  clear hSn
  dsimp only [putL, List.set, List.cons_append, List.nil_append] at hS
  have HW2 := hide hWn
  clear hWn
  go_wp2_with (first | (refine wpx_box hS rfl _ _ rfl _ rfl _ (by intro _; simp only [Act.put, List.setIfInBounds_toArray, List.set_cons_zero, List.set_cons_succ]; first | done | exact rfl) ?_; clear hS; intro _ _ hS; dsimp only [blit, List.set, List.cons_append, List.nil_append, Value.cells, List.toList_toArray] at hS) | (refine wpx_alloc hS rfl _ rfl _ (zer_any2 rfl) _ (by intro _; simp only [Act.put, List.setIfInBounds_toArray, List.set_cons_zero, List.set_cons_succ]; first | done | exact rfl) ?_; clear hS; intro _ _ hS; dsimp only [blit, List.set, List.cons_append, List.nil_append, Value.cells, List.toList_toArray] at hS) | (refine wpx_ld hS rfl _ _ rfl _ _ rfl ?_; (first | refine ⟨0, _, rfl, ?_⟩ | refine ⟨1, _, rfl, ?_⟩ | refine ⟨2, _, rfl, ?_⟩ | refine ⟨3, _, rfl, ?_⟩ | refine ⟨4, _, rfl, ?_⟩ | refine ⟨5, _, rfl, ?_⟩ | refine ⟨6, _, rfl, ?_⟩ | refine ⟨7, _, rfl, ?_⟩ | refine ⟨8, _, rfl, ?_⟩ | refine ⟨9, _, rfl, ?_⟩); first | refine .inl ⟨_, one_any2 rfl, rfl, _, (by simp only [Act.put, List.setIfInBounds_toArray, List.set_cons_zero, List.set_cons_succ]; first | done | exact rfl), ?_⟩ | refine .inr ⟨_, _, row_any2 rfl, rfl, (by dsimp only [cutL, List.drop, List.take]; first | done | exact rfl), _, (by simp only [Act.put, List.setIfInBounds_toArray, List.set_cons_zero, List.set_cons_succ]; first | done | exact rfl), ?_⟩) | (refine wpx_st hS rfl _ _ _ rfl rfl _ _ rfl ?_; (first | refine ⟨0, _, rfl, ?_⟩ | refine ⟨1, _, rfl, ?_⟩ | refine ⟨2, _, rfl, ?_⟩ | refine ⟨3, _, rfl, ?_⟩ | refine ⟨4, _, rfl, ?_⟩ | refine ⟨5, _, rfl, ?_⟩ | refine ⟨6, _, rfl, ?_⟩ | refine ⟨7, _, rfl, ?_⟩ | refine ⟨8, _, rfl, ?_⟩ | refine ⟨9, _, rfl, ?_⟩); refine ⟨_, (by first | exact shA rfl | exact shI rfl | exact shB rfl | exact shS rfl | exact shP rfl | exact shF rfl | exact shN rfl), _, siz_any2 rfl, (by exact rfl), (by exact rfl), (by exact rfl), ?_⟩; clear hS; intro _ hS; dsimp only [blit, List.set, List.cons_append, List.nil_append, Value.cells, List.toList_toArray] at hS))
  refine (rState_x hS M.l.old (unhide HOW)).mono ?_
  rintro r u ⟨rfl, hSn⟩
  clear hS
  have hS := hSn
  clear hSn
  go_wp2_with (first | (refine wpx_box hS rfl _ _ rfl _ rfl _ (by intro _; simp only [Act.put, List.setIfInBounds_toArray, List.set_cons_zero, List.set_cons_succ]; first | done | exact rfl) ?_; clear hS; intro _ _ hS; dsimp only [blit, List.set, List.cons_append, List.nil_append, Value.cells, List.toList_toArray] at hS) | (refine wpx_alloc hS rfl _ rfl _ (zer_any2 rfl) _ (by intro _; simp only [Act.put, List.setIfInBounds_toArray, List.set_cons_zero, List.set_cons_succ]; first | done | exact rfl) ?_; clear hS; intro _ _ hS; dsimp only [blit, List.set, List.cons_append, List.nil_append, Value.cells, List.toList_toArray] at hS) | (refine wpx_ld hS rfl _ _ rfl _ _ rfl ?_; (first | refine ⟨0, _, rfl, ?_⟩ | refine ⟨1, _, rfl, ?_⟩ | refine ⟨2, _, rfl, ?_⟩ | refine ⟨3, _, rfl, ?_⟩ | refine ⟨4, _, rfl, ?_⟩ | refine ⟨5, _, rfl, ?_⟩ | refine ⟨6, _, rfl, ?_⟩ | refine ⟨7, _, rfl, ?_⟩ | refine ⟨8, _, rfl, ?_⟩ | refine ⟨9, _, rfl, ?_⟩); first | refine .inl ⟨_, one_any2 rfl, rfl, _, (by simp only [Act.put, List.setIfInBounds_toArray, List.set_cons_zero, List.set_cons_succ]; first | done | exact rfl), ?_⟩ | refine .inr ⟨_, _, row_any2 rfl, rfl, (by dsimp only [cutL, List.drop, List.take]; first | done | exact rfl), _, (by simp only [Act.put, List.setIfInBounds_toArray, List.set_cons_zero, List.set_cons_succ]; first | done | exact rfl), ?_⟩) | (refine wpx_st hS rfl _ _ _ rfl rfl _ _ rfl ?_; (first | refine ⟨0, _, rfl, ?_⟩ | refine ⟨1, _, rfl, ?_⟩ | refine ⟨2, _, rfl, ?_⟩ | refine ⟨3, _, rfl, ?_⟩ | refine ⟨4, _, rfl, ?_⟩ | refine ⟨5, _, rfl, ?_⟩ | refine ⟨6, _, rfl, ?_⟩ | refine ⟨7, _, rfl, ?_⟩ | refine ⟨8, _, rfl, ?_⟩ | refine ⟨9, _, rfl, ?_⟩); refine ⟨_, (by first | exact shA rfl | exact shI rfl | exact shB rfl | exact shS rfl | exact shP rfl | exact shF rfl | exact shN rfl), _, siz_any2 rfl, (by exact rfl), (by exact rfl), (by exact rfl), ?_⟩; clear hS; intro _ hS; dsimp only [blit, List.set, List.cons_append, List.nil_append, Value.cells, List.toList_toArray] at hS))
  obtain ⟨HB, rfl⟩ := nameB hS 0 rfl
  obtain ⟨MB, rfl⟩ := nameB hS 1 rfl
  obtain ⟨R1, rfl⟩ := nameB hS 2 rfl
  obtain ⟨R2, rfl⟩ := nameB hS 3 rfl
  obtain ⟨TB, rfl⟩ := nameB hS 4 rfl
  obtain ⟨NX, rfl⟩ := nameB hS 5 rfl
  refine wp_region_ogt (fun ts D ts' w' => ts' = putS ts [(54, cond (D 0) (.agg #[.int .u64 (x : Nat), .int .i64 3, .int .u64 (M.l.old : Nat), .bool false]) undef), (55, cond (D 1) (.agg #[.int .i64 c.t, .int .i64 c.s, .int .i64 c.k, .int .i64 c.g, .int .u64 c.q, (.slice (some ⟨g', 0, none⟩) c.n cg'), .int .i64 M.cnt, .int .i64 M.l.kind, .int .i64 M.l.a, .int .i64 M.l.b, .int .u64 (M.l.old : Nat), .int .u64 (M.l.new : Nat), .bool M.l.done]) undef)] ∧ Sx [] w w' [(HB, [.int .u64 (x : Nat), .int .i64 3, .int .u64 (M.l.old : Nat), .bool false]), (MB, [.int .i64 c.t, .int .i64 c.s, .int .i64 c.k, .int .i64 c.g, .int .u64 c.q, (.slice (some ⟨g, 0, none⟩) c.n cg), .int .i64 m.cnt, .int .i64 m.l.kind, .int .i64 m.l.a, .int .i64 m.l.b, .int .u64 (m.l.old : Nat), .int .u64 (m.l.new : Nat), .bool m.l.done]), (R1, cond (D 2) [.int .u64 (x : Nat), .int .i64 3, .int .u64 (M.l.old : Nat), .bool false] [.int .u64 0, .int .i64 0, .int .u64 0, .bool false]), (R2, cond (D 3) [.int .i64 c.t, .int .i64 c.s, .int .i64 c.k, .int .i64 c.g, .int .u64 c.q, (.slice (some ⟨g', 0, none⟩) c.n cg'), .int .i64 M.cnt, .int .i64 M.l.kind, .int .i64 M.l.a, .int .i64 M.l.b, .int .u64 (M.l.old : Nat), .int .u64 (M.l.new : Nat), .bool M.l.done] [.int .i64 0, .int .i64 0, .int .i64 0, .int .i64 0, .int .u64 0, .slice none 0 0, .int .i64 0, .int .i64 0, .int .i64 0, .int .i64 0, .int .u64 0, .int .u64 0, .bool false]), (TB, [.int .u64 (Um.seqN x : Int), .int .i64 (Um.penN x)]), (NX, [.int .i64 c.t, .int .i64 c.s, .int .i64 c.k, .int .i64 c.g, .int .u64 c.q, (.slice (some ⟨g', 0, none⟩) c.n cg'), .int .i64 M.cnt, .int .i64 M.l.kind, .int .i64 M.l.a, .int .i64 M.l.b, .int .u64 (M.l.old : Nat), .int .u64 (M.l.new : Nat), .bool M.l.done])] [(g', rowW M.ws c.n)]) (by kernel_rfl) (by kernel_rfl) ?start ?steps ?ends
  case start => exact ⟨rfl, hS.drew⟩
  case steps =>
    intro i o hi D ts' w' hD hpre hI
    obtain ⟨rfl, hS⟩ := hI
    dsimp only [putS, List.set]
    match i, hi with
    | 0, hi =>
      cases hi
      refine wpOp_step rfl (fun K hK => ?_)
      refine stp_val rfl (by refine yif_load (S := fun q => q = w') rfl _ _ rfl _ _ rfl _ (fun _ h => h ▸ hS.get 0 rfl) _ (row_any2 rfl) (by exact rfl) _ (by dsimp only [cutL, List.drop, List.take]; first | done | exact rfl)) rfl ?_
      exact hK _ _ ⟨_, rfl, rfl, hS⟩
    | 1, hi =>
      cases hi
      refine wpOp_step rfl (fun K hK => ?_)
      refine stp_val rfl (by refine yif_load (S := fun q => q = w') rfl _ _ rfl _ _ rfl _ (fun _ h => h ▸ hS.get 5 rfl) _ (row_any2 rfl) (by exact rfl) _ (by dsimp only [cutL, List.drop, List.take]; first | done | exact rfl)) rfl ?_
      exact hK _ _ ⟨_, rfl, rfl, hS⟩
    | 2, hi =>
      cases hi
      have d0 : D 0 = true := og_pre hpre (j := 0) (by kernel_rfl)
      refine wpOp_step rfl (fun K hK => ?_)
      simp only [hD, cond_false] at hS
      refine stx_store hS 2 rfl _ _ _ rfl _ _ rfl _ rfl _ (cond_at d0 rfl) _ rfl _ (siz_any2 rfl) (by exact rfl) (by exact rfl) (by exact rfl) rfl ?_
      intro u hS'
      exact hK _ _ ⟨_, rfl, rfl, hS'⟩
    | 3, hi =>
      cases hi
      have d1 : D 1 = true := og_pre hpre (j := 1) (by kernel_rfl)
      refine wpOp_step rfl (fun K hK => ?_)
      simp only [hD, cond_false] at hS
      refine stx_store hS 3 rfl _ _ _ rfl _ _ rfl _ rfl _ (cond_at d1 rfl) _ rfl _ (siz_any2 rfl) (by exact rfl) (by exact rfl) (by exact rfl) rfl ?_
      intro u hS'
      exact hK _ _ ⟨_, rfl, rfl, hS'⟩
    | i + 4, hi => simp at hi
  case ends =>
    intro D ts' w' hall hI
    obtain ⟨rfl, hS⟩ := hI
    have d0 : D 0 = true := hall 0 (by decide)
    have d1 : D 1 = true := hall 1 (by decide)
    have d2 : D 2 = true := hall 2 (by decide)
    have d3 : D 3 = true := hall 3 (by decide)
    simp only [d2, d3, cond_true] at hS
    dsimp only [putS, List.set]
    simp only [d0, d1, cond_true]
    clear hall d0 d1 d2 d3
    go_wp2
    have hZ := hS.get 2 rfl
    have hY := hS.get 3 rfl
    refine bodyPost_ret (v := .tuple #[.agg #[.int .u64 (x : Nat), .int .i64 3, .int .u64 (M.l.old : Nat), .bool false], (.agg #[.int .i64 c.t, .int .i64 c.s, .int .i64 c.k, .int .i64 c.g, .int .u64 c.q, (.slice (some ⟨g', 0, none⟩) c.n cg'), .int .i64 M.cnt, .int .i64 M.l.kind, .int .i64 M.l.a, .int .i64 M.l.b, .int .u64 (M.l.old : Nat), .int .u64 (M.l.new : Nat), .bool M.l.done])]) (by simp [results, Try.results45, go_sem, hZ.cell 0 _ rfl, hZ.cell 1 _ rfl, hZ.cell 2 _ rfl, hZ.cell 3 _ rfl, hY.cell 0 _ rfl, hY.cell 1 _ rfl, hY.cell 2 _ rfl, hY.cell 3 _ rfl, hY.cell 4 _ rfl, hY.cell 5 _ rfl, hY.cell 6 _ rfl, hY.cell 7 _ rfl, hY.cell 8 _ rfl, hY.cell 9 _ rfl, hY.cell 10 _ rfl, hY.cell 11 _ rfl, hY.cell 12 _ rfl]) rfl ?_
    exact ⟨g', cg', rfl, q1, q2, (Fr.refl w g).trans hFr hSz, unhide HW2, hS.getE 0 rfl, hS.bel⟩

end Go.Proofs.Ytkiaogbddfjkkaa
