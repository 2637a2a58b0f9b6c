/-
  Texts that the laws stand on, merged (HelpMath2, HelpMath3, StoreN, StoreZ2, HelpX, HelpAlive, OpenCfg, OpenWords, BlkO, HelpMath4, OpenPlay, OpenHelp, HelpMath5).
-/
import Derived.Test.YtglmniciojemfaaM1
import Derived.Test.YtglmniciojemfaaM10
import Derived.Test.YtglmniciojemfaaM2
import Derived.Test.YtglmniciojemfaaM3
import Derived.Test.YtglmniciojemfaaM4
import Derived.Deep.Slices
import Derived.LoopTactic
import Derived.OpenShut
import Derived.ProofKit
import Derived.ShutString
import Derived.SizedLaws
import Derived.WalkKit

/-
  Plain arithmetic of layer 8: however many help, each word is as it was, or as one leaves it. No Go in sight.
-/
namespace Um
set_option maxRecDepth 100000

theorem swap_ws (c : Cf) (m : Mm) (a b : Int) (o v i : Nat) : (mtouch c m 3 a b o v).ws i = if (i : Int) = c.cl a b ∧ m.ws i = o then v else m.ws i := by
  unfold mtouch
  split
  · rename_i h
    show putW m.ws (c.cl a b).toNat (trn 3 o v (m.ws (c.cl a b).toNat)) i = _
    by_cases e : i = (c.cl a b).toNat
    · subst e
      rw [putW_same]
      have e1 : (((c.cl a b).toNat : Nat) : Int) = c.cl a b := by omega
      simp [trn, e1]
    · rw [putW_other e, if_neg (by intro ⟨h1, _⟩; omega)]
  · rename_i h
    rw [if_neg (by intro ⟨h1, _⟩; omega)]
    rfl

theorem swap_done (c : Cf) (m : Mm) (a b : Int) (o v : Nat) : (mtouch c m 3 a b o v).l.done = decide (0 ≤ c.cl a b ∧ m.ws (c.cl a b).toNat = o) := by
  unfold mtouch
  split
  · rename_i h
    show trd 3 o (m.ws (c.cl a b).toNat) = _
    simp [trd, h]
    rfl
  · rename_i h
    simp [mmiss, h]

theorem load_old (c : Cf) (m : Mm) (a b : Int) : (mtouch c m 1 a b 0 0).l.old = if 0 ≤ c.cl a b then m.ws (c.cl a b).toNat else 0 := by
  unfold mtouch
  split <;> rfl

/-- the cells of a slot that is pending -/
def iS (c : Cf) (w : Nat) : Int := c.cl 4 (penN w)
def iN (c : Cf) (w : Nat) : Int := c.cl 6 (penN w)

theorem cl_tally {c : Cf} (h : c.r = true) : c.cl 1 0 = 0 := by simp [Cf.cl, cellN, h]

theorem i_facts {c : Cf} (h : c.r = true) (w : Nat) : (iS c w = -1 ∧ iN c w = -1) ∨ (0 < iS c w ∧ iN c w = iS c w + 2) := by
  have hb := c.rb h
  unfold iS iN Cf.cl cellN
  rw [h]
  simp only [if_true]
  by_cases hp : 0 ≤ penN w ∧ penN w < c.s
  · right
    simp [hp]
    omega
  · left
    have h1 : ¬ (0 ≤ penN w ∧ penN w < c.s) := hp
    simp
    omega

/-- what one leaves -/
def tgN (c : Cf) (w : Nat) (ws : Nat → Nat) (i : Nat) : Nat :=
  if i = 0 then (if ws 0 = w then setlN w else ws 0)
  else if (i : Int) = iN c w then (if ws i = 0 then seqN w else ws i)
  else if (i : Int) = iS c w then (if stN (ws i) = 3 then comN (ws i) else ws i)
  else ws i

theorem st_com (x : Nat) : stN (comN x) = 4 := (move_parts x 4 (x.testBit 26) (by decide)).2.1

/-- each word is as it was, or as one leaves it -/
def Mix (c : Cf) (w : Nat) (ws0 ws : Nat → Nat) : Prop := ∀ i, ws i = ws0 i ∨ ws i = tgN c w ws0 i

/-- what a help knows -/
structure Knows (c : Cf) (w : Nat) (ws0 ws : Nat → Nat) (h : Hs) : Prop where
  nx : h.nx ≤ 4
  num : 1 ≤ h.nx → 0 ≤ iN c w → ws (iN c w).toNat = tgN c w ws0 (iN c w).toNat
  lay : h.nx = 2 → 0 ≤ iS c w ∧ h.s = ws0 (iS c w).toNat ∧ stN (ws0 (iS c w).toNat) = 3
  set : 3 ≤ h.nx → 0 ≤ iS c w → ws (iS c w).toNat = tgN c w ws0 (iS c w).toNat
  tal : h.nx = 4 → ws 0 = tgN c w ws0 0

theorem tg_N {c : Cf} (hr : c.r = true) {w : Nat} {ws : Nat → Nat} {i : Nat} (h : (i : Int) = iN c w) : tgN c w ws i = if ws i = 0 then seqN w else ws i := by
  have := i_facts hr w
  unfold tgN
  rw [if_neg (by omega), if_pos h]

theorem tg_S {c : Cf} (hr : c.r = true) {w : Nat} {ws : Nat → Nat} {i : Nat} (h : (i : Int) = iS c w) : tgN c w ws i = if stN (ws i) = 3 then comN (ws i) else ws i := by
  have := i_facts hr w
  unfold tgN
  rw [if_neg (by omega), if_neg (by omega), if_pos h]

theorem tg_T (c : Cf) (w : Nat) (ws : Nat → Nat) : tgN c w ws 0 = if ws 0 = w then setlN w else ws 0 := by
  unfold tgN
  rw [if_pos rfl]

/-- a swap that, where it is done, lays what one leaves -/
theorem toward {c : Cf} {m : Mm} {a b : Int} {o v : Nat} {ws0 tg : Nat → Nat} (hm : ∀ i, m.ws i = ws0 i ∨ m.ws i = tg i) (hq : ∀ i : Nat, (i : Int) = c.cl a b → m.ws i = o → v = tg i) :
    (∀ i, (mtouch c m 3 a b o v).ws i = ws0 i ∨ (mtouch c m 3 a b o v).ws i = tg i) ∧ (∀ i, m.ws i = tg i → (mtouch c m 3 a b o v).ws i = tg i) := by
  refine ⟨fun i => ?_, fun i h => ?_⟩ <;> rw [swap_ws]
  · split
    · rename_i h
      exact .inr (hq i h.1 h.2)
    · exact hm i
  · split
    · rename_i h2
      exact hq i h2.1 h2.2
    · exact h

theorem Knows.keep {c : Cf} {w : Nat} {ws0 ws ws' : Nat → Nat} {h : Hs} (hK : Knows c w ws0 ws h) (hs : ∀ i, ws i = tgN c w ws0 i → ws' i = tgN c w ws0 i) : Knows c w ws0 ws' h :=
  ⟨hK.nx, fun h1 h2 => hs _ (hK.num h1 h2), hK.lay, fun h1 h2 => hs _ (hK.set h1 h2), fun h1 => hs _ (hK.tal h1)⟩

theorem know_step {c : Cf} (hr : c.r = true) {w : Nat} {ws0 : Nat → Nat} {h : Hs} (hM : Mix c w ws0 h.m.ws) (hK : Knows c w ws0 h.m.ws h) :
    Mix c w ws0 (hstep c w h).m.ws ∧ Knows c w ws0 (hstep c w h).m.ws (hstep c w h) ∧ (∀ i, h.m.ws i = tgN c w ws0 i → (hstep c w h).m.ws i = tgN c w ws0 i) := by
  have hi := i_facts hr w
  unfold hstep
  split
  · rename_i e0
    have hq : ∀ i : Nat, (i : Int) = c.cl 6 (penN w) → h.m.ws i = 0 → seqN w = tgN c w ws0 i := by
      intro i h1 h2
      rw [tg_N hr h1]
      rcases hM i with e | e
      · rw [if_pos (by omega)]
      · rw [tg_N hr h1] at e
        split
        · rfl
        · rename_i h3
          rw [if_neg h3] at e
          omega
    obtain ⟨m1, m2⟩ := toward (c := c) (a := 6) (b := penN w) (o := 0) (v := seqN w) hM hq
    refine ⟨m1, ⟨by show 1 ≤ 4; decide, fun _ hn => ?_, (fun h => by cases h), (fun h => absurd (show 3 ≤ 1 from h) (by decide)), (fun h => by cases h)⟩, m2⟩
    have e1 : (((iN c w).toNat : Nat) : Int) = iN c w := by omega
    show (mtouch c h.m 3 6 (penN w) 0 (seqN w)).ws (iN c w).toNat = _
    rw [swap_ws]
    split
    · rename_i h1
      exact hq _ h1.1 h1.2
    · rename_i h1
      have h2 : h.m.ws (iN c w).toNat ≠ 0 := fun e => h1 ⟨e1, e⟩
      rcases hM (iN c w).toNat with e | e
      · rw [tg_N hr e1, if_neg (by omega)]
        exact e
      · exact e
  split
  · rename_i e0 e1
    have hws : (mtouch c h.m 1 4 (penN w) 0 0).ws = h.m.ws := load_ws c h.m 4 (penN w)
    have hold : (mtouch c h.m 1 4 (penN w) 0 0).l.old = if 0 ≤ iS c w then h.m.ws (iS c w).toNat else 0 := load_old c h.m 4 (penN w)
    generalize (mtouch c h.m 1 4 (penN w) 0 0).l.old = old at hold ⊢
    dsimp only
    rw [hws]
    by_cases h3 : stN old = 3
    · rw [if_pos h3]
      refine ⟨hM, ⟨(show 2 ≤ 4 by decide), fun _ hn => hK.num (by omega) hn, fun _ => ?_, (fun h => absurd (show 3 ≤ 2 from h) (by decide)), (fun h => by cases h)⟩, fun i h => h⟩
      by_cases hp : 0 ≤ iS c w
      · rw [if_pos hp] at hold
        have e2 : (((iS c w).toNat : Nat) : Int) = iS c w := by omega
        rcases hM (iS c w).toNat with e | e
        · exact ⟨hp, hold.trans e, by rw [← e, ← hold]; exact h3⟩
        · exfalso
          rw [hold, e, tg_S hr e2] at h3
          split at h3
          · rw [st_com] at h3
            omega
          · omega
      · rw [if_neg hp] at hold
        rw [hold] at h3
        exact absurd h3 (by decide)
    · rw [if_neg h3]
      refine ⟨hM, ⟨(show 3 ≤ 4 by decide), fun _ hn => hK.num (by omega) hn, (fun h => by cases h), fun _ hp => ?_, (fun h => by cases h)⟩, fun i h => h⟩
      rw [if_pos hp] at hold
      have e2 : (((iS c w).toNat : Nat) : Int) = iS c w := by omega
      rcases hM (iS c w).toNat with e | e
      · rw [tg_S hr e2, if_neg (by rw [← e, ← hold]; exact h3)]
        exact e
      · exact e
  split
  · rename_i e0 e1 e2
    obtain ⟨hp, hs, h3⟩ := hK.lay e2
    have e3 : (((iS c w).toNat : Nat) : Int) = iS c w := by omega
    have hq : ∀ i : Nat, (i : Int) = c.cl 4 (penN w) → h.m.ws i = h.s → comN h.s = tgN c w ws0 i := by
      intro i h1 h2
      have : i = (iS c w).toNat := by
        have : (i : Int) = iS c w := h1
        omega
      subst this
      rw [tg_S hr e3, if_pos h3, hs]
    obtain ⟨m1, m2⟩ := toward (c := c) (a := 4) (b := penN w) (o := h.s) (v := comN h.s) hM hq
    have hd := swap_done c h.m 4 (penN w) h.s (comN h.s)
    refine ⟨m1, ⟨?_, fun _ hn => m2 _ (hK.num (by omega) hn), ?_, ?_, ?_⟩, m2⟩
    · show cond _ 3 1 ≤ 4
      cases (mtouch c h.m 3 4 (penN w) h.s (comN h.s)).l.done <;> decide
    · show cond _ 3 1 = 2 → _
      cases (mtouch c h.m 3 4 (penN w) h.s (comN h.s)).l.done <;> (intro h; cases h)
    · show 3 ≤ cond _ 3 1 → _
      intro hge hp2
      cases hd2 : (mtouch c h.m 3 4 (penN w) h.s (comN h.s)).l.done with
      | false => rw [hd2] at hge; exact absurd hge (by decide)
      | true =>
        rw [hd] at hd2
        have h4 := of_decide_eq_true hd2
        show (mtouch c h.m 3 4 (penN w) h.s (comN h.s)).ws (iS c w).toNat = _
        rw [swap_ws, if_pos ⟨e3, h4.2⟩]
        exact hq _ e3 h4.2
    · show cond _ 3 1 = 4 → _
      cases (mtouch c h.m 3 4 (penN w) h.s (comN h.s)).l.done <;> (intro h; cases h)
  split
  · rename_i e0 e1 e2 e3
    have hq : ∀ i : Nat, (i : Int) = c.cl 1 0 → h.m.ws i = w → setlN w = tgN c w ws0 i := by
      intro i h1 h2
      rw [cl_tally hr] at h1
      obtain rfl : i = 0 := by omega
      rw [tg_T]
      rcases hM 0 with e | e
      · rw [if_pos (by omega)]
      · rw [tg_T] at e
        split
        · rfl
        · rename_i h3
          rw [if_neg h3] at e
          omega
    obtain ⟨m1, m2⟩ := toward (c := c) (a := 1) (b := 0) (o := w) (v := setlN w) hM hq
    refine ⟨m1, ⟨by show 4 ≤ 4; decide, fun _ hn => m2 _ (hK.num (by omega) hn), (fun h => by cases h), fun _ hn => m2 _ (hK.set (by omega) hn), fun _ => ?_⟩, m2⟩
    show (mtouch c h.m 3 1 0 w (setlN w)).ws 0 = _
    rw [swap_ws]
    split
    · rename_i h1
      exact hq 0 h1.1 h1.2
    · rename_i h1
      have h2 : h.m.ws 0 ≠ w := fun e => h1 ⟨by rw [cl_tally hr]; rfl, e⟩
      rcases hM 0 with e | e
      · rw [tg_T, if_neg (by omega)]
        exact e
      · exact e
  · exact ⟨hM, hK, fun i h => h⟩

/-- so many steps -/
def hit (c : Cf) (w : Nat) (h : Hs) : Nat → Hs
  | 0 => h
  | k + 1 => hstep c w (hit c w h k)

/-- how many steps are left at most -/
def left (c : Cf) (w : Nat) (ws0 : Nat → Nat) (h : Hs) : Nat :=
  if h.nx = 0 then 6 else if h.nx = 1 then (if 0 ≤ iS c w ∧ h.m.ws (iS c w).toNat ≠ tgN c w ws0 (iS c w).toNat then 4 else 2) else if h.nx = 2 then 3 else if h.nx = 3 then 1 else 0

theorem left_step {c : Cf} (hr : c.r = true) {w : Nat} {ws0 : Nat → Nat} {h : Hs} (hM : Mix c w ws0 h.m.ws) (hK : Knows c w ws0 h.m.ws h) (hn : h.nx ≠ 4) : left c w ws0 (hstep c w h) < left c w ws0 h := by
  have hi := i_facts hr w
  have hK4 := hK.nx
  unfold hstep
  split
  · rename_i e0
    have : left c w ws0 h = 6 := by unfold left; rw [if_pos e0]
    rw [this]
    unfold left
    dsimp only
    (repeat' split) <;> omega
  split
  · rename_i e0 e1
    have hws : (mtouch c h.m 1 4 (penN w) 0 0).ws = h.m.ws := load_ws c h.m 4 (penN w)
    have hold : (mtouch c h.m 1 4 (penN w) 0 0).l.old = if 0 ≤ iS c w then h.m.ws (iS c w).toNat else 0 := load_old c h.m 4 (penN w)
    rw [hold]
    by_cases hp : 0 ≤ iS c w ∧ h.m.ws (iS c w).toNat ≠ tgN c w ws0 (iS c w).toNat
    · have : left c w ws0 h = 4 := by unfold left; rw [if_neg e0, if_pos e1, if_pos hp]
      rw [this]
      unfold left
      dsimp only
      (repeat' split) <;> omega
    · have : left c w ws0 h = 2 := by unfold left; rw [if_neg e0, if_pos e1, if_neg hp]
      rw [this]
      have h3 : ¬ stN (if 0 ≤ iS c w then h.m.ws (iS c w).toNat else 0) = 3 := by
        by_cases h0 : 0 ≤ iS c w
        · rw [if_pos h0]
          have e2 : (((iS c w).toNat : Nat) : Int) = iS c w := by omega
          have e : h.m.ws (iS c w).toNat = tgN c w ws0 (iS c w).toNat := by
            rcases Decidable.em (h.m.ws (iS c w).toNat = tgN c w ws0 (iS c w).toNat) with e | e
            · exact e
            · exact absurd ⟨h0, e⟩ hp
          rw [e, tg_S hr e2]
          split
          · rw [st_com]; omega
          · omega
        · rw [if_neg h0]
          decide
      rw [if_neg h3]
      show (1 : Nat) < 2
      decide
  split
  · rename_i e0 e1 e2
    obtain ⟨hp, hs, h3⟩ := hK.lay e2
    have e3 : (((iS c w).toNat : Nat) : Int) = iS c w := by omega
    have : left c w ws0 h = 3 := by unfold left; rw [if_neg e0, if_neg e1, if_pos e2]
    rw [this]
    have hd := swap_done c h.m 4 (penN w) h.s (comN h.s)
    cases hd2 : (mtouch c h.m 3 4 (penN w) h.s (comN h.s)).l.done with
    | true =>
      show (1 : Nat) < 3
      decide
    | false =>
      rw [hd] at hd2
      have h4 := of_decide_eq_false hd2
      have h5 : h.m.ws (iS c w).toNat ≠ h.s := fun e => h4 ⟨hp, e⟩
      have h6 : h.m.ws (iS c w).toNat = tgN c w ws0 (iS c w).toNat := by
        rcases hM (iS c w).toNat with e | e
        · rw [hs] at h5; exact absurd e h5
        · exact e
      have h7 : (mtouch c h.m 3 4 (penN w) h.s (comN h.s)).ws (iS c w).toNat = tgN c w ws0 (iS c w).toNat := by
        rw [swap_ws, if_neg (fun e => h5 e.2)]
        exact h6
      unfold left
      dsimp only [cond_false]
      rw [if_neg (by decide), if_pos rfl, if_neg (fun e => e.2 h7)]
      decide
  split
  · rename_i e0 e1 e2 e3
    have : left c w ws0 h = 1 := by unfold left; rw [if_neg e0, if_neg e1, if_neg e2, if_pos e3]
    rw [this]
    show (0 : Nat) < 1
    decide
  · omega

/-- where a help is done, and each word is as it was or as one leaves it, each is as one leaves it -/
theorem know_end {c : Cf} (hr : c.r = true) {w : Nat} {ws0 : Nat → Nat} {h : Hs} (hM : Mix c w ws0 h.m.ws) (hK : Knows c w ws0 h.m.ws h) (hn : h.nx = 4) : ∀ i, h.m.ws i = tgN c w ws0 i := by
  have hi := i_facts hr w
  intro i
  by_cases e0 : i = 0
  · subst e0; exact hK.tal hn
  by_cases e1 : (i : Int) = iN c w
  · have := hK.num (by omega) (by omega)
    rw [show (iN c w).toNat = i by omega] at this
    exact this
  by_cases e2 : (i : Int) = iS c w
  · have := hK.set (by omega) (by omega)
    rw [show (iS c w).toNat = i by omega] at this
    exact this
  rcases hM i with e | e
  · rw [e]; unfold tgN; rw [if_neg e0, if_neg e1, if_neg e2]
  · exact e

end Um

/-
  Plain arithmetic of layer 8: a help to its end. No Go in sight.
-/
namespace Um
set_option maxRecDepth 100000

theorem hstep_4 {c : Cf} {w : Nat} {h : Hs} (hn : h.nx = 4) : hstep c w h = h := by
  unfold hstep
  rw [if_neg (by omega), if_neg (by omega), if_neg (by omega), if_neg (by omega)]

theorem hit_done {c : Cf} {w : Nat} {h : Hs} {q : Nat} (hn : (hit c w h q).nx = 4) {k : Nat} (hk : q ≤ k) : hit c w h k = hit c w h q := by
  obtain ⟨d, rfl⟩ : ∃ d, k = q + d := ⟨k - q, by omega⟩
  clear hk
  induction d with
  | zero => rfl
  | succ d ih =>
    show hstep c w (hit c w h (q + d)) = _
    rw [ih]
    exact hstep_4 hn

theorem hit_mix {c : Cf} (hr : c.r = true) {w : Nat} {ws0 : Nat → Nat} {h : Hs} (hM : Mix c w ws0 h.m.ws) (hK : Knows c w ws0 h.m.ws h) (k : Nat) :
    Mix c w ws0 (hit c w h k).m.ws ∧ Knows c w ws0 (hit c w h k).m.ws (hit c w h k) ∧ (∀ i, h.m.ws i = tgN c w ws0 i → (hit c w h k).m.ws i = tgN c w ws0 i) ∧ (left c w ws0 (hit c w h k) + k ≤ left c w ws0 h ∨ (hit c w h k).nx = 4) := by
  induction k with
  | zero => exact ⟨hM, hK, fun i h => h, .inl (Nat.le_refl _)⟩
  | succ k ih =>
    obtain ⟨h1, h2, h3, h4⟩ := ih
    obtain ⟨s1, s2, s3⟩ := know_step hr h1 h2
    refine ⟨s1, s2, fun i e => s3 i (h3 i e), ?_⟩
    by_cases hn : (hit c w h k).nx = 4
    · right
      show (hstep c w (hit c w h k)).nx = 4
      rw [hstep_4 hn]
      exact hn
    · rcases h4 with h4 | h4
      · have := left_step hr h1 h2 hn
        left
        show left c w ws0 (hstep c w (hit c w h k)) + (k + 1) ≤ _
        omega
      · exact absurd h4 hn

theorem left_le (c : Cf) (w : Nat) (ws0 : Nat → Nat) (h : Hs) : left c w ws0 h ≤ 6 := by
  unfold left
  (repeat' split) <;> omega

/-- each ends, and all words are as one leaves them -/
theorem hit_ends {c : Cf} (hr : c.r = true) {w : Nat} {ws0 : Nat → Nat} {h : Hs} (hM : Mix c w ws0 h.m.ws) (hK : Knows c w ws0 h.m.ws h) {k : Nat} (hk : 7 ≤ k) :
    (hit c w h k).nx = 4 ∧ ∀ i, (hit c w h k).m.ws i = tgN c w ws0 i := by
  obtain ⟨h1, h2, _, h4⟩ := hit_mix hr hM hK k
  have h5 : (hit c w h k).nx = 4 := by
    rcases h4 with h4 | h4
    · have := left_le c w ws0 h
      omega
    · exact h4
  exact ⟨h5, know_end hr h1 h2 h5⟩

theorem mix_refl (c : Cf) (w : Nat) (ws : Nat → Nat) : Mix c w ws ws := fun _ => .inl rfl

theorem knows_new {c : Cf} (hr : c.r = true) (w : Nat) (m : Mm) (s : Nat) : Knows c w m.ws m.ws ⟨m, hfst w, s⟩ := by
  have hi := i_facts hr w
  unfold hfst
  by_cases hp : penN w < 0
  · rw [if_pos hp]
    have hz : w % 16 = 0 := by unfold penN at hp; omega
    have hneg : iN c w = -1 ∧ iS c w = -1 := by
      unfold iN iS Cf.cl cellN
      rw [hr]
      have : ¬ (0 ≤ penN w ∧ penN w < c.s) := by omega
      simp
      omega
    refine ⟨(show 4 ≤ 4 by decide), fun _ h => by omega, (fun h => by cases h), fun _ h => by omega, fun _ => ?_⟩
    rw [tg_T]
    split
    · rename_i e
      rw [e]
      unfold setlN
      omega
    · rfl
  · rw [if_neg hp]
    exact ⟨(show 0 ≤ 4 by decide), (fun h => absurd (show 1 ≤ 0 from h) (by decide)), (fun h => by cases h), (fun h => absurd (show 3 ≤ 0 from h) (by decide)), (fun h => by cases h)⟩

/-- whose words one changes -/
theorem only8 {c : Cf} (hr : c.r = true) {x : Nat} {ws : Nat → Nat} {j : Nat} (hne : tgN c x ws j ≠ ws j) :
    (atK c.r c.t c.s c.k (j : Int) = 1 ∧ atO c.r c.t c.s c.k (j : Int) = 0) ∨ (0 ≤ penN x ∧ (atK c.r c.t c.s c.k (j : Int) = 4 ∨ atK c.r c.t c.s c.k (j : Int) = 6) ∧ atO c.r c.t c.s c.k (j : Int) = penN x) := by
  have hi := i_facts hr x
  have hp : 0 ≤ iS c x → 0 ≤ penN x := by
    unfold iS Cf.cl cellN
    rw [hr]
    intro h
    by_cases hq : 0 ≤ penN x
    · exact hq
    · exfalso
      simp [hq] at h
  unfold tgN at hne
  split at hne
  · rename_i e
    have h := cell_at (a := 1) (b := 0) c.rb (show 0 ≤ c.cl 1 0 by rw [cl_tally hr]; decide)
    left
    rw [show (j : Int) = cellN c.r c.t c.s c.k 1 0 from by rw [e]; exact (cl_tally hr).symm]
    exact h.2
  split at hne
  · rename_i e1 e
    have h := cell_at (a := 6) (b := penN x) c.rb (show 0 ≤ iN c x by omega)
    right
    rw [show (j : Int) = cellN c.r c.t c.s c.k 6 (penN x) from e]
    exact ⟨hp (by omega), .inr h.2.1, h.2.2⟩
  split at hne
  · rename_i e1 e2 e
    have h := cell_at (a := 4) (b := penN x) c.rb (show 0 ≤ iS c x by omega)
    right
    rw [show (j : Int) = cellN c.r c.t c.s c.k 4 (penN x) from e]
    exact ⟨hp (by omega), .inl h.2.1, h.2.2⟩
  · exact absurd rfl hne

/-- late: nothing is changed -/
theorem late8 {c : Cf} {x : Nat} {ws : Nat → Nat} (h0 : ws 0 ≠ x) (hs : stN (ws (iS c x).toNat) ≠ 3) (hn : ws (iN c x).toNat ≠ 0) (j : Nat) : tgN c x ws j = ws j := by
  unfold tgN
  split
  · rename_i e
    subst e
    rfl
  split
  · rename_i e1 e
    rw [show (iN c x).toNat = j by omega] at hn
    rw [if_neg hn]
  split
  · rename_i e1 e2 e
    rw [show (iS c x).toNat = j by omega] at hs
    rw [if_neg hs]
  · rfl

theorem iS_pos {c : Cf} (hr : c.r = true) {x : Nat} (hp0 : 0 ≤ penN x) (hp1 : penN x < c.s) : 0 < iS c x ∧ iN c x = iS c x + 2 := by
  rcases i_facts hr x with h | h
  · exfalso
    have hb := c.rb hr
    have := h.1
    unfold iS Cf.cl cellN at this
    rw [hr] at this
    simp [hp0, hp1] at this
    omega
  · exact h

/-- alone: four steps -/
theorem alone4 {c : Cf} (w : Nat) (m : Mm) (s : Nat) (hp : 0 ≤ penN w) : (hit c w ⟨m, hfst w, s⟩ 4).nx = 4 := by
  have e0 : hfst w = 0 := by unfold hfst; rw [if_neg (by omega)]
  rw [e0]
  have e1 : hit c w ⟨m, 0, s⟩ 1 = ⟨mtouch c m 3 6 (penN w) 0 (seqN w), 1, s⟩ := rfl
  generalize mtouch c m 3 6 (penN w) 0 (seqN w) = m1 at e1
  have hws : (mtouch c m1 1 4 (penN w) 0 0).ws = m1.ws := load_ws c m1 4 (penN w)
  have hold := load_old c m1 4 (penN w)
  have e2 : hit c w ⟨m, 0, s⟩ 2 = ⟨mtouch c m1 1 4 (penN w) 0 0, if stN (mtouch c m1 1 4 (penN w) 0 0).l.old = 3 then 2 else 3, (mtouch c m1 1 4 (penN w) 0 0).l.old⟩ := by
    show hstep c w (hit c w ⟨m, 0, s⟩ 1) = _
    rw [e1]
    rfl
  generalize mtouch c m1 1 4 (penN w) 0 0 = m2 at *
  have e4 : hit c w ⟨m, 0, s⟩ 4 = hstep c w (hstep c w (hit c w ⟨m, 0, s⟩ 2)) := rfl
  by_cases h3 : stN m2.l.old = 3
  · rw [if_pos h3] at e2
    have hc : 0 ≤ c.cl 4 (penN w) := by
      rcases Decidable.em (0 ≤ c.cl 4 (penN w)) with h | h
      · exact h
      · rw [if_neg h] at hold
        rw [hold] at h3
        exact absurd h3 (by decide)
    rw [if_pos hc] at hold
    have hd : (mtouch c m2 3 4 (penN w) m2.l.old (comN m2.l.old)).l.done = true := by
      rw [swap_done]
      exact decide_eq_true ⟨hc, by rw [hws, hold]⟩
    have e3 : hstep c w (hit c w ⟨m, 0, s⟩ 2) = ⟨mtouch c m2 3 4 (penN w) m2.l.old (comN m2.l.old), 3, m2.l.old⟩ := by
      rw [e2]
      show (⟨mtouch c m2 3 4 (penN w) m2.l.old (comN m2.l.old), cond (mtouch c m2 3 4 (penN w) m2.l.old (comN m2.l.old)).l.done 3 1, m2.l.old⟩ : Hs) = _
      rw [hd]
      rfl
    rw [e4, e3]
    rfl
  · rw [if_neg h3] at e2
    have e3 : (hstep c w (hit c w ⟨m, 0, s⟩ 2)).nx = 4 := by rw [e2]; rfl
    rw [e4, hstep_4 e3]
    exact e3

end Um

/-
  The walks of layer 6's maker of a new memory.
-/
namespace Go.Proofs.Ytglmniciojemfaa
set_option maxRecDepth 100000
open Go.RowKit Go.Sort

set_option maxHeartbeats 2000000 in
theorem sNew_wrong (c : Um.Cf) (w : World) (h : c.r = false) :
    Calls Try.prog 31 #[(.agg #[.int .i64 (c.t), .int .i64 (c.s), .int .i64 (c.k), .int .i64 (c.g), .int .u64 (c.q : Int)])] w fun e w' => e = .returned (.tuple #[.pointer none, .int .i64 1]) ∧ Below w.heap.size w w' := by
  have hL := cLen_any c.t c.s c.k c.g c.q
  rw [Cf_len] at hL
  have hO := fun v w => sOf_wrong c v w h
  have hk := run_makeW c.n (by have := c.n_le; omega)
  clear h
  generalize c.n = m at *
  go_enter Try.func31, Try.ntmps31
  go_wp2_with fail
  have K := cfAt_alloc w c 24
  have hB : Below w.heap.size w (w.alloc (.cells #[.int .i64 c.t, .int .i64 c.s, .int .i64 c.k, .int .i64 c.g, .int .u64 c.q] 24)) := (Below.refl _ _).alloc (Nat.le_refl _) _
  generalize w.alloc _ = W at *
  obtain ⟨_, a0, a1, a2, a3, a4⟩ := id K
  go_region_with (first | (go_at_call 56; refine (hL _).mono ?_; rintro e w3 ⟨rfl, hb3⟩; obtain ⟨_, b0, b1, b2, b3, b4⟩ := K.below (below_undrew hb3)) | (go_at_call 37; refine (hO _ _).mono ?_; rintro e w4 ⟨rfl, hb4⟩))
  all_goals
    have hB3 := hB.trans ((below_undrew hb3).mono hB.size)
    have hB4 := (hB3.alloc hB3.size _).trans (hb4.mono (by simp; exact Nat.le_succ_of_le hB3.size))
    clear hb3 hb4 b0 b1 b2 b3 b4 a0 a1 a2 a3 a4 K hk hO hL
    go_wp2
    go_ret2
    exact ⟨rfl, hB4⟩

theorem zero_words (w : World) (m : Nat) (hp : 0 < m) (hn : m ≤ 1000) : IsWords (w.alloc (.cells (rowW (fun _ => 0) m).toArray 22)) (.slice (some ⟨w.heap.size, 0, none⟩) m m) m (fun _ => 0) :=
  (LowWords.of_row hp hn (heap_alloc_new w _) (fun _ _ => by unfold Um.Word; omega)).is (by simp)

set_option maxHeartbeats 2000000 in
theorem sNew_right (c : Um.Cf) (w : World) (h : c.r = true) :
    Calls Try.prog 31 #[(.agg #[.int .i64 (c.t), .int .i64 (c.s), .int .i64 (c.k), .int .i64 (c.g), .int .u64 (c.q : Int)])] w fun e w' => ∃ B C, e = .returned (.tuple #[.pointer (some ⟨B, 0, none⟩), .int .i64 0]) ∧ w.heap.size ≤ B ∧ w.heap.size ≤ C ∧ MemAt w' B C c ⟨fun _ => 0, 0, Um.noT⟩ ∧ Below w.heap.size w w' := by
  have hL := cLen_any c.t c.s c.k c.g c.q
  rw [Cf_len] at hL
  have hp := Um.Cf.n_pos h
  have hO := fun v w => sOf_right c v (fun _ => 0) w h
  have hk := run_makeW c.n (by have := c.n_le; omega)
  have hm := c.n_le
  have HO := hide hO
  clear h hO
  generalize c.n = m at *
  go_enter Try.func31, Try.ntmps31
  go_wp2_with fail
  have K := cfAt_alloc w c 24
  have hB : Below w.heap.size w (w.alloc (.cells #[.int .i64 c.t, .int .i64 c.s, .int .i64 c.k, .int .i64 c.g, .int .u64 c.q] 24)) := (Below.refl _ _).alloc (Nat.le_refl _) _
  generalize w.alloc _ = W at *
  obtain ⟨_, a0, a1, a2, a3, a4⟩ := id K
  go_region_with (first | (go_at_call 56; refine (hL _).mono ?_; rintro e w3 ⟨rfl, hb3⟩; obtain ⟨_, b0, b1, b2, b3, b4⟩ := K.below (below_undrew hb3)) | (go_at_call 37; refine ((unhide HO) _ _ (zero_words _ m (by omega) (by omega))).mono ?_; rintro e w4 ⟨B, C, rfl, hl1, hl2, hM, hb4⟩))
  all_goals
    have hB3 := hB.trans ((below_undrew hb3).mono hB.size)
    have hs3 := hB3.size
    have hB4 := (hB3.alloc hB3.size _).trans (hb4.mono (by simp; exact Nat.le_succ_of_le hB3.size))
    have HM := hide hM
    simp at hl1 hl2
    clear hb3 hb4 b0 b1 b2 b3 b4 a0 a1 a2 a3 a4 K hk HO hL hM
    go_wp2
    go_ret2
    exact ⟨B, C, rfl, by omega, by omega, unhide HM, hB4⟩

end Go.Proofs.Ytglmniciojemfaa

/-
  A new memory, how many accesses there were, and its words: over blocks of two lists.
-/
namespace Go.Proofs.Ytglmniciojemfaa
set_option maxRecDepth 100000
open Go.RowKit Go.Sort

theorem set_same {α : Type} {l : List α} {k : Nat} {x : α} (h : l[k]? = some x) : l.set k x = l := by
  obtain ⟨h1, h2⟩ := List.getElem?_eq_some_iff.1 h
  subst h2
  exact List.set_getElem_self h1

section
variable {bs : List Nat} {w0 w : World} {l e : List (Nat × List Value)} {B C P : Nat} {c : Um.Cf} {m : Um.Mm}

theorem new_x (hS : Sx bs w0 w l e) (c : Um.Cf) (hr : c.r = true) : Calls Try.prog 31 #[(.agg #[.int .i64 (c.t), .int .i64 (c.s), .int .i64 (c.k), .int .i64 (c.g), .int .u64 (c.q : Int)])] w fun r w' => ∃ B C, r = .returned (.tuple #[.pointer (some ⟨B, 0, none⟩), .int .i64 0]) ∧ WordsOk c ⟨fun _ => 0, 0, Um.noT⟩ ∧ Sx bs w0 w' (l ++ [(B, memL c C ⟨fun _ => 0, 0, Um.noT⟩), (C, rowW (fun _ => 0) c.n)]) e := by
  refine (sNew_right c w hr).mono ?_
  rintro r w' ⟨B, C, rfl, h1, h2, hM, hb⟩
  refine ⟨B, C, rfl, hM.wd, hS.adds hb _ (fun p hp => ?_) (fun p hp => ?_) ?_⟩
  · rcases (by simpa using hp : p = (B, memL c C ⟨fun _ => 0, 0, Um.noT⟩) ∨ p = (C, rowW (fun _ => 0) c.n)) with rfl | rfl
    · exact hM.blkB
    · exact hM.blkC
  · rcases (by simpa using hp : p = (B, memL c C ⟨fun _ => 0, 0, Um.noT⟩) ∨ p = (C, rowW (fun _ => 0) c.n)) with rfl | rfl
    · exact h1
    · exact h2
  · simpa using hM.ne

theorem count_x (hS : Sx bs w0 w l e) (i j : Nat) (hi : l[i]? = some (B, memL c C m)) (hj : l[j]? = some (C, rowW m.ws c.n)) (hij : i ≠ j) (hr : c.r = true) (hw : WordsOk c m) : Calls Try.prog 34 #[.pointer (some ⟨B, 0, none⟩)] w fun r w' => r = .returned (.int .i64 m.cnt) ∧ w' = w :=
  mCount_any (hS.mem i j hi hj hij hr hw)

end

theorem cells_x {bs : List Nat} {w0 w : World} {l e : List (Nat × List Value)} {B C : Nat} {c : Um.Cf} {m : Um.Mm} (hS : Sx bs w0 w l e) (i j : Nat) (hi : l[i]? = some (B, memL c C m)) (hj : l[j]? = some (C, rowW m.ws c.n)) (hij : i ≠ j) (hr : c.r = true) (hw : WordsOk c m) :
    Calls Try.prog 29 #[.pointer (some ⟨B, 0, none⟩)] w fun r w' => ∃ X, r = .returned (.slice (some ⟨X, 0, none⟩) c.n c.n) ∧ Sx bs w0 w' (l ++ [(X, rowW m.ws c.n)]) e := by
  refine (mCells_any (hS.mem i j hi hj hij hr hw)).mono ?_
  rintro r w' ⟨rfl, hg, hb⟩
  have := hS.add hb (blkAt_new hg) (Nat.le_refl _)
  rw [List.toList_toArray] at this
  exact ⟨_, rfl, this⟩

end Go.Proofs.Ytglmniciojemfaa

/-
  A help's step, of whatever step; a help to its end; spots.
-/
namespace Go.Proofs.Ytglmniciojemfaa
set_option maxRecDepth 100000
open Go.RowKit Go.Sort

/-- what comes next -/
def nxF (nx : Nat) : Value := if nx = 0 then .func (.func 40) #[] #[] else if nx = 1 then .func (.func 64) #[] #[] else if nx = 2 then .func (.func 71) #[] #[] else if nx = 3 then .func (.func 72) #[] #[] else .nilFunc

/-- a help's cells -/
def hlpL (x s nx : Nat) : List Value := [.int .u64 (x : Nat), .int .u64 (s : Nat), nxF nx]

/-- a help over a memory of words -/
def HOk (c : Um.Cf) (h : Um.Hs) : Prop := WordsOk c h.m ∧ Um.Word h.s ∧ h.nx ≤ 4

section
variable {bs : List Nat} {w0 w : World} {l e : List (Nat × List Value)} {B C P : Nat} {c : Um.Cf} {m : Um.Mm} {x s : Nat}

set_option maxHeartbeats 2000000 in
theorem hStep_0 (hS : Sx bs w0 w l e) (i j k : Nat) (hi : l[i]? = some (B, memL c C m)) (hj : l[j]? = some (C, rowW m.ws c.n)) (hk : l[k]? = some (P, [.int .u64 (x : Nat), .int .u64 (s : Nat), .func (.func 40) #[] #[]])) (hij : i ≠ j) (hik : i ≠ k) (hjk : j ≠ k) (hr : c.r = true) (hw : WordsOk c m) (hx : Um.Word x) (hs : Um.Word s) (M : Um.Mm) (hM : M = Um.mtouch c m 3 6 (Um.penN x) 0 (Um.seqN x)) :
    Calls Try.prog 16 #[.pointer (some ⟨P, 0, none⟩), .pointer (some ⟨B, 0, none⟩)] w fun r w' => r = .returned (.tuple #[]) ∧ WordsOk c M ∧ Sx bs w0 w' (putL l [(i, B, memL c C M), (j, C, rowW M.ws c.n), (k, P, [.int .u64 (x : Nat), .int .u64 (s : Nat), .func (.func 64) #[] #[]])]) e := by
  have HD := hide (hDone_f hS k _ _ _ hk)
  have HC := hide (hNumber_x hS i j k hi hj _ hk hij hik hjk hr hw hx hs M hM)
  have h2 := (hS.get k hk).cell 2 _ rfl
  clear hS hi hj hk hij hik hjk hr hw hM hx hs
  go_enter Try.func16, Try.ntmps16
  go_wp2_with fail
  refine (unhide HD).mono ?_
  rintro r u ⟨rfl, rfl⟩
  go_wp2_with fail
  refine (unhide HC).mono ?_
  rintro r u2 ⟨rfl, hW2, hS2⟩
  have H2 := hide hS2
  have HW2 := hide hW2
  clear hS2 hW2 h2
  go_wp2
  go_end0
  exact ⟨rfl, unhide HW2, unhide H2⟩

set_option maxHeartbeats 2000000 in
theorem hStep_1a (hS : Sx bs w0 w l e) (i j k : Nat) (hi : l[i]? = some (B, memL c C m)) (hj : l[j]? = some (C, rowW m.ws c.n)) (hk : l[k]? = some (P, [.int .u64 (x : Nat), .int .u64 (s : Nat), .func (.func 64) #[] #[]])) (hij : i ≠ j) (hik : i ≠ k) (hjk : j ≠ k) (hr : c.r = true) (hw : WordsOk c m) (hx : Um.Word x) (hs : Um.Word s) (M : Um.Mm) (hM : M = Um.mtouch c m 1 4 (Um.penN x) 0 0) (h3 : Um.stN M.l.old = 3) :
    Calls Try.prog 16 #[.pointer (some ⟨P, 0, none⟩), .pointer (some ⟨B, 0, none⟩)] w fun r w' => r = .returned (.tuple #[]) ∧ WordsOk c M ∧ Sx bs w0 w' (putL l [(i, B, memL c C M), (j, C, rowW M.ws c.n), (k, P, [.int .u64 (x : Nat), .int .u64 (M.l.old : Nat), .func (.func 71) #[] #[]])]) e := by
  have HD := hide (hDone_f hS k _ _ _ hk)
  have HC := hide (hLook_3 hS i j k hi hj _ hk hij hik hjk hr hw hx hs M hM h3)
  have h2 := (hS.get k hk).cell 2 _ rfl
  clear hS hi hj hk hij hik hjk hr hw hM hx hs h3
  go_enter Try.func16, Try.ntmps16
  go_wp2_with fail
  refine (unhide HD).mono ?_
  rintro r u ⟨rfl, rfl⟩
  go_wp2_with fail
  refine (unhide HC).mono ?_
  rintro r u2 ⟨rfl, hW2, hS2⟩
  have H2 := hide hS2
  have HW2 := hide hW2
  clear hS2 hW2 h2
  go_wp2
  go_end0
  exact ⟨rfl, unhide HW2, unhide H2⟩

set_option maxHeartbeats 2000000 in
theorem hStep_1b (hS : Sx bs w0 w l e) (i j k : Nat) (hi : l[i]? = some (B, memL c C m)) (hj : l[j]? = some (C, rowW m.ws c.n)) (hk : l[k]? = some (P, [.int .u64 (x : Nat), .int .u64 (s : Nat), .func (.func 64) #[] #[]])) (hij : i ≠ j) (hik : i ≠ k) (hjk : j ≠ k) (hr : c.r = true) (hw : WordsOk c m) (hx : Um.Word x) (hs : Um.Word s) (M : Um.Mm) (hM : M = Um.mtouch c m 1 4 (Um.penN x) 0 0) (h3 : Um.stN M.l.old ≠ 3) :
    Calls Try.prog 16 #[.pointer (some ⟨P, 0, none⟩), .pointer (some ⟨B, 0, none⟩)] w fun r w' => r = .returned (.tuple #[]) ∧ WordsOk c M ∧ Sx bs w0 w' (putL l [(i, B, memL c C M), (j, C, rowW M.ws c.n), (k, P, [.int .u64 (x : Nat), .int .u64 (M.l.old : Nat), .func (.func 72) #[] #[]])]) e := by
  have HD := hide (hDone_f hS k _ _ _ hk)
  have HC := hide (hLook_n hS i j k hi hj _ hk hij hik hjk hr hw hx hs M hM h3)
  have h2 := (hS.get k hk).cell 2 _ rfl
  clear hS hi hj hk hij hik hjk hr hw hM hx hs h3
  go_enter Try.func16, Try.ntmps16
  go_wp2_with fail
  refine (unhide HD).mono ?_
  rintro r u ⟨rfl, rfl⟩
  go_wp2_with fail
  refine (unhide HC).mono ?_
  rintro r u2 ⟨rfl, hW2, hS2⟩
  have H2 := hide hS2
  have HW2 := hide hW2
  clear hS2 hW2 h2
  go_wp2
  go_end0
  exact ⟨rfl, unhide HW2, unhide H2⟩

set_option maxHeartbeats 2000000 in
theorem hStep_2a (hS : Sx bs w0 w l e) (i j k : Nat) (hi : l[i]? = some (B, memL c C m)) (hj : l[j]? = some (C, rowW m.ws c.n)) (hk : l[k]? = some (P, [.int .u64 (x : Nat), .int .u64 (s : Nat), .func (.func 71) #[] #[]])) (hij : i ≠ j) (hik : i ≠ k) (hjk : j ≠ k) (hr : c.r = true) (hw : WordsOk c m) (hx : Um.Word x) (hs : Um.Word s) (M : Um.Mm) (hM : M = Um.mtouch c m 3 4 (Um.penN x) s (Um.comN s)) (hd : M.l.done = true) :
    Calls Try.prog 16 #[.pointer (some ⟨P, 0, none⟩), .pointer (some ⟨B, 0, none⟩)] w fun r w' => r = .returned (.tuple #[]) ∧ WordsOk c M ∧ Sx bs w0 w' (putL l [(i, B, memL c C M), (j, C, rowW M.ws c.n), (k, P, [.int .u64 (x : Nat), .int .u64 (s : Nat), .func (.func 72) #[] #[]])]) e := by
  have HD := hide (hDone_f hS k _ _ _ hk)
  have HC := hide (hLay_t hS i j k hi hj _ hk hij hik hjk hr hw hx hs M hM hd)
  have h2 := (hS.get k hk).cell 2 _ rfl
  clear hS hi hj hk hij hik hjk hr hw hM hx hs hd
  go_enter Try.func16, Try.ntmps16
  go_wp2_with fail
  refine (unhide HD).mono ?_
  rintro r u ⟨rfl, rfl⟩
  go_wp2_with fail
  refine (unhide HC).mono ?_
  rintro r u2 ⟨rfl, hW2, hS2⟩
  have H2 := hide hS2
  have HW2 := hide hW2
  clear hS2 hW2 h2
  go_wp2
  go_end0
  exact ⟨rfl, unhide HW2, unhide H2⟩

set_option maxHeartbeats 2000000 in
theorem hStep_2b (hS : Sx bs w0 w l e) (i j k : Nat) (hi : l[i]? = some (B, memL c C m)) (hj : l[j]? = some (C, rowW m.ws c.n)) (hk : l[k]? = some (P, [.int .u64 (x : Nat), .int .u64 (s : Nat), .func (.func 71) #[] #[]])) (hij : i ≠ j) (hik : i ≠ k) (hjk : j ≠ k) (hr : c.r = true) (hw : WordsOk c m) (hx : Um.Word x) (hs : Um.Word s) (M : Um.Mm) (hM : M = Um.mtouch c m 3 4 (Um.penN x) s (Um.comN s)) (hd : M.l.done = false) :
    Calls Try.prog 16 #[.pointer (some ⟨P, 0, none⟩), .pointer (some ⟨B, 0, none⟩)] w fun r w' => r = .returned (.tuple #[]) ∧ WordsOk c M ∧ Sx bs w0 w' (putL l [(i, B, memL c C M), (j, C, rowW M.ws c.n), (k, P, [.int .u64 (x : Nat), .int .u64 (s : Nat), .func (.func 64) #[] #[]])]) e := by
  have HD := hide (hDone_f hS k _ _ _ hk)
  have HC := hide (hLay_f hS i j k hi hj _ hk hij hik hjk hr hw hx hs M hM hd)
  have h2 := (hS.get k hk).cell 2 _ rfl
  clear hS hi hj hk hij hik hjk hr hw hM hx hs hd
  go_enter Try.func16, Try.ntmps16
  go_wp2_with fail
  refine (unhide HD).mono ?_
  rintro r u ⟨rfl, rfl⟩
  go_wp2_with fail
  refine (unhide HC).mono ?_
  rintro r u2 ⟨rfl, hW2, hS2⟩
  have H2 := hide hS2
  have HW2 := hide hW2
  clear hS2 hW2 h2
  go_wp2
  go_end0
  exact ⟨rfl, unhide HW2, unhide H2⟩

set_option maxHeartbeats 2000000 in
theorem hStep_3 (hS : Sx bs w0 w l e) (i j k : Nat) (hi : l[i]? = some (B, memL c C m)) (hj : l[j]? = some (C, rowW m.ws c.n)) (hk : l[k]? = some (P, [.int .u64 (x : Nat), .int .u64 (s : Nat), .func (.func 72) #[] #[]])) (hij : i ≠ j) (hik : i ≠ k) (hjk : j ≠ k) (hr : c.r = true) (hw : WordsOk c m) (hx : Um.Word x) (hs : Um.Word s) (M : Um.Mm) (hM : M = Um.mtouch c m 3 1 0 x (Um.setlN x)) :
    Calls Try.prog 16 #[.pointer (some ⟨P, 0, none⟩), .pointer (some ⟨B, 0, none⟩)] w fun r w' => r = .returned (.tuple #[]) ∧ WordsOk c M ∧ Sx bs w0 w' (putL l [(i, B, memL c C M), (j, C, rowW M.ws c.n), (k, P, [.int .u64 (x : Nat), .int .u64 (s : Nat), .nilFunc])]) e := by
  have HD := hide (hDone_f hS k _ _ _ hk)
  have HC := hide (hSettle_x hS i j k hi hj _ hk hij hik hjk hr hw hx hs M hM)
  have h2 := (hS.get k hk).cell 2 _ rfl
  clear hS hi hj hk hij hik hjk hr hw hM hx hs
  go_enter Try.func16, Try.ntmps16
  go_wp2_with fail
  refine (unhide HD).mono ?_
  rintro r u ⟨rfl, rfl⟩
  go_wp2_with fail
  refine (unhide HC).mono ?_
  rintro r u2 ⟨rfl, hW2, hS2⟩
  have H2 := hide hS2
  have HW2 := hide hW2
  clear hS2 hW2 h2
  go_wp2
  go_end0
  exact ⟨rfl, unhide HW2, unhide H2⟩

set_option maxHeartbeats 2000000 in
theorem hStep_4 (hS : Sx bs w0 w l e) (k : Nat) (hk : l[k]? = some (P, [.int .u64 (x : Nat), .int .u64 (s : Nat), .nilFunc])) (q : Option Addr) :
    Calls Try.prog 16 #[.pointer (some ⟨P, 0, none⟩), .pointer q] w fun r w' => r = .returned (.tuple #[]) ∧ w' = w := by
  have HD := hide (hDone_n hS k hk)
  clear hS hk
  go_enter Try.func16, Try.ntmps16
  go_wp2_with fail
  refine (unhide HD).mono ?_
  rintro r u ⟨rfl, rfl⟩
  go_wp2
  go_end0
  exact ⟨rfl, rfl⟩

theorem hStep_any (hS : Sx bs w0 w l e) (i j k : Nat) (h H : Um.Hs) (hH : H = Um.hstep c x h) (hi : l[i]? = some (B, memL c C h.m)) (hj : l[j]? = some (C, rowW h.m.ws c.n)) (hk : l[k]? = some (P, hlpL x h.s h.nx)) (hij : i ≠ j) (hik : i ≠ k) (hjk : j ≠ k) (hr : c.r = true) (ho : HOk c h) (hx : Um.Word x) :
    Calls Try.prog 16 #[.pointer (some ⟨P, 0, none⟩), .pointer (some ⟨B, 0, none⟩)] w fun r w' => r = .returned (.tuple #[]) ∧ HOk c H ∧ Sx bs w0 w' (putL l [(i, B, memL c C H.m), (j, C, rowW H.m.ws c.n), (k, P, hlpL x H.s H.nx)]) e := by
  have hO : HOk c H := by
    rw [hH]
    exact ⟨(Um.hstep_words hx ho.2.1 ho.1).1, (Um.hstep_words hx ho.2.1 ho.1).2, Um.hstep_nx ho.2.2⟩
  obtain ⟨hw, hs, hn⟩ := ho
  obtain ⟨m, nx, s⟩ := h
  dsimp only at *
  match nx, hn with
  | 0, _ =>
    have e0 : H = ⟨Um.mtouch c m 3 6 (Um.penN x) 0 (Um.seqN x), 1, s⟩ := hH
    subst e0
    refine (hStep_0 hS i j k hi hj hk hij hik hjk hr hw hx hs _ rfl).mono ?_
    rintro r w' ⟨h1, h2, h3⟩
    exact ⟨h1, hO, h3⟩
  | 1, _ =>
    have e0 : H = ⟨Um.mtouch c m 1 4 (Um.penN x) 0 0, if Um.stN (Um.mtouch c m 1 4 (Um.penN x) 0 0).l.old = 3 then 2 else 3, (Um.mtouch c m 1 4 (Um.penN x) 0 0).l.old⟩ := hH
    by_cases h3 : Um.stN (Um.mtouch c m 1 4 (Um.penN x) 0 0).l.old = 3
    · rw [if_pos h3] at e0
      subst e0
      refine (hStep_1a hS i j k hi hj hk hij hik hjk hr hw hx hs _ rfl h3).mono ?_
      rintro r w' ⟨h1, h2, h3⟩
      exact ⟨h1, hO, h3⟩
    · rw [if_neg h3] at e0
      subst e0
      refine (hStep_1b hS i j k hi hj hk hij hik hjk hr hw hx hs _ rfl h3).mono ?_
      rintro r w' ⟨h1, h2, h3⟩
      exact ⟨h1, hO, h3⟩
  | 2, _ =>
    have e0 : H = ⟨Um.mtouch c m 3 4 (Um.penN x) s (Um.comN s), cond (Um.mtouch c m 3 4 (Um.penN x) s (Um.comN s)).l.done 3 1, s⟩ := hH
    cases hd : (Um.mtouch c m 3 4 (Um.penN x) s (Um.comN s)).l.done with
    | true =>
      rw [hd, cond_true] at e0
      subst e0
      refine (hStep_2a hS i j k hi hj hk hij hik hjk hr hw hx hs _ rfl hd).mono ?_
      rintro r w' ⟨h1, h2, h3⟩
      exact ⟨h1, hO, h3⟩
    | false =>
      rw [hd, cond_false] at e0
      subst e0
      refine (hStep_2b hS i j k hi hj hk hij hik hjk hr hw hx hs _ rfl hd).mono ?_
      rintro r w' ⟨h1, h2, h3⟩
      exact ⟨h1, hO, h3⟩
  | 3, _ =>
    have e0 : H = ⟨Um.mtouch c m 3 1 0 x (Um.setlN x), 4, s⟩ := hH
    subst e0
    refine (hStep_3 hS i j k hi hj hk hij hik hjk hr hw hx hs _ rfl).mono ?_
    rintro r w' ⟨h1, h2, h3⟩
    exact ⟨h1, hO, h3⟩
  | 4, _ =>
    have e0 : H = ⟨m, 4, s⟩ := hH
    subst e0
    refine (hStep_4 hS k hk _).mono ?_
    rintro r w' ⟨h1, rfl⟩
    refine ⟨h1, hO, ?_⟩
    unfold putL putL putL putL
    dsimp only
    rw [set_same hi, set_same hj, set_same hk]
    exact hS

theorem hDone_any (hS : Sx bs w0 w l e) (k : Nat) (nx : Nat) (hn : nx ≤ 4) (hk : l[k]? = some (P, hlpL x s nx)) : Calls Try.prog 14 #[.pointer (some ⟨P, 0, none⟩)] w fun r w' => r = .returned (.bool (decide (nx = 4))) ∧ w' = w := by
  match nx, hn with
  | 0, _ => exact hDone_f hS k _ _ _ hk
  | 1, _ => exact hDone_f hS k _ _ _ hk
  | 2, _ => exact hDone_f hS k _ _ _ hk
  | 3, _ => exact hDone_f hS k _ _ _ hk
  | 4, _ => exact hDone_n hS k hk

theorem hNew_any (hS : Sx bs w0 w l e) (x : Nat) (hx : Um.Word x) : Calls Try.prog 11 #[.int .u64 (x : Nat)] w fun r w' => ∃ P, r = .returned (.pointer (some ⟨P, 0, none⟩)) ∧ Sx bs w0 w' (l ++ [(P, hlpL x 0 (Um.hfst x))]) e := by
  by_cases hp : Um.penN x < 0
  · have e1 : Um.hfst x = 4 := by unfold Um.hfst; rw [if_pos hp]
    rw [e1]
    exact hNew_4 hS hx hp
  · have e1 : Um.hfst x = 0 := by unfold Um.hfst; rw [if_neg hp]
    rw [e1]
    exact hNew_0 hS hx (by omega)

theorem hok_hit (hx : Um.Word x) {h : Um.Hs} (ho : HOk c h) (k : Nat) : HOk c (Um.hit c x h k) := by
  induction k with
  | zero => exact ho
  | succ k ih => exact ⟨(Um.hstep_words hx ih.2.1 ih.1).1, (Um.hstep_words hx ih.2.1 ih.1).2, Um.hstep_nx ih.2.2⟩

set_option maxHeartbeats 4000000 in
theorem ends_x (hS : Sx bs w0 w l e) (i j k : Nat) (h : Um.Hs) (hi : l[i]? = some (B, memL c C h.m)) (hj : l[j]? = some (C, rowW h.m.ws c.n)) (hk : l[k]? = some (P, hlpL x h.s h.nx)) (hij : i ≠ j) (hik : i ≠ k) (hjk : j ≠ k) (hr : c.r = true) (ho : HOk c h) (hx : Um.Word x) (most : Nat) (hm : most ≤ 100) (H : Um.Hs) (hH : H = Um.hit c x h most) :
    Calls Try.prog 23 #[.pointer (some ⟨P, 0, none⟩), .pointer (some ⟨B, 0, none⟩), .int .i64 (most : Nat)] w fun r w' => ∃ n : Nat, r = .returned (.int .i64 (n : Nat)) ∧ n ≤ most ∧ (n < most → (Um.hit c x h n).nx = 4) ∧ (∀ q, q < n → (Um.hit c x h q).nx ≠ 4) ∧ HOk c H ∧ Sx bs w0 w' (putL l [(i, B, memL c C H.m), (j, C, rowW H.m.ws c.n), (k, P, hlpL x H.s H.nx)]) e := by
  have HS := hide hS
  have HI := hide (And.intro hi (And.intro hj hk))
  have hL := hS.enter3 i j k hi hj hk hij hik hjk
  have HR := hide hr
  have HO := hide (hok_hit (c := c) hx ho)
  have HX := hide hx
  have HH := hide hH
  clear hS hi hj hk hr ho hx hH
  have hS := hL
  clear hL
  go_enter Try.func23, Try.ntmps23
  go_wp2_with fail
  go_loopw [9] (fun i wr => ∃ q : Nat, q ≤ most ∧ i = .int .i64 q ∧ Hid (∀ k, k < q → (Um.hit c x h k).nx ≠ 4) ∧ Hid (Sx [B, C, P] w wr [(B, memL c C (Um.hit c x h q).m), (C, rowW (Um.hit c x h q).m.ws c.n), (P, hlpL x (Um.hit c x h q).s (Um.hit c x h q).nx)] [])) (fun i _ => most - (intOf i).toNat)
  case atStart => exact ⟨0, Nat.zero_le _, rfl, hide (fun _ h => absurd h (Nat.not_lt_zero _)), hide hS⟩
  case round =>
    clear hS
    rename_i wr
    obtain ⟨q, hq, rfl, HQ, HS3⟩ := hrel
    have hS := unhide HS3
    clear HS3
    by_cases hlt : q < most
    · have hlti : (q : Int) < (most : Int) := by omega
      by_cases hd : (Um.hit c x h q).nx = 4
      · have hS' := (unhide HS).back3 i j k (unhide HI).1 (unhide HI).2.1 (unhide HI).2.2 hS
        have HE := hide (show Um.hit c x h q = H by rw [unhide HH]; exact (Um.hit_done hd (by omega)).symm)
        have HD := hide (hDone_any hS 2 _ ((unhide HO) q).2.2 rfl)
        rw [decide_eq_true hd] at HD
        have Hd := hide hd
        have HS4 := hide hS'
        clear hS hS' hd
        go_wp2_with fail
        refine (unhide HD).mono ?_
        rintro r u ⟨rfl, rfl⟩
        clear HD
        go_wp2
        go_ret
        refine ⟨q, rfl, hq, fun _ => unhide Hd, unhide HQ, ?_⟩
        have hS5 := unhide HS4
        have hO5 := (unhide HO) q
        rw [unhide HE] at hS5 hO5
        exact ⟨hO5, hS5⟩
      · have HD := hide (hDone_any hS 2 _ ((unhide HO) q).2.2 rfl)
        rw [decide_eq_false hd] at HD
        have Hd := hide hd
        clear hd
        go_wp2_with fail
        refine (unhide HD).mono ?_
        rintro r u ⟨rfl, rfl⟩
        clear HD
        go_wp2_with fail
        refine (hStep_any hS 0 1 2 _ (Um.hit c x h (q + 1)) rfl rfl rfl rfl (by decide) (by decide) (by decide) (unhide HR) ((unhide HO) q) (unhide HX)).mono ?_
        rintro r u3 ⟨rfl, _, hSn⟩
        clear hS
        dsimp only [putL, List.set] at hSn
        have HS6 := hide hSn
        clear hSn
        go_wp2
        refine ⟨⟨q + 1, by omega, by go_num, hide (fun k hk => ?_), HS6⟩, by simp [intOf]; omega⟩
        by_cases e : k = q
        · subst e; exact unhide Hd
        · exact (unhide HQ) k (by omega)
    · have hge : ¬ (q : Int) < (most : Int) := by omega
      obtain rfl : q = most := by omega
      have hS' := (unhide HS).back3 i j k (unhide HI).1 (unhide HI).2.1 (unhide HI).2.2 hS
      have HS4 := hide hS'
      clear hS hS'
      go_wp2
      go_ret
      have hS5 := unhide HS4
      have hO5 := (unhide HO) q
      rw [← unhide HH] at hS5 hO5
      exact ⟨q, rfl, Nat.le_refl _, fun h => absurd h (Nat.lt_irrefl _), unhide HQ, hO5, hS5⟩

end

set_option maxHeartbeats 1000000 in
theorem of_any (a b : Int) (w : World) : Calls Try.prog 22 #[.int .i64 a, .int .i64 b] w fun r w' => r = .returned (.agg #[.int .i64 a, .int .i64 b]) ∧ Below w.heap.size w w' := by
  go_enter Try.func22, Try.ntmps22
  go_wp2
  exact bodyPost_ret (v := (.agg #[.int .i64 a, .int .i64 b])) (by simp [results, Try.results22, go_sem]) rfl ⟨rfl, (Below.refl _ _).alloc (Nat.le_refl _) _⟩

set_option maxHeartbeats 1000000 in
theorem tallied_any (w : World) : Calls Try.prog 20 #[] w fun r w' => r = .returned (.agg #[.int .i64 1, .int .i64 0]) ∧ Below w.heap.size w w' := by
  go_enter Try.func20, Try.ntmps20
  go_wp2
  exact bodyPost_ret (v := (.agg #[.int .i64 1, .int .i64 0])) (by simp [results, Try.results20, go_sem]) rfl ⟨rfl, (Below.refl _ _).alloc (Nat.le_refl _) _⟩

end Go.Proofs.Ytglmniciojemfaa

/-
  The walk of layer 8's first look: the fifth commit, of slot 1.
-/
namespace Go.Proofs.Ytglmniciojemfaa
set_option maxRecDepth 100000
open Go.RowKit Go.Sort

def hc0 : Um.Cf := ⟨1, 2, 1, 0, 0⟩
def hm1 : Um.Mm := Um.mtouch hc0 ⟨fun _ => 0, 0, Um.noT⟩ 2 1 0 0 82
def hm2 : Um.Mm := Um.mtouch hc0 hm1 2 4 1 0 402653184
def hs0 : Um.Hs := ⟨hm2, 0, 0⟩
def hs9 : Um.Hs := Um.hit hc0 82 hs0 20
def hm3 : Um.Mm := Um.mtouch hc0 hs9.m 1 1 0 0 0
def hm4 : Um.Mm := Um.mtouch hc0 hm3 1 6 1 0 0
def hm5 : Um.Mm := Um.mtouch hc0 hm4 1 4 1 0 0

theorem hc0_r : hc0.r = true := by decide +kernel

theorem hs_nx : (Um.hit hc0 82 hs0 0).nx ≠ 4 ∧ (Um.hit hc0 82 hs0 1).nx ≠ 4 ∧ (Um.hit hc0 82 hs0 2).nx ≠ 4 ∧ (Um.hit hc0 82 hs0 3).nx ≠ 4 ∧ (Um.hit hc0 82 hs0 4).nx = 4 := by decide +kernel

theorem hs_n {n : Nat} (h1 : n < 20 → (Um.hit hc0 82 hs0 n).nx = 4) (h2 : ∀ q, q < n → (Um.hit hc0 82 hs0 q).nx ≠ 4) : n = 4 := by
  obtain ⟨a0, a1, a2, a3, a4⟩ := hs_nx
  have h4 : n ≤ 4 := by
    rcases Nat.lt_or_ge 4 n with h | h
    · exact absurd a4 (h2 4 h)
    · exact h
  have h5 := h1 (by omega)
  match n, h4, h5 with
  | 0, _, h => exact absurd h a0
  | 1, _, h => exact absurd h a1
  | 2, _, h => exact absurd h a2
  | 3, _, h => exact absurd h a3
  | 4, _, _ => rfl

set_option maxHeartbeats 8000000 in
theorem hAlive_any (w : World) : Calls Try.prog 12 #[] w fun e w' => e = .returned (.bool true) ∧ Below w.heap.size w w' := by
  have hS := Sx.new w
  go_enter Try.func12, Try.ntmps12
  go_wp2_with fail
  refine (new_x hS hc0 hc0_r).mono ?_
  rintro r u ⟨B, C, rfl, hWn, hSn⟩
  clear hS
  have hS := hSn
  clear hSn
  dsimp only [putL, List.set, List.cons_append, List.nil_append] at hS
  have HW0 := hide hWn
  clear hWn
  go_wp2_with fail
  refine (hNew_any hS 82 (by unfold Um.Word; omega)).mono ?_
  rintro r u ⟨P, rfl, hSn⟩
  clear hS
  have hS := hSn
  clear hSn
  dsimp only [putL, List.set, List.cons_append, List.nil_append] at hS
  go_wp2_with fail
  refine (hNew_any hS 80 (by unfold Um.Word; omega)).mono ?_
  rintro r u ⟨Q, rfl, hSn⟩
  clear hS
  have hS := hSn
  clear hSn
  dsimp only [putL, List.set, List.cons_append, List.nil_append] at hS
  go_wp2_with fail
  refine (tallied_any _).mono ?_
  rintro r u ⟨rfl, hb⟩
  replace hS := hS.call hb
  clear hb
  go_wp2_with fail
  refine (mStore_x hS 0 1 rfl rfl (by decide) hc0_r (unhide HW0) 1 0 82 (by unfold Um.Word; omega) (by decide) (by decide) hm1 rfl).mono ?_
  rintro r u ⟨rfl, hWn, hSn⟩
  clear hS
  have hS := hSn
  clear hSn
  dsimp only [putL, List.set, List.cons_append, List.nil_append] at hS
  have HW1 := hide hWn
  clear hWn
  go_wp2_with fail
  refine (of_any 4 1 _).mono ?_
  rintro r u ⟨rfl, hb⟩
  replace hS := hS.call hb
  clear hb
  go_wp2_with fail
  refine (rNew01_any 3 _).mono ?_
  rintro r u ⟨rfl, hb⟩
  replace hS := hS.call hb
  clear hb
  rw [show Um.packV 0 3 false false false 0 0 = 402653184 by decide +kernel]
  go_wp2_with fail
  refine (mStore_x hS 0 1 rfl rfl (by decide) hc0_r (unhide HW1) 4 1 402653184 (by unfold Um.Word; omega) (by decide) (by decide) hm2 rfl).mono ?_
  rintro r u ⟨rfl, hWn, hSn⟩
  clear hS
  have hS := hSn
  clear hSn
  dsimp only [putL, List.set, List.cons_append, List.nil_append] at hS
  have HW2 := hide hWn
  clear hWn
  go_wp2_with fail
  refine (ends_x hS 0 1 2 hs0 rfl rfl rfl (by decide) (by decide) (by decide) hc0_r ⟨unhide HW2, (by unfold Um.Word; decide), by decide⟩ (by unfold Um.Word; omega) 20 (by decide) hs9 rfl).mono ?_
  rintro r u ⟨n, rfl, hn1, hn2, hn3, hOn, hSn⟩
  clear hS
  have hS := hSn
  clear hSn
  dsimp only [putL, List.set, List.cons_append, List.nil_append] at hS
  obtain rfl : n = 4 := hs_n hn2 hn3
  have HO := hide hOn
  clear hn1 hn2 hn3 hOn HW0 HW1 HW2
  go_wp2_with fail
  refine (hDone_any hS 2 hs9.nx (by decide +kernel) rfl).mono ?_
  rintro r u ⟨rfl, rfl⟩
  rw [show decide (hs9.nx = 4) = true by decide +kernel]
  go_wp2_with fail
  refine (hDone_any hS 3 (Um.hfst 80) (by decide +kernel) rfl).mono ?_
  rintro r u ⟨rfl, rfl⟩
  rw [show decide (Um.hfst 80 = 4) = true by decide +kernel]
  go_wp2_with fail
  refine (tallied_any _).mono ?_
  rintro r u ⟨rfl, hb⟩
  replace hS := hS.call hb
  clear hb
  go_wp2_with fail
  refine (mLoad_x hS 0 1 rfl rfl (by decide) hc0_r (unhide HO).1 1 0 (by decide) (by decide) hm3 rfl).mono ?_
  rintro r u ⟨rfl, hWn, hSn⟩
  clear hS
  have hS := hSn
  clear hSn
  dsimp only [putL, List.set, List.cons_append, List.nil_append] at hS
  have HW3 := hide hWn
  clear hWn
  rw [show hm3.l.old = 80 by decide +kernel]
  go_wp2_with fail
  refine (of_any 6 1 _).mono ?_
  rintro r u ⟨rfl, hb⟩
  replace hS := hS.call hb
  clear hb
  go_wp2_with fail
  refine (mLoad_x hS 0 1 rfl rfl (by decide) hc0_r (unhide HW3) 6 1 (by decide) (by decide) hm4 rfl).mono ?_
  rintro r u ⟨rfl, hWn, hSn⟩
  clear hS
  have hS := hSn
  clear hSn
  dsimp only [putL, List.set, List.cons_append, List.nil_append] at hS
  have HW4 := hide hWn
  clear hWn
  rw [show hm4.l.old = 5 by decide +kernel]
  go_wp2_with fail
  refine (of_any 4 1 _).mono ?_
  rintro r u ⟨rfl, hb⟩
  replace hS := hS.call hb
  clear hb
  go_wp2_with fail
  refine (mLoad_x hS 0 1 rfl rfl (by decide) hc0_r (unhide HW4) 4 1 (by decide) (by decide) hm5 rfl).mono ?_
  rintro r u ⟨rfl, hWn, hSn⟩
  clear hS
  have hS := hSn
  clear hSn
  dsimp only [putL, List.set, List.cons_append, List.nil_append] at hS
  have HW5 := hide hWn
  clear hWn
  rw [show hm5.l.old = 536870912 by decide +kernel]
  go_wp2_with fail
  refine (rNew01_any 4 _).mono ?_
  rintro r u ⟨rfl, hb⟩
  replace hS := hS.call hb
  have hB := hS.bel
  clear hb hS
  rw [show Um.packV 0 4 false false false 0 0 = 536870912 by decide +kernel]
  go_wp2
  go_ret
  exact ⟨rfl, hB⟩

end Go.Proofs.Ytglmniciojemfaa

/-
  A world's size that was handed in: what its reading says of its cells.
-/
namespace Go.Proofs.Ytglmniciojemfaa
set_option maxRecDepth 100000
open Go.ChangeShapes Go.WideShapes Go.ChangeAt Go.RowKit

theorem cellsCfg : Try.prog.cellsOf 24 = 5 := by kernel_rfl
theorem cellsCfgI : Try.prog.cellsOf 3 = 1 := by kernel_rfl
theorem cellsCfgU : Try.prog.cellsOf 22 = 1 := by kernel_rfl

theorem array5 {α : Type} {cs : Array α} (h : cs.size = 5) : ∃ c0 c1 c2 c3 c4, cs = #[c0, c1, c2, c3, c4] := by
  obtain ⟨l⟩ := cs
  match l, h with
  | [c0, c1, c2, c3, c4], _ => exact ⟨c0, c1, c2, c3, c4, rfl⟩

theorem list5 {α : Type} {cs : List α} (h : cs.length = 5) : ∃ c0 c1 c2 c3 c4, cs = [c0, c1, c2, c3, c4] := by
  match cs, h with
  | [c0, c1, c2, c3, c4], _ => exact ⟨c0, c1, c2, c3, c4, rfl⟩

set_option maxRecDepth 100000 in
theorem open_cfg {H : Type} {enc : TypeId × Value → H} {W : World} {base : Nat} {v : Value} {d : DataW H} {p : List MemPlace}
    (hv : Value.okWide Try.prog W .any base 24 v) (h : DataW.Trod enc Try.prog W 0 (fun _ => true) true 24 v d p) :
    ∃ (t s k g : Int) (q : Nat), v = .agg #[.int .i64 t, .int .i64 s, .int .i64 k, .int .i64 g, .int .u64 q] ∧ (-9223372036854775808 ≤ t ∧ t ≤ 9223372036854775807) ∧ (-9223372036854775808 ≤ s ∧ s ≤ 9223372036854775807) ∧ (-9223372036854775808 ≤ k ∧ k ≤ 9223372036854775807) := by
  obtain ⟨cs, rfl, hsz⟩ := okWide_struct Try.underlying24 hv
  obtain ⟨c0, c1, c2, c3, c4, rfl⟩ := array5 (hsz.trans cellsCfg)
  obtain ⟨fuel, hf⟩ := h
  obtain ⟨xs, n, _, _, hl, hlen, hx⟩ := DataW.trod_struct Try.underlying24 hf
  obtain ⟨y0, y1, y2, y3, y4, rfl⟩ := list5 hlen
  obtain ⟨t, e0, _, k0⟩ := DataW.trod_int Try.underlying3 (hx 0 _ rfl)
  obtain ⟨s, e1, _, k1⟩ := DataW.trod_int Try.underlying3 (hx 1 _ rfl)
  obtain ⟨k, e2, _, k2⟩ := DataW.trod_int Try.underlying3 (hx 2 _ rfl)
  obtain ⟨g, e3, _, _⟩ := DataW.trod_int Try.underlying3 (hx 3 _ rfl)
  obtain ⟨q, e4, _, k4⟩ := DataW.trod_int Try.underlying22 (hx 4 _ rfl)
  obtain ⟨q', rfl, _⟩ := word_of k4
  simp [Value.cells, cellsCfgI, cellsCfgU] at e0 e1 e2 e3 e4
  subst e0 e1 e2 e3 e4
  exact ⟨t, s, k, g, q', rfl, int_of k0, int_of k1, int_of k2⟩

end Go.Proofs.Ytglmniciojemfaa

/-
  Words that were handed in: what their reading says of their cells.
-/
namespace Go.Proofs.Ytglmniciojemfaa
set_option maxRecDepth 100000
open Go.ChangeShapes Go.WideShapes Go.ChangeAt Go.RowKit

theorem cellsWU : Try.prog.cellsOf 22 = 1 := by kernel_rfl

theorem cellsWI : Try.prog.cellsOf 3 = 1 := by kernel_rfl

theorem okWide_arr {P : Program} {w : World} {r : Reach} {base : Nat} {t : TypeId} {v : Value} {n : Nat} {e : TypeId} (ht : P.underlying t = some (.array n e)) (h : Value.okWide P w r base t v) : ∃ cs, v = .agg cs ∧ cs.size = P.cellsOf t := by
  simp only [Value.okWide, ht] at h
  obtain ⟨cs, h1, h2, _⟩ := h
  exact ⟨cs, h1, h2⟩

theorem open_words {H : Type} {enc : TypeId × Value → H} {W : World} {base : Nat} {v : Value} {d : DataW H} {p : List MemPlace}
    (hv : Value.okWide Try.prog W .any base 25 v) (h : DataW.Trod enc Try.prog W 0 (fun _ => true) true 25 v d p) :
    ∃ n ws, IsWords W v n ws := by
  obtain ⟨a0, len0, cap0, rfl⟩ := okWide_slice Try.underlying25 hv
  obtain ⟨fuel, hf⟩ := h
  rcases open_ints Try.underlying25 Try.underlying22 cellsWU hf with ⟨hcs, _⟩ | ⟨a, len, cap, zs, hcs, _, hl, hm, hz, _, hcell, hwf⟩
  · simp [Value.cells] at hcs
    obtain ⟨rfl, rfl, rfl⟩ := hcs
    exact ⟨0, fun _ => 0, Or.inl ⟨_, _, rfl, rfl⟩⟩
  · simp [Value.cells] at hcs
    obtain ⟨rfl, rfl, rfl⟩ := hcs
    by_cases h0 : len0 = 0
    · subst h0
      exact ⟨0, fun _ => 0, Or.inl ⟨_, _, rfl, rfl⟩⟩
    have hzc : zs.length = cap0 := hz
    obtain ⟨b, off, rfl, hc⟩ := ints_at hcell (by omega)
    have hw : ∀ j, j < zs.length → ∃ x : Nat, zs.getD j 0 = x ∧ Um.Word x := by
      intro j hj
      have e : zs.getD j 0 = zs[j] := by simp [hj]
      rw [e]
      exact word_of (hwf _ (List.getElem_mem hj))
    refine ⟨len0, fun j => (zs.getD j 0).toNat, Or.inr ⟨b, off, cap0, rfl, by omega, hl, hm, ?_, fun j hj => ?_⟩⟩
    · exact World.block_lt_of_cell? W _ (hc 0 (by omega))
    · obtain ⟨x, hx, hw'⟩ := hw j (by omega)
      have e : (zs.getD j 0).toNat = x := by rw [hx]; rfl
      exact ⟨by rw [hc j (by omega), hx, ← e], by rw [← e] at hw'; exact hw'⟩

theorem open_nil {H : Type} {enc : TypeId × Value → H} {W : World} {base : Nat} {v : Value} {d : DataW H} {p : List MemPlace}
    (hv : Value.okWide Try.prog W .any base 25 v) (h : DataW.Trod enc Try.prog W 0 (fun _ => true) true 25 v d p) :
    ∀ ao n cap, v = .slice ao n cap → ao = none → cap = 0 := by
  rintro ao n cap rfl rfl
  obtain ⟨fuel, hf⟩ := h
  rcases open_ints Try.underlying25 Try.underlying22 cellsWU hf with ⟨hcs, _⟩ | ⟨a, len, cap, zs, hcs, _, hl, hm, hzl, hx, _, _⟩
  · simp [Value.cells] at hcs
    exact hcs.2
  · simp [Value.cells] at hcs

theorem bytesWU : Try.prog.bytesOf 22 = 8 := by kernel_rfl

theorem open_words_sized {H : Type} {enc : TypeId × Value → H} {W : World} {base : Nat} {v : Value} {d : DataW H} {p : List MemPlace}
    (hv : Value.okWide Try.prog W .any base 25 v) (h : DataW.Trod enc Try.prog W 0 (fun _ => true) true 25 v d p)
    (hz : ∀ elems spare, d = .slice elems spare → (elems.length + spare.length) * Try.prog.bytesOf 22 ≤ reachBytes) :
    ∃ n ws, IsWords W v n ws ∧ n * 8 ≤ 140737488355328 := by
  obtain ⟨n, ws, hI⟩ := open_words hv h
  refine ⟨n, ws, hI, ?_⟩
  obtain ⟨a0, len0, cap0, rfl⟩ := okWide_slice Try.underlying25 hv
  obtain ⟨fuel, hf⟩ := h
  have hl : n = len0 := by
    rcases hI with ⟨_, _, e, h⟩ | ⟨_, _, _, e, _⟩
    · cases e; exact h
    · cases e; rfl
  subst hl
  rcases open_ints Try.underlying25 Try.underlying22 cellsWU hf with ⟨hcs, _⟩ | ⟨a, len, cap, zs, hcs, _, hl, hm, hzl, hx, _, _⟩
  · simp [Value.cells] at hcs
    obtain ⟨rfl, rfl, rfl⟩ := hcs
    omega
  · simp [Value.cells] at hcs
    obtain ⟨rfl, rfl, rfl⟩ := hcs
    cases hx
    have := hz _ _ rfl
    rw [bytesWU] at this
    have hr := reachBytes_lt
    have hzc : zs.length = cap0 := hzl
    simp [lits] at this
    have h47 : (2 : Nat) ^ 47 = 140737488355328 := by decide
    omega

theorem arr3 {α : Type} {cs : Array α} (h : cs.size = 3) : ∃ c0 c1 c2, cs = #[c0, c1, c2] := by
  obtain ⟨l⟩ := cs
  match l, h with
  | [c0, c1, c2], _ => exact ⟨c0, c1, c2, rfl⟩

theorem lst3 {α : Type} {cs : List α} (h : cs.length = 3) : ∃ c0 c1 c2, cs = [c0, c1, c2] := by
  match cs, h with
  | [c0, c1, c2], _ => exact ⟨c0, c1, c2, rfl⟩

theorem arr4 {α : Type} {cs : Array α} (h : cs.size = 4) : ∃ c0 c1 c2 c3, cs = #[c0, c1, c2, c3] := by
  obtain ⟨l⟩ := cs
  match l, h with
  | [c0, c1, c2, c3], _ => exact ⟨c0, c1, c2, c3, rfl⟩

theorem lst4 {α : Type} {cs : List α} (h : cs.length = 4) : ∃ c0 c1 c2 c3, cs = [c0, c1, c2, c3] := by
  match cs, h with
  | [c0, c1, c2, c3], _ => exact ⟨c0, c1, c2, c3, rfl⟩

theorem arr5 {α : Type} {cs : Array α} (h : cs.size = 5) : ∃ c0 c1 c2 c3 c4, cs = #[c0, c1, c2, c3, c4] := by
  obtain ⟨l⟩ := cs
  match l, h with
  | [c0, c1, c2, c3, c4], _ => exact ⟨c0, c1, c2, c3, c4, rfl⟩

theorem lst5 {α : Type} {cs : List α} (h : cs.length = 5) : ∃ c0 c1 c2 c3 c4, cs = [c0, c1, c2, c3, c4] := by
  match cs, h with
  | [c0, c1, c2, c3, c4], _ => exact ⟨c0, c1, c2, c3, c4, rfl⟩

end Go.Proofs.Ytglmniciojemfaa

/-
  Loads from blocks that were there ahead of the call.
-/
namespace Go.Proofs.Ytglmniciojemfaa
set_option maxRecDepth 100000
open Go.RowKit Go.Sort

theorem run_load1_old {P : Program} {w : World} {b o : Nat} (ty : TypeId) (v : Value) (hc : w.cell? ⟨b, o, none⟩ = some v) (d : TypeDesc) (hu : P.underlying ty = some d) (hd : d.isRow = false) :
    (Instr.loadAt ty (.pointer (some ⟨b, o, none⟩))).run P w = .ok v w := by
  have hagg : (isAgg ty).run P w = .ok false w := by
    unfold isAgg
    rw [Sem.run_bind, run_underlying hu w]
    cases d <;> simp_all
  simp [Instr.loadAt, Instr.sureAddr, loadVar, Sem.run_bind, hagg, hc]

theorem wpx_old {P : Program} {ops : Array Oper} {rest : List Oper} {op : Oper} {a : Act} {w w0 : World} {Q : Exit → Act → World → Prop} {l e : List (Nat × List Value)}
    (hS : Sx [] w0 w l e) (hw : Region.wanted op (yielded ops a.tmps) = true) (ty : TypeId) (x : Operand) (ho : op.op = .load ty x) (b o : Nat) (hx : a.eval x = .pointer (some ⟨b, o, none⟩)) (hlt : b < w0.heap.size) (v : Value) (hc : w0.cell? ⟨b, o, none⟩ = some v) (hr : One P ty)
    (a' : Act) (ha : a.put op.dst v = a') (h : wpList P ops Q rest a' w) : wpList P ops Q (op :: rest) a w := by
  refine BigFrame.wpList_want hw fun K hK => ?_
  obtain ⟨d, hu, hd⟩ := hr
  subst ha
  have e : (execOp a.eval op).run P w = .ok (.value v) w := by
    unfold execOp
    rw [ho]
    simp [hx, run_load1_old (P := P) ty v ((hS.bel.cell (p := ⟨b, o, none⟩) hlt).trans hc) d hu hd]
  unfold Oper.wp
  rw [e]
  exact hK _ _ h

end Go.Proofs.Ytglmniciojemfaa

/-
  Plain arithmetic of layer 8: alone, of the Tally's own word. No Go in sight.
-/
namespace Um
set_option maxRecDepth 100000

theorem alone_math {c : Cf} (hr : c.r = true) (m0 : Mm) (sl : Int) (hp0 : 0 ≤ sl) (hp1 : sl < c.s) (h60 : m0.ws 0 < 1152921504606846976) (hw : ∀ i, i < c.n → Word (m0.ws i))
    (x : Nat) (hx : x = m0.ws 0 / 16 * 16 + sl.toNat + 1) (ms : Mm) (hms : ms = mtouch c m0 2 1 0 0 x) (m1 : Mm) (hm1 : m1 = mtouch c ms 1 4 sl 0 0) (m2 : Mm) (hm2 : m2 = mtouch c m1 1 6 sl 0 0) (H : Hs) (hH : H = hit c x ⟨m2, hfst x, 0⟩ 20)
    (m3 : Mm) (hm3 : m3 = mtouch c H.m 1 4 sl 0 0) (m4 : Mm) (hm4 : m4 = mtouch c m3 1 6 sl 0 0) (m5 : Mm) (hm5 : m5 = mtouch c m4 1 1 0 0 0) :
    Word x ∧ Word m1.l.old ∧ (hit c x ⟨m2, hfst x, 0⟩ 4).nx = 4 ∧ H.nx = 4 ∧ m3.l.old = (if stN m1.l.old = 3 then comN m1.l.old else m1.l.old) ∧ m4.l.old = (if m2.l.old = 0 then seqN x else m2.l.old) ∧ m5.l.old = setlN x := by
  have hb := c.rb hr
  have hpen : penN x = sl := by unfold penN; omega
  have hxw : Word x := by unfold Word; omega
  obtain ⟨hi1, hi2⟩ := iS_pos hr (x := x) (by omega) (by omega)
  have hS : iS c x = c.cl 4 sl := by unfold iS; rw [hpen]
  have hN : iN c x = c.cl 6 sl := by unfold iN; rw [hpen]
  have hs0 : ms.ws 0 = x := by
    rw [hms, touch_hit (p := 0) (cl_tally hr)]
    show putW m0.ws 0 (trn 2 0 x (m0.ws 0)) 0 = x
    rw [putW_same]
    rfl
  have hw1 : m1.ws = ms.ws := by rw [hm1]; exact load_ws c ms 4 sl
  have hw2 : m2.ws = ms.ws := by rw [hm2]; exact (load_ws c m1 6 sl).trans hw1
  have hw3 : m3.ws = H.m.ws := by rw [hm3]; exact load_ws c H.m 4 sl
  have hw4 : m4.ws = H.m.ws := by rw [hm4]; exact (load_ws c m3 6 sl).trans hw3
  have hE := hit_ends hr (h := ⟨m2, hfst x, 0⟩) (mix_refl c x m2.ws) (knows_new hr x m2 0) (k := 20) (by decide)
  rw [← hH, hw2] at hE
  have ho1 : m1.l.old = ms.ws (iS c x).toNat := by rw [hm1, load_old, ← hS, if_pos (by omega)]
  have ho2 : m2.l.old = ms.ws (iN c x).toNat := by rw [hm2, load_old, ← hN, if_pos (by omega), hw1]
  have ho3 : m3.l.old = H.m.ws (iS c x).toNat := by rw [hm3, load_old, ← hS, if_pos (by omega)]
  have ho4 : m4.l.old = H.m.ws (iN c x).toNat := by rw [hm4, load_old, ← hN, if_pos (by omega), hw3]
  have ho5 : m5.l.old = H.m.ws 0 := by rw [hm5, load_old, cl_tally hr, if_pos (by decide), hw4]; rfl
  refine ⟨hxw, ?_, alone4 x m2 0 (by omega), hE.1, ?_, ?_, ?_⟩
  · rw [hm1]
    exact old_word (by rw [hms]; exact word_touch hw hxw)
  · rw [ho3, hE.2, tg_S hr (by omega), ho1]
  · rw [ho4, hE.2, tg_N hr (by omega), ho2]
  · rw [ho5, hE.2, tg_T, if_pos hs0]

end Um

/-
  A play that was handed in (a thread, an epoch, how many steps, what is written meanwhile): what its reading says of its cells.
-/
namespace Go.Proofs.Ytglmniciojemfaa
set_option maxRecDepth 100000
open Go.ChangeShapes Go.WideShapes Go.ChangeAt Go.RowKit

theorem cellsPoke : Try.prog.cellsOf 89 = 4 := by kernel_rfl
theorem cellsPokes : Try.prog.cellsOf 26 = 1 := by kernel_rfl

theorem ar4 {α : Type} {cs : Array α} (h : cs.size = 4) : ∃ c0 c1 c2 c3, cs = #[c0, c1, c2, c3] := by
  obtain ⟨l⟩ := cs
  match l, h with
  | [c0, c1, c2, c3], _ => exact ⟨c0, c1, c2, c3, rfl⟩

theorem ls4 {α : Type} {cs : List α} (h : cs.length = 4) : ∃ c0 c1 c2 c3, cs = [c0, c1, c2, c3] := by
  match cs, h with
  | [c0, c1, c2, c3], _ => exact ⟨c0, c1, c2, c3, rfl⟩

/-- what is written: ahead of which step, which spot, which word -/
structure Pok where
  st : Int
  k : Int
  a : Int
  v : Nat

/-- pokes lie in a row of elder cells -/
def PokesAt (w : World) (la : Option Addr) (nl : Nat) (Z : Nat → Pok) : Prop :=
  nl = 0 ∨ ∃ lb off, la = some ⟨lb, off, none⟩ ∧ lb < w.heap.size ∧
      ∀ i, i < nl → (w.cell? ⟨lb, off + i * 4, none⟩ = some (.int .i64 (Z i).st) ∧ w.cell? ⟨lb, off + (i * 4 + 1), none⟩ = some (.int .i64 (Z i).k) ∧ w.cell? ⟨lb, off + (i * 4 + 2), none⟩ = some (.int .i64 (Z i).a) ∧ w.cell? ⟨lb, off + (i * 4 + 3), none⟩ = some (.int .u64 ((Z i).v : Nat))) ∧
        (-9223372036854775808 ≤ (Z i).a ∧ (Z i).a ≤ 9223372036854775807) ∧ Um.Word (Z i).v

theorem open_pokes {H : Type} {enc : TypeId × Value → H} {W : World} {fuel : Nat} {cs : List Value} {x : DataW H × List MemPlace}
    (h : DataW.trod enc Try.prog W 0 (fun _ => true) true fuel 26 cs = some x) :
    ∃ la nl cl Z, cs = [.slice la nl cl] ∧ nl ≤ cl ∧ PokesAt W la nl Z := by
  rcases Deep.open_slice Try.underlying26 h with ⟨hcs, _⟩ | ⟨a, len, cap, m, n, D, Pl, hcs, _, hl, hm, hmm, _, hx⟩
  · exact ⟨none, 0, 0, fun _ => ⟨0, 0, 0, 0⟩, hcs, Nat.le_refl _, .inl rfl⟩
  · by_cases h0 : len = 0
    · subst h0
      exact ⟨some a, 0, cap, fun _ => ⟨0, 0, 0, 0⟩, hcs, Nat.zero_le _, .inl rfl⟩
    have hmc : m = cap := by rw [hmm]; rfl
    subst hmc
    have each : ∀ i, i < len → ∃ q : Pok, (W.cell? (a.add (i * 4)) = some (.int .i64 q.st) ∧ W.cell? (a.add (i * 4 + 1)) = some (.int .i64 q.k) ∧ W.cell? (a.add (i * 4 + 2)) = some (.int .i64 q.a) ∧ W.cell? (a.add (i * 4 + 3)) = some (.int .u64 (q.v : Nat))) ∧
        (-9223372036854775808 ≤ q.a ∧ q.a ≤ 9223372036854775807) ∧ Um.Word q.v := by
      intro i hi
      obtain ⟨cs', h1, h2⟩ := hx i (by omega)
      rw [cellsPoke] at h1
      obtain ⟨_, hlen, hcell⟩ := World.cells?_some h1
      obtain ⟨v0, v1, v2, v3, rfl⟩ := ls4 hlen
      obtain ⟨xs, n, _, _, hl, hxl, hfx⟩ := DataW.trod_struct Try.underlying89 h2
      obtain ⟨y0, y1, y2, y3, rfl⟩ := ls4 hxl
      obtain ⟨q0, e0, _, _⟩ := DataW.trod_int Try.underlying3 (hfx 0 _ rfl)
      obtain ⟨q1, e1, _, _⟩ := DataW.trod_int Try.underlying3 (hfx 1 _ rfl)
      obtain ⟨q2, e2, _, k2⟩ := DataW.trod_int Try.underlying3 (hfx 2 _ rfl)
      obtain ⟨q3, e3, _, k3⟩ := DataW.trod_int Try.underlying22 (hfx 3 _ rfl)
      obtain ⟨x', rfl, w3⟩ := word_of k3
      simp [cellsWI, cellsWU] at e0 e1 e2 e3
      subst e0 e1 e2 e3
      have c0 := hcell 0 (by omega)
      have c1 := hcell 1 (by omega)
      have c2 := hcell 2 (by omega)
      have c3 := hcell 3 (by omega)
      rw [Deep.add_add] at c0 c1 c2 c3
      exact ⟨⟨q0, q1, q2, x'⟩, ⟨by simpa using c0, by simpa using c1, by simpa using c2, by simpa using c3⟩, int_of k2, w3⟩
    have : ∃ Z : Nat → Pok, ∀ i, i < len → (W.cell? (a.add (i * 4)) = some (.int .i64 (Z i).st) ∧ W.cell? (a.add (i * 4 + 1)) = some (.int .i64 (Z i).k) ∧ W.cell? (a.add (i * 4 + 2)) = some (.int .i64 (Z i).a) ∧ W.cell? (a.add (i * 4 + 3)) = some (.int .u64 ((Z i).v : Nat))) ∧
        (-9223372036854775808 ≤ (Z i).a ∧ (Z i).a ≤ 9223372036854775807) ∧ Um.Word (Z i).v :=
      ⟨fun i => if hi : i < len then (each i hi).choose else ⟨0, 0, 0, 0⟩, fun i hi => by simp only [hi, dite_true]; exact (each i hi).choose_spec⟩
    obtain ⟨q, hq⟩ := this
    obtain ⟨b, off, spot⟩ := a
    have hspot : spot = none := by simpa [Addr.add] using World.cell?_spot (hq 0 (by omega)).1.1
    subst hspot
    refine ⟨_, len, m, q, hcs, hl, .inr ⟨b, off, rfl, ?_, fun i hi => ?_⟩⟩
    · have := (hq 0 (by omega)).1.1
      rw [Go.WideShapes.add_plain] at this
      exact World.block_lt_of_cell? W _ this
    · have := hq i hi
      simp only [Go.WideShapes.add_plain] at this
      exact this

end Go.Proofs.Ytglmniciojemfaa

/-
  What layer 8's laws are handed: a word with turns, a word with steps and what is written meanwhile, a row of integers: what their reading says of their cells.
-/
namespace Go.Proofs.Ytglmniciojemfaa
set_option maxRecDepth 100000
open Go.ChangeShapes Go.WideShapes Go.ChangeAt Go.RowKit

theorem cellsPlay8 : Try.prog.cellsOf 28 = 3 := by kernel_rfl
theorem cellsTurns : Try.prog.cellsOf 69 = 2 := by kernel_rfl
theorem cellsBool : Try.prog.cellsOf 4 = 1 := by kernel_rfl
theorem cellsBools : Try.prog.cellsOf 67 = 1 := by kernel_rfl

theorem ar3 {α : Type} {cs : Array α} (h : cs.size = 3) : ∃ c0 c1 c2, cs = #[c0, c1, c2] := by
  obtain ⟨l⟩ := cs
  match l, h with
  | [c0, c1, c2], _ => exact ⟨c0, c1, c2, rfl⟩

theorem ls3 {α : Type} {cs : List α} (h : cs.length = 3) : ∃ c0 c1 c2, cs = [c0, c1, c2] := by
  match cs, h with
  | [c0, c1, c2], _ => exact ⟨c0, c1, c2, rfl⟩

theorem ar2 {α : Type} {cs : Array α} (h : cs.size = 2) : ∃ c0 c1, cs = #[c0, c1] := by
  obtain ⟨l⟩ := cs
  match l, h with
  | [c0, c1], _ => exact ⟨c0, c1, rfl⟩

theorem ls2 {α : Type} {cs : List α} (h : cs.length = 2) : ∃ c0 c1, cs = [c0, c1] := by
  match cs, h with
  | [c0, c1], _ => exact ⟨c0, c1, rfl⟩

theorem ls1 {α : Type} {cs : List α} (h : cs.length = 1) : ∃ c0, cs = [c0] := by
  match cs, h with
  | [c0], _ => exact ⟨c0, rfl⟩

/-- a row of elder cells -/
def RowOf (w : World) (la : Option Addr) (nl : Nat) (Z : Nat → Value) : Prop :=
  nl = 0 ∨ ∃ lb off, la = some ⟨lb, off, none⟩ ∧ lb < w.heap.size ∧ ∀ i, i < nl → w.cell? ⟨lb, off + i, none⟩ = some (Z i)

theorem open_bools {H : Type} {enc : TypeId × Value → H} {W : World} {fuel : Nat} {cs : List Value} {x : DataW H × List MemPlace}
    (h : DataW.trod enc Try.prog W 0 (fun _ => true) true fuel 67 cs = some x) :
    ∃ (la : Option Addr) (nl cl : Nat) (Z : Nat → Bool), cs = [.slice la nl cl] ∧ nl ≤ cl ∧ RowOf W la nl (fun i => .bool (Z i)) := by
  rcases Deep.open_slice Try.underlying67 h with ⟨hcs, _⟩ | ⟨a, len, cap, m, n, D, Pl, hcs, _, hl, hm, hmm, _, hx⟩
  · exact ⟨none, 0, 0, fun _ => false, hcs, Nat.le_refl _, .inl rfl⟩
  · by_cases h0 : len = 0
    · subst h0
      exact ⟨some a, 0, cap, fun _ => false, hcs, Nat.zero_le _, .inl rfl⟩
    have hmc : m = cap := by rw [hmm]; rfl
    subst hmc
    have each : ∀ i, i < len → ∃ q : Bool, W.cell? (a.add i) = some (.bool q) := by
      intro i hi
      obtain ⟨cs', h1, h2⟩ := hx i (by omega)
      rw [cellsBool] at h1
      obtain ⟨_, hlen, hcell⟩ := World.cells?_some h1
      obtain ⟨v0, rfl⟩ := ls1 hlen
      obtain ⟨q0, e0, _⟩ := DataW.trod_bool Try.underlying4 h2
      simp at e0
      subst e0
      have c0 := hcell 0 (by omega)
      rw [Deep.add_add] at c0
      exact ⟨q0, by simpa using c0⟩
    have : ∃ Z : Nat → Bool, ∀ i, i < len → W.cell? (a.add i) = some (.bool (Z i)) :=
      ⟨fun i => if hi : i < len then (each i hi).choose else false, fun i hi => by simp only [hi, dite_true]; exact (each i hi).choose_spec⟩
    obtain ⟨q, hq⟩ := this
    obtain ⟨b, off, spot⟩ := a
    have hspot : spot = none := by simpa [Addr.add] using World.cell?_spot (hq 0 (by omega))
    subst hspot
    refine ⟨_, len, m, q, hcs, hl, .inr ⟨b, off, rfl, ?_, fun i hi => ?_⟩⟩
    · have := hq 0 (by omega)
      rw [Go.WideShapes.add_plain] at this
      exact World.block_lt_of_cell? W _ this
    · have := hq i hi
      rw [Go.WideShapes.add_plain] at this
      exact this

theorem open_turns {H : Type} {enc : TypeId × Value → H} {W : World} {base : Nat} {v : Value} {d : DataW H} {p : List MemPlace}
    (hv : Value.okWide Try.prog W .any base 69 v) (h : DataW.Trod enc Try.prog W 0 (fun _ => true) true 69 v d p) :
    ∃ (x : Nat) (la : Option Addr) (nl cl : Nat) (Z : Nat → Bool), v = .agg #[.int .u64 (x : Nat), .slice la nl cl] ∧ Um.Word x ∧ nl ≤ cl ∧ RowOf W la nl (fun i => .bool (Z i)) := by
  obtain ⟨cs, rfl, hsz⟩ := okWide_struct Try.underlying69 hv
  obtain ⟨c0, c1, rfl⟩ := ar2 (hsz.trans cellsTurns)
  obtain ⟨fuel, hf⟩ := h
  obtain ⟨xs, n, _, _, hl, hlen, hx⟩ := DataW.trod_struct Try.underlying69 hf
  obtain ⟨y0, y1, rfl⟩ := ls2 hlen
  obtain ⟨r, e0, _, k0⟩ := DataW.trod_int Try.underlying22 (hx 0 _ rfl)
  obtain ⟨la, nl, cl, Z, e1, hnc, hZ⟩ := open_bools (hx 1 _ rfl)
  obtain ⟨r', rfl, w1⟩ := word_of k0
  simp [Value.cells, cellsWU, cellsBools] at e0 e1
  subst e0 e1
  exact ⟨r', la, nl, cl, Z, rfl, w1, hnc, hZ⟩

theorem open_play8 {H : Type} {enc : TypeId × Value → H} {W : World} {base : Nat} {v : Value} {d : DataW H} {p : List MemPlace}
    (hv : Value.okWide Try.prog W .any base 28 v) (h : DataW.Trod enc Try.prog W 0 (fun _ => true) true 28 v d p) :
    ∃ (x : Nat) (st : Int) (la : Option Addr) (nl cl : Nat) (Z : Nat → Pok), v = .agg #[.int .u64 (x : Nat), .int .i64 st, .slice la nl cl] ∧ Um.Word x ∧ nl ≤ cl ∧ PokesAt W la nl Z := by
  obtain ⟨cs, rfl, hsz⟩ := okWide_struct Try.underlying28 hv
  obtain ⟨c0, c1, c2, rfl⟩ := ar3 (hsz.trans cellsPlay8)
  obtain ⟨fuel, hf⟩ := h
  obtain ⟨xs, n, _, _, hl, hlen, hx⟩ := DataW.trod_struct Try.underlying28 hf
  obtain ⟨y0, y1, y2, rfl⟩ := ls3 hlen
  obtain ⟨r, e0, _, k0⟩ := DataW.trod_int Try.underlying22 (hx 0 _ rfl)
  obtain ⟨st, e1, _, _⟩ := DataW.trod_int Try.underlying3 (hx 1 _ rfl)
  obtain ⟨la, nl, cl, Z, e2, hnc, hZ⟩ := open_pokes (hx 2 _ rfl)
  obtain ⟨r', rfl, w1⟩ := word_of k0
  simp [Value.cells, cellsWI, cellsWU, cellsPokes] at e0 e1 e2
  subst e0 e1 e2
  exact ⟨r', st, la, nl, cl, Z, rfl, w1, hnc, hZ⟩

theorem open_row {H : Type} {enc : TypeId × Value → H} {W : World} {base : Nat} {v : Value} {d : DataW H} {p : List MemPlace}
    (hv : Value.okWide Try.prog W .any base 71 v) (h : DataW.Trod enc Try.prog W 0 (fun _ => true) true 71 v d p) :
    ∃ (la : Option Addr) (nl cl : Nat) (Z : Nat → Int), v = .slice la nl cl ∧ nl ≤ cl ∧ RowOf W la nl (fun i => .int .i64 (Z i)) := by
  obtain ⟨a0, len0, cap0, rfl⟩ := okWide_slice Try.underlying71 hv
  obtain ⟨fuel, hf⟩ := h
  rcases open_ints Try.underlying71 Try.underlying3 cellsWI hf with ⟨hcs, _⟩ | ⟨a, len, cap, zs, hcs, _, hl, hm, hz, _, hcell, hwf⟩
  · simp [Value.cells] at hcs
    obtain ⟨rfl, rfl, rfl⟩ := hcs
    exact ⟨_, 0, 0, fun _ => 0, rfl, Nat.le_refl _, .inl rfl⟩
  · simp [Value.cells] at hcs
    obtain ⟨rfl, rfl, rfl⟩ := hcs
    by_cases h0 : len0 = 0
    · subst h0
      exact ⟨_, 0, cap0, fun _ => 0, rfl, Nat.zero_le _, .inl rfl⟩
    have hzc : zs.length = cap0 := hz
    obtain ⟨b, off, rfl, hc⟩ := ints_at hcell (by omega)
    exact ⟨_, len0, cap0, fun j => zs.getD j 0, rfl, hl, .inr ⟨b, off, rfl, World.block_lt_of_cell? W _ (hc 0 (by omega)), fun j hj => hc j (by omega)⟩⟩

end Go.Proofs.Ytglmniciojemfaa

/-
  Plain arithmetic of layer 8: conflicts that are laid meanwhile. No Go in sight.
-/
namespace Um
set_option maxRecDepth 100000

theorem put_ws (c : Cf) (m : Mm) (a b : Int) (v i : Nat) : (mtouch c m 2 a b 0 v).ws i = if (i : Int) = c.cl a b then v else m.ws i := by
  unfold mtouch
  split
  · rename_i h
    show putW m.ws (c.cl a b).toNat (trn 2 0 v (m.ws (c.cl a b).toNat)) i = _
    by_cases e : i = (c.cl a b).toNat
    · subst e
      rw [putW_same, if_pos (by omega)]
      rfl
    · rw [putW_other e, if_neg (by omega)]
  · rename_i h
    rw [if_neg (by omega)]
    rfl

theorem with_bits (x : Nat) (a b : Int) (j : Nat) (hj : 24 ≤ j) : (withN x a b).testBit j = x.testBit j := by
  unfold withN
  split
  · rename_i h
    have := bitAt_lt h
    rw [testBit_setN, if_neg (by omega)]
  · rfl

theorem st_with (x : Nat) (a b : Int) : stN (withN x a b) = stN x := by
  apply Nat.eq_of_testBit_eq
  intro j
  unfold stN
  rw [testBit_part, testBit_part, with_bits _ _ _ _ (by omega)]

theorem with_ok (x : Nat) {a b : Int} (ho : okS a b = true) : withN x a b = setN x (bitAt a b) true := by
  unfold withN
  exact if_pos ho

theorem com_with (x : Nat) (a b : Int) : comN (withN x a b) = withN (comN x) a b := by
  unfold comN
  rw [with_bits x a b 26 (by decide)]
  cases ho : okS a b with
  | false => rw [with_bad x a b ho, with_bad _ a b ho]
  | true =>
    have hlt := bitAt_lt ho
    rw [with_ok _ ho, with_ok _ ho]
    generalize x.testBit 26 = q
    generalize bitAt a b = k at *
    apply Nat.eq_of_testBit_eq
    intro j
    rw [move_bits (by decide), testBit_setN, testBit_setN, move_bits (by decide)]
    by_cases h : k = j
    · subst h
      rw [if_pos rfl, if_pos rfl, if_neg (show ¬ k = 26 by omega), if_neg (show ¬ (27 ≤ k ∧ k < 30) by omega)]
    · rw [if_neg h, if_neg h]

/-- a help, while conflicts are laid to its transaction; W: what its status will be -/
structure Sid (c : Cf) (x W : Nat) (m : Mm) (nx s : Nat) : Prop where
  le : nx ≤ 4
  low : nx ≤ 2 → stN (m.ws (iS c x).toNat) = 3 ∧ comN (m.ws (iS c x).toNat) = W
  high : 3 ≤ nx → m.ws (iS c x).toNat = W
  n0 : nx = 0 → m.ws (iN c x).toNat = 0
  n1 : 1 ≤ nx → m.ws (iN c x).toNat = seqN x

theorem Sid.ws {c : Cf} {x W : Nat} {m m' : Mm} {nx s : Nat} (h : Sid c x W m nx s) (e : m'.ws = m.ws) : Sid c x W m' nx s :=
  ⟨h.le, fun q => by rw [e]; exact h.low q, fun q => by rw [e]; exact h.high q, fun q => by rw [e]; exact h.n0 q, fun q => by rw [e]; exact h.n1 q⟩

theorem Sid.lay {c : Cf} {x W : Nat} {m : Mm} {nx s : Nat} (hi : 0 < iS c x ∧ iN c x = iS c x + 2) {sl : Int} (hpen : penN x = sl) (h : Sid c x W m nx s) (a b : Int) (S : Nat) (hS : S = m.ws (iS c x).toNat) (m' : Mm) (hm : m' = mtouch c m 2 4 sl 0 (withN S a b)) : Sid c x (withN W a b) m' nx s := by
  have e1 : m'.ws (iS c x).toNat = withN S a b := by
    rw [hm, put_ws, if_pos]
    show _ = c.cl 4 sl
    rw [← hpen]
    show _ = iS c x
    omega
  have e2 : m'.ws (iN c x).toNat = m.ws (iN c x).toNat := by
    rw [hm, put_ws, if_neg]
    show ¬ _ = c.cl 4 sl
    rw [← hpen]
    show ¬ _ = iS c x
    omega
  refine ⟨h.le, fun q => ?_, fun q => ?_, fun q => ?_, fun q => ?_⟩
  · rw [e1, st_with, com_with, hS, (h.low q).2]
    exact ⟨(h.low q).1, rfl⟩
  · rw [e1, hS, h.high q]
  · rw [e2]; exact h.n0 q
  · rw [e2]; exact h.n1 q

theorem sid_step {c : Cf} (hr : c.r = true) {x W : Nat} (hi : 0 < iS c x ∧ iN c x = iS c x + 2) {h : Hs} (hd : Sid c x W h.m h.nx h.s) : Sid c x W (hstep c x h).m (hstep c x h).nx (hstep c x h).s := by
  obtain ⟨hi1, hi2⟩ := hi
  have eS : (((iS c x).toNat : Nat) : Int) = iS c x := by omega
  have eN : (((iN c x).toNat : Nat) : Int) = iN c x := by omega
  have c6 : c.cl 6 (penN x) = iN c x := rfl
  have c4 : c.cl 4 (penN x) = iS c x := rfl
  obtain ⟨m, nx, s⟩ := h
  dsimp only at hd
  match nx, hd.le with
  | 0, _ =>
    show Sid c x W (mtouch c m 3 6 (penN x) 0 (seqN x)) 1 s
    have q1 : (mtouch c m 3 6 (penN x) 0 (seqN x)).ws (iS c x).toNat = m.ws (iS c x).toNat := by rw [swap_ws, if_neg (by rintro ⟨q, _⟩; omega)]
    have q2 : (mtouch c m 3 6 (penN x) 0 (seqN x)).ws (iN c x).toNat = seqN x := by rw [swap_ws, if_pos ⟨by omega, hd.n0 rfl⟩]
    exact ⟨by decide, fun _ => by rw [q1]; exact hd.low (by decide), fun q => absurd q (by decide), (fun q => by cases q), fun _ => q2⟩
  | 1, _ =>
    have hws : (mtouch c m 1 4 (penN x) 0 0).ws = m.ws := load_ws c m 4 (penN x)
    have hold : (mtouch c m 1 4 (penN x) 0 0).l.old = m.ws (iS c x).toNat := by rw [load_old, c4, if_pos (by omega)]
    have h3 := hd.low (by decide)
    have e0 : hstep c x ⟨m, 1, s⟩ = ⟨mtouch c m 1 4 (penN x) 0 0, 2, m.ws (iS c x).toNat⟩ := by
      show (⟨_, if stN (mtouch c m 1 4 (penN x) 0 0).l.old = 3 then 2 else 3, (mtouch c m 1 4 (penN x) 0 0).l.old⟩ : Hs) = _
      rw [hold, if_pos h3.1]
    rw [e0]
    exact ⟨(show 2 ≤ 4 by decide), fun _ => by rw [hws]; exact h3, (fun q => absurd (show 3 ≤ 2 from q) (by decide)), (fun q => by cases q), fun _ => by rw [hws]; exact hd.n1 (by decide)⟩
  | 2, _ =>
    have hdn := swap_done c m 4 (penN x) s (comN s)
    rw [c4] at hdn
    have q2 : (mtouch c m 3 4 (penN x) s (comN s)).ws (iN c x).toNat = m.ws (iN c x).toNat := by rw [swap_ws, if_neg (by rintro ⟨q, _⟩; omega)]
    by_cases he : m.ws (iS c x).toNat = s
    · have q1 : (mtouch c m 3 4 (penN x) s (comN s)).ws (iS c x).toNat = W := by rw [swap_ws, if_pos ⟨by omega, he⟩, ← he]; exact (hd.low (by decide)).2
      rw [decide_eq_true (show _ from ⟨by omega, he⟩)] at hdn
      have e0 : hstep c x ⟨m, 2, s⟩ = ⟨mtouch c m 3 4 (penN x) s (comN s), 3, s⟩ := by
        show (⟨_, cond (mtouch c m 3 4 (penN x) s (comN s)).l.done 3 1, s⟩ : Hs) = _
        rw [hdn]
        rfl
      rw [e0]
      exact ⟨(show 3 ≤ 4 by decide), (fun q => absurd (show 3 ≤ 2 from q) (by decide)), fun _ => q1, (fun q => by cases q), fun _ => by rw [q2]; exact hd.n1 (by decide)⟩
    · have q1 : (mtouch c m 3 4 (penN x) s (comN s)).ws (iS c x).toNat = m.ws (iS c x).toNat := by rw [swap_ws, if_neg (by rintro ⟨_, q⟩; exact he q)]
      rw [decide_eq_false (by rintro ⟨_, q⟩; exact he q)] at hdn
      have e0 : hstep c x ⟨m, 2, s⟩ = ⟨mtouch c m 3 4 (penN x) s (comN s), 1, s⟩ := by
        show (⟨_, cond (mtouch c m 3 4 (penN x) s (comN s)).l.done 3 1, s⟩ : Hs) = _
        rw [hdn]
        rfl
      rw [e0]
      exact ⟨(show 1 ≤ 4 by decide), fun _ => by rw [q1]; exact hd.low (by decide), (fun q => absurd (show 3 ≤ 1 from q) (by decide)), (fun q => by cases q), fun _ => by rw [q2]; exact hd.n1 (by decide)⟩
  | 3, _ =>
    show Sid c x W (mtouch c m 3 1 0 x (setlN x)) 4 s
    have ct := cl_tally hr
    have q1 : (mtouch c m 3 1 0 x (setlN x)).ws (iS c x).toNat = m.ws (iS c x).toNat := by rw [swap_ws, if_neg (by rintro ⟨q, _⟩; omega)]
    have q2 : (mtouch c m 3 1 0 x (setlN x)).ws (iN c x).toNat = m.ws (iN c x).toNat := by rw [swap_ws, if_neg (by rintro ⟨q, _⟩; omega)]
    exact ⟨by decide, fun q => absurd q (by decide), fun _ => by rw [q1]; exact hd.high (by decide), (fun q => by cases q), fun _ => by rw [q2]; exact hd.n1 (by decide)⟩
  | 4, _ => exact hd

/-- how many steps are left at most, alone -/
def mu (c : Cf) (x : Nat) (h : Hs) : Nat :=
  if h.nx = 0 then 4 else if h.nx = 1 then 3 else if h.nx = 2 then (if h.m.ws (iS c x).toNat = h.s then 2 else 4) else if h.nx = 3 then 1 else 0

theorem mu_step {c : Cf} {x W : Nat} (hi : 0 < iS c x ∧ iN c x = iS c x + 2) {h : Hs} (hd : Sid c x W h.m h.nx h.s) (hn : h.nx ≠ 4) : mu c x (hstep c x h) < mu c x h := by
  obtain ⟨hi1, hi2⟩ := hi
  have c4 : c.cl 4 (penN x) = iS c x := rfl
  obtain ⟨m, nx, s⟩ := h
  dsimp only at hd hn
  match nx, hd.le with
  | 0, _ =>
    show (3 : Nat) < 4
    decide
  | 1, _ =>
    have hws : (mtouch c m 1 4 (penN x) 0 0).ws = m.ws := load_ws c m 4 (penN x)
    have hold : (mtouch c m 1 4 (penN x) 0 0).l.old = m.ws (iS c x).toNat := by rw [load_old, c4, if_pos (by omega)]
    have h3 := hd.low (by decide)
    have e0 : hstep c x ⟨m, 1, s⟩ = ⟨mtouch c m 1 4 (penN x) 0 0, 2, m.ws (iS c x).toNat⟩ := by
      show (⟨_, if stN (mtouch c m 1 4 (penN x) 0 0).l.old = 3 then 2 else 3, (mtouch c m 1 4 (penN x) 0 0).l.old⟩ : Hs) = _
      rw [hold, if_pos h3.1]
    rw [e0]
    show (if (mtouch c m 1 4 (penN x) 0 0).ws (iS c x).toNat = m.ws (iS c x).toNat then 2 else 4) < 3
    rw [if_pos (by rw [hws])]
    decide
  | 2, _ =>
    have hdn := swap_done c m 4 (penN x) s (comN s)
    rw [c4] at hdn
    by_cases he : m.ws (iS c x).toNat = s
    · rw [decide_eq_true (show _ from ⟨by omega, he⟩)] at hdn
      have e0 : hstep c x ⟨m, 2, s⟩ = ⟨mtouch c m 3 4 (penN x) s (comN s), 3, s⟩ := by
        show (⟨_, cond (mtouch c m 3 4 (penN x) s (comN s)).l.done 3 1, s⟩ : Hs) = _
        rw [hdn]
        rfl
      rw [e0]
      show (1 : Nat) < if m.ws (iS c x).toNat = s then 2 else 4
      rw [if_pos he]
      decide
    · rw [decide_eq_false (by rintro ⟨_, q⟩; exact he q)] at hdn
      have e0 : hstep c x ⟨m, 2, s⟩ = ⟨mtouch c m 3 4 (penN x) s (comN s), 1, s⟩ := by
        show (⟨_, cond (mtouch c m 3 4 (penN x) s (comN s)).l.done 3 1, s⟩ : Hs) = _
        rw [hdn]
        rfl
      rw [e0]
      show (3 : Nat) < if m.ws (iS c x).toNat = s then 2 else 4
      rw [if_neg he]
      decide
  | 3, _ =>
    show (0 : Nat) < 1
    decide
  | 4, _ => exact absurd rfl hn

theorem sid_ends {c : Cf} (hr : c.r = true) {x W : Nat} (hi : 0 < iS c x ∧ iN c x = iS c x + 2) {h : Hs} (hd : Sid c x W h.m h.nx h.s) {k : Nat} (hk : 5 ≤ k) (H : Hs) (hH : H = hit c x h k) : H.nx = 4 ∧ H.m.ws (iS c x).toNat = W ∧ H.m.ws (iN c x).toNat = seqN x := by
  have main : ∀ k, Sid c x W (hit c x h k).m (hit c x h k).nx (hit c x h k).s ∧ (mu c x (hit c x h k) + k ≤ mu c x h ∨ (hit c x h k).nx = 4) := by
    intro k
    induction k with
    | zero => exact ⟨hd, .inl (Nat.le_refl _)⟩
    | succ k ih =>
      obtain ⟨i1, i2⟩ := ih
      refine ⟨sid_step hr hi i1, ?_⟩
      by_cases hn : (hit c x h k).nx = 4
      · right
        show (hstep c x (hit c x h k)).nx = 4
        rw [hstep_4 hn]
        exact hn
      · rcases i2 with i2 | i2
        · have := mu_step hi i1 hn
          left
          show mu c x (hstep c x (hit c x h k)) + (k + 1) ≤ _
          omega
        · exact absurd i2 hn
  have hm4 : mu c x h ≤ 4 := by
    unfold mu
    (repeat' split) <;> omega
  obtain ⟨h1, h2⟩ := main k
  rw [← hH] at h1 h2
  have h4 : H.nx = 4 := by
    rcases h2 with h2 | h2
    · omega
    · exact h2
  exact ⟨h4, h1.high (by omega), h1.n1 (by omega)⟩

theorem sid_new {c : Cf} (hr : c.r = true) {x : Nat} (hi : 0 < iS c x ∧ iN c x = iS c x + 2) {sl : Int} (hpen : penN x = sl) (m1 m2 : Mm) (hm1 : m1 = mtouch c ⟨fun _ => 0, 0, noT⟩ 2 1 0 0 x) (hm2 : m2 = mtouch c m1 2 4 sl 0 402653184) : Sid c x 536870912 m2 0 0 := by
  obtain ⟨hi1, hi2⟩ := hi
  have c4 : c.cl 4 sl = iS c x := by rw [← hpen]; rfl
  have ct := cl_tally hr
  have e1 : m2.ws (iS c x).toNat = 402653184 := by rw [hm2, put_ws, if_pos (by omega)]
  have e2 : m2.ws (iN c x).toNat = 0 := by rw [hm2, put_ws, if_neg (by omega), hm1, put_ws, if_neg (by omega)]
  refine ⟨by decide, fun _ => ?_, fun q => absurd q (by decide), fun _ => e2, fun q => absurd q (by decide)⟩
  rw [e1]
  exact ⟨by decide +kernel, by decide +kernel⟩

end Um
