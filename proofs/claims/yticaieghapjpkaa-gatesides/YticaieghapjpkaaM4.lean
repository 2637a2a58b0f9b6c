/-
  Texts that the laws stand on, merged (HelpMath, HelpMath2, HelpMath3, HelpMath4, HelpMath5, TicketMath, OpenMath, OpenMath2, OpenMath3, OpenMath4, OpenMath5, OpenMath6).
-/
import Derived.Test.YticaieghapjpkaaM1
import Derived.Test.YticaieghapjpkaaM3

/-
  Plain arithmetic of layer 8: a commit that is noted. No Go in sight.
-/
namespace Um
set_option maxRecDepth 100000

/-- a status word's state -/
def stN (x : Nat) : Nat := part x 27 3

/-- a status word of the state Committed, busy as it was -/
def comN (x : Nat) : Nat := moveN x 4 (x.testBit 26)

/-- a help over a memory: the memory, its next step (4: it is done), what it looked at -/
structure Hs where
  m : Mm
  nx : Nat
  s : Nat

/-- a help's step -/
def hstep (c : Cf) (w : Nat) (h : Hs) : Hs :=
  if h.nx = 0 then ⟨mtouch c h.m 3 6 (penN w) 0 (seqN w), 1, h.s⟩
  else if h.nx = 1 then ⟨mtouch c h.m 1 4 (penN w) 0 0, if stN (mtouch c h.m 1 4 (penN w) 0 0).l.old = 3 then 2 else 3, (mtouch c h.m 1 4 (penN w) 0 0).l.old⟩
  else if h.nx = 2 then ⟨mtouch c h.m 3 4 (penN w) h.s (comN h.s), cond (mtouch c h.m 3 4 (penN w) h.s (comN h.s)).l.done 3 1, h.s⟩
  else if h.nx = 3 then ⟨mtouch c h.m 3 1 0 w (setlN w), 4, h.s⟩
  else h

/-- the first step of a word's help -/
def hfst (w : Nat) : Nat := if penN w < 0 then 4 else 0

theorem seq_isword {w : Nat} (h : Word w) : Word (seqN w) := by unfold Word at *; unfold seqN; omega

theorem com_word {x : Nat} (h : Word x) : Word (comN x) := move_word h (by decide)

theorem pen_bd (w : Nat) : -1 ≤ penN w ∧ penN w ≤ 14 := by unfold penN; omega

theorem hstep_words {c : Cf} {w : Nat} {h : Hs} (hw : Word w) (hs : Word h.s) (hm : ∀ i, i < c.n → Word (h.m.ws i)) : (∀ i, i < c.n → Word ((hstep c w h).m.ws i)) ∧ Word (hstep c w h).s := by
  unfold hstep
  split
  · exact ⟨word_touch hm (seq_isword hw), hs⟩
  split
  · exact ⟨word_touch hm (by unfold Word; omega), old_word hm⟩
  split
  · exact ⟨word_touch hm (com_word hs), hs⟩
  split
  · exact ⟨word_touch hm (setl_word hw), hs⟩
  · exact ⟨hm, hs⟩

theorem hstep_nx {c : Cf} {w : Nat} {h : Hs} (hn : h.nx ≤ 4) : (hstep c w h).nx ≤ 4 := by
  unfold hstep
  split
  · show 1 ≤ 4
    decide
  split
  · show (if _ then 2 else 3) ≤ 4
    split <;> decide
  split
  · show cond _ 3 1 ≤ 4
    cases (mtouch c h.m 3 4 (penN w) h.s (comN h.s)).l.done <;> decide
  split
  · show 4 ≤ 4
    decide
  · exact hn

end Um

/-
  Plain arithmetic of layer 8: however many help, each word is as it was, or as one leaves it. No Go in sight.
-/
namespace Um
set_option maxRecDepth 100000

theorem swap_ws (c : Cf) (m : Mm) (a b : Int) (o v i : Nat) : (mtouch c m 3 a b o v).ws i = if (i : Int) = c.cl a b ∧ m.ws i = o then v else m.ws i := by
  unfold mtouch
  split
  · rename_i h
    show putW m.ws (c.cl a b).toNat (trn 3 o v (m.ws (c.cl a b).toNat)) i = _
    by_cases e : i = (c.cl a b).toNat
    · subst e
      rw [putW_same]
      have e1 : (((c.cl a b).toNat : Nat) : Int) = c.cl a b := by omega
      simp [trn, e1]
    · rw [putW_other e, if_neg (by intro ⟨h1, _⟩; omega)]
  · rename_i h
    rw [if_neg (by intro ⟨h1, _⟩; omega)]
    rfl

theorem swap_done (c : Cf) (m : Mm) (a b : Int) (o v : Nat) : (mtouch c m 3 a b o v).l.done = decide (0 ≤ c.cl a b ∧ m.ws (c.cl a b).toNat = o) := by
  unfold mtouch
  split
  · rename_i h
    show trd 3 o (m.ws (c.cl a b).toNat) = _
    simp [trd, h]
    rfl
  · rename_i h
    simp [mmiss, h]

theorem load_old (c : Cf) (m : Mm) (a b : Int) : (mtouch c m 1 a b 0 0).l.old = if 0 ≤ c.cl a b then m.ws (c.cl a b).toNat else 0 := by
  unfold mtouch
  split <;> rfl

/-- the cells of a slot that is pending -/
def iS (c : Cf) (w : Nat) : Int := c.cl 4 (penN w)
def iN (c : Cf) (w : Nat) : Int := c.cl 6 (penN w)

theorem cl_tally {c : Cf} (h : c.r = true) : c.cl 1 0 = 0 := by simp [Cf.cl, cellN, h]

theorem i_facts {c : Cf} (h : c.r = true) (w : Nat) : (iS c w = -1 ∧ iN c w = -1) ∨ (0 < iS c w ∧ iN c w = iS c w + 2) := by
  have hb := c.rb h
  unfold iS iN Cf.cl cellN
  rw [h]
  simp only [if_true]
  by_cases hp : 0 ≤ penN w ∧ penN w < c.s
  · right
    simp [hp]
    omega
  · left
    have h1 : ¬ (0 ≤ penN w ∧ penN w < c.s) := hp
    simp
    omega

/-- what one leaves -/
def hgN (c : Cf) (w : Nat) (ws : Nat → Nat) (i : Nat) : Nat :=
  if i = 0 then (if ws 0 = w then setlN w else ws 0)
  else if (i : Int) = iN c w then (if ws i = 0 then seqN w else ws i)
  else if (i : Int) = iS c w then (if stN (ws i) = 3 then comN (ws i) else ws i)
  else ws i

theorem st_com (x : Nat) : stN (comN x) = 4 := (move_parts x 4 (x.testBit 26) (by decide)).2.1

/-- each word is as it was, or as one leaves it -/
def Mix (c : Cf) (w : Nat) (ws0 ws : Nat → Nat) : Prop := ∀ i, ws i = ws0 i ∨ ws i = hgN c w ws0 i

/-- what a help knows -/
structure Knows (c : Cf) (w : Nat) (ws0 ws : Nat → Nat) (h : Hs) : Prop where
  nx : h.nx ≤ 4
  num : 1 ≤ h.nx → 0 ≤ iN c w → ws (iN c w).toNat = hgN c w ws0 (iN c w).toNat
  lay : h.nx = 2 → 0 ≤ iS c w ∧ h.s = ws0 (iS c w).toNat ∧ stN (ws0 (iS c w).toNat) = 3
  set : 3 ≤ h.nx → 0 ≤ iS c w → ws (iS c w).toNat = hgN c w ws0 (iS c w).toNat
  tal : h.nx = 4 → ws 0 = hgN c w ws0 0

theorem tg_N {c : Cf} (hr : c.r = true) {w : Nat} {ws : Nat → Nat} {i : Nat} (h : (i : Int) = iN c w) : hgN c w ws i = if ws i = 0 then seqN w else ws i := by
  have := i_facts hr w
  unfold hgN
  rw [if_neg (by omega), if_pos h]

theorem tg_S {c : Cf} (hr : c.r = true) {w : Nat} {ws : Nat → Nat} {i : Nat} (h : (i : Int) = iS c w) : hgN c w ws i = if stN (ws i) = 3 then comN (ws i) else ws i := by
  have := i_facts hr w
  unfold hgN
  rw [if_neg (by omega), if_neg (by omega), if_pos h]

theorem tg_T (c : Cf) (w : Nat) (ws : Nat → Nat) : hgN c w ws 0 = if ws 0 = w then setlN w else ws 0 := by
  unfold hgN
  rw [if_pos rfl]

/-- a swap that, where it is done, lays what one leaves -/
theorem toward {c : Cf} {m : Mm} {a b : Int} {o v : Nat} {ws0 tg : Nat → Nat} (hm : ∀ i, m.ws i = ws0 i ∨ m.ws i = tg i) (hq : ∀ i : Nat, (i : Int) = c.cl a b → m.ws i = o → v = tg i) :
    (∀ i, (mtouch c m 3 a b o v).ws i = ws0 i ∨ (mtouch c m 3 a b o v).ws i = tg i) ∧ (∀ i, m.ws i = tg i → (mtouch c m 3 a b o v).ws i = tg i) := by
  refine ⟨fun i => ?_, fun i h => ?_⟩ <;> rw [swap_ws]
  · split
    · rename_i h
      exact .inr (hq i h.1 h.2)
    · exact hm i
  · split
    · rename_i h2
      exact hq i h2.1 h2.2
    · exact h

theorem Knows.keep {c : Cf} {w : Nat} {ws0 ws ws' : Nat → Nat} {h : Hs} (hK : Knows c w ws0 ws h) (hs : ∀ i, ws i = hgN c w ws0 i → ws' i = hgN c w ws0 i) : Knows c w ws0 ws' h :=
  ⟨hK.nx, fun h1 h2 => hs _ (hK.num h1 h2), hK.lay, fun h1 h2 => hs _ (hK.set h1 h2), fun h1 => hs _ (hK.tal h1)⟩

theorem know_step {c : Cf} (hr : c.r = true) {w : Nat} {ws0 : Nat → Nat} {h : Hs} (hM : Mix c w ws0 h.m.ws) (hK : Knows c w ws0 h.m.ws h) :
    Mix c w ws0 (hstep c w h).m.ws ∧ Knows c w ws0 (hstep c w h).m.ws (hstep c w h) ∧ (∀ i, h.m.ws i = hgN c w ws0 i → (hstep c w h).m.ws i = hgN c w ws0 i) := by
  have hi := i_facts hr w
  unfold hstep
  split
  · rename_i e0
    have hq : ∀ i : Nat, (i : Int) = c.cl 6 (penN w) → h.m.ws i = 0 → seqN w = hgN c w ws0 i := by
      intro i h1 h2
      rw [tg_N hr h1]
      rcases hM i with e | e
      · rw [if_pos (by omega)]
      · rw [tg_N hr h1] at e
        split
        · rfl
        · rename_i h3
          rw [if_neg h3] at e
          omega
    obtain ⟨m1, m2⟩ := toward (c := c) (a := 6) (b := penN w) (o := 0) (v := seqN w) hM hq
    refine ⟨m1, ⟨by show 1 ≤ 4; decide, fun _ hn => ?_, (fun h => by cases h), (fun h => absurd (show 3 ≤ 1 from h) (by decide)), (fun h => by cases h)⟩, m2⟩
    have e1 : (((iN c w).toNat : Nat) : Int) = iN c w := by omega
    show (mtouch c h.m 3 6 (penN w) 0 (seqN w)).ws (iN c w).toNat = _
    rw [swap_ws]
    split
    · rename_i h1
      exact hq _ h1.1 h1.2
    · rename_i h1
      have h2 : h.m.ws (iN c w).toNat ≠ 0 := fun e => h1 ⟨e1, e⟩
      rcases hM (iN c w).toNat with e | e
      · rw [tg_N hr e1, if_neg (by omega)]
        exact e
      · exact e
  split
  · rename_i e0 e1
    have hws : (mtouch c h.m 1 4 (penN w) 0 0).ws = h.m.ws := load_ws c h.m 4 (penN w)
    have hold : (mtouch c h.m 1 4 (penN w) 0 0).l.old = if 0 ≤ iS c w then h.m.ws (iS c w).toNat else 0 := load_old c h.m 4 (penN w)
    generalize (mtouch c h.m 1 4 (penN w) 0 0).l.old = old at hold ⊢
    dsimp only
    rw [hws]
    by_cases h3 : stN old = 3
    · rw [if_pos h3]
      refine ⟨hM, ⟨(show 2 ≤ 4 by decide), fun _ hn => hK.num (by omega) hn, fun _ => ?_, (fun h => absurd (show 3 ≤ 2 from h) (by decide)), (fun h => by cases h)⟩, fun i h => h⟩
      by_cases hp : 0 ≤ iS c w
      · rw [if_pos hp] at hold
        have e2 : (((iS c w).toNat : Nat) : Int) = iS c w := by omega
        rcases hM (iS c w).toNat with e | e
        · exact ⟨hp, hold.trans e, by rw [← e, ← hold]; exact h3⟩
        · exfalso
          rw [hold, e, tg_S hr e2] at h3
          split at h3
          · rw [st_com] at h3
            omega
          · omega
      · rw [if_neg hp] at hold
        rw [hold] at h3
        exact absurd h3 (by decide)
    · rw [if_neg h3]
      refine ⟨hM, ⟨(show 3 ≤ 4 by decide), fun _ hn => hK.num (by omega) hn, (fun h => by cases h), fun _ hp => ?_, (fun h => by cases h)⟩, fun i h => h⟩
      rw [if_pos hp] at hold
      have e2 : (((iS c w).toNat : Nat) : Int) = iS c w := by omega
      rcases hM (iS c w).toNat with e | e
      · rw [tg_S hr e2, if_neg (by rw [← e, ← hold]; exact h3)]
        exact e
      · exact e
  split
  · rename_i e0 e1 e2
    obtain ⟨hp, hs, h3⟩ := hK.lay e2
    have e3 : (((iS c w).toNat : Nat) : Int) = iS c w := by omega
    have hq : ∀ i : Nat, (i : Int) = c.cl 4 (penN w) → h.m.ws i = h.s → comN h.s = hgN c w ws0 i := by
      intro i h1 h2
      have : i = (iS c w).toNat := by
        have : (i : Int) = iS c w := h1
        omega
      subst this
      rw [tg_S hr e3, if_pos h3, hs]
    obtain ⟨m1, m2⟩ := toward (c := c) (a := 4) (b := penN w) (o := h.s) (v := comN h.s) hM hq
    have hd := swap_done c h.m 4 (penN w) h.s (comN h.s)
    refine ⟨m1, ⟨?_, fun _ hn => m2 _ (hK.num (by omega) hn), ?_, ?_, ?_⟩, m2⟩
    · show cond _ 3 1 ≤ 4
      cases (mtouch c h.m 3 4 (penN w) h.s (comN h.s)).l.done <;> decide
    · show cond _ 3 1 = 2 → _
      cases (mtouch c h.m 3 4 (penN w) h.s (comN h.s)).l.done <;> (intro h; cases h)
    · show 3 ≤ cond _ 3 1 → _
      intro hge hp2
      cases hd2 : (mtouch c h.m 3 4 (penN w) h.s (comN h.s)).l.done with
      | false => rw [hd2] at hge; exact absurd hge (by decide)
      | true =>
        rw [hd] at hd2
        have h4 := of_decide_eq_true hd2
        show (mtouch c h.m 3 4 (penN w) h.s (comN h.s)).ws (iS c w).toNat = _
        rw [swap_ws, if_pos ⟨e3, h4.2⟩]
        exact hq _ e3 h4.2
    · show cond _ 3 1 = 4 → _
      cases (mtouch c h.m 3 4 (penN w) h.s (comN h.s)).l.done <;> (intro h; cases h)
  split
  · rename_i e0 e1 e2 e3
    have hq : ∀ i : Nat, (i : Int) = c.cl 1 0 → h.m.ws i = w → setlN w = hgN c w ws0 i := by
      intro i h1 h2
      rw [cl_tally hr] at h1
      obtain rfl : i = 0 := by omega
      rw [tg_T]
      rcases hM 0 with e | e
      · rw [if_pos (by omega)]
      · rw [tg_T] at e
        split
        · rfl
        · rename_i h3
          rw [if_neg h3] at e
          omega
    obtain ⟨m1, m2⟩ := toward (c := c) (a := 1) (b := 0) (o := w) (v := setlN w) hM hq
    refine ⟨m1, ⟨by show 4 ≤ 4; decide, fun _ hn => m2 _ (hK.num (by omega) hn), (fun h => by cases h), fun _ hn => m2 _ (hK.set (by omega) hn), fun _ => ?_⟩, m2⟩
    show (mtouch c h.m 3 1 0 w (setlN w)).ws 0 = _
    rw [swap_ws]
    split
    · rename_i h1
      exact hq 0 h1.1 h1.2
    · rename_i h1
      have h2 : h.m.ws 0 ≠ w := fun e => h1 ⟨by rw [cl_tally hr]; rfl, e⟩
      rcases hM 0 with e | e
      · rw [tg_T, if_neg (by omega)]
        exact e
      · exact e
  · exact ⟨hM, hK, fun i h => h⟩

/-- so many steps -/
def hit (c : Cf) (w : Nat) (h : Hs) : Nat → Hs
  | 0 => h
  | k + 1 => hstep c w (hit c w h k)

/-- how many steps are left at most -/
def left (c : Cf) (w : Nat) (ws0 : Nat → Nat) (h : Hs) : Nat :=
  if h.nx = 0 then 6 else if h.nx = 1 then (if 0 ≤ iS c w ∧ h.m.ws (iS c w).toNat ≠ hgN c w ws0 (iS c w).toNat then 4 else 2) else if h.nx = 2 then 3 else if h.nx = 3 then 1 else 0

theorem left_step {c : Cf} (hr : c.r = true) {w : Nat} {ws0 : Nat → Nat} {h : Hs} (hM : Mix c w ws0 h.m.ws) (hK : Knows c w ws0 h.m.ws h) (hn : h.nx ≠ 4) : left c w ws0 (hstep c w h) < left c w ws0 h := by
  have hi := i_facts hr w
  have hK4 := hK.nx
  unfold hstep
  split
  · rename_i e0
    have : left c w ws0 h = 6 := by unfold left; rw [if_pos e0]
    rw [this]
    unfold left
    dsimp only
    (repeat' split) <;> omega
  split
  · rename_i e0 e1
    have hws : (mtouch c h.m 1 4 (penN w) 0 0).ws = h.m.ws := load_ws c h.m 4 (penN w)
    have hold : (mtouch c h.m 1 4 (penN w) 0 0).l.old = if 0 ≤ iS c w then h.m.ws (iS c w).toNat else 0 := load_old c h.m 4 (penN w)
    rw [hold]
    by_cases hp : 0 ≤ iS c w ∧ h.m.ws (iS c w).toNat ≠ hgN c w ws0 (iS c w).toNat
    · have : left c w ws0 h = 4 := by unfold left; rw [if_neg e0, if_pos e1, if_pos hp]
      rw [this]
      unfold left
      dsimp only
      (repeat' split) <;> omega
    · have : left c w ws0 h = 2 := by unfold left; rw [if_neg e0, if_pos e1, if_neg hp]
      rw [this]
      have h3 : ¬ stN (if 0 ≤ iS c w then h.m.ws (iS c w).toNat else 0) = 3 := by
        by_cases h0 : 0 ≤ iS c w
        · rw [if_pos h0]
          have e2 : (((iS c w).toNat : Nat) : Int) = iS c w := by omega
          have e : h.m.ws (iS c w).toNat = hgN c w ws0 (iS c w).toNat := by
            rcases Decidable.em (h.m.ws (iS c w).toNat = hgN c w ws0 (iS c w).toNat) with e | e
            · exact e
            · exact absurd ⟨h0, e⟩ hp
          rw [e, tg_S hr e2]
          split
          · rw [st_com]; omega
          · omega
        · rw [if_neg h0]
          decide
      rw [if_neg h3]
      show (1 : Nat) < 2
      decide
  split
  · rename_i e0 e1 e2
    obtain ⟨hp, hs, h3⟩ := hK.lay e2
    have e3 : (((iS c w).toNat : Nat) : Int) = iS c w := by omega
    have : left c w ws0 h = 3 := by unfold left; rw [if_neg e0, if_neg e1, if_pos e2]
    rw [this]
    have hd := swap_done c h.m 4 (penN w) h.s (comN h.s)
    cases hd2 : (mtouch c h.m 3 4 (penN w) h.s (comN h.s)).l.done with
    | true =>
      show (1 : Nat) < 3
      decide
    | false =>
      rw [hd] at hd2
      have h4 := of_decide_eq_false hd2
      have h5 : h.m.ws (iS c w).toNat ≠ h.s := fun e => h4 ⟨hp, e⟩
      have h6 : h.m.ws (iS c w).toNat = hgN c w ws0 (iS c w).toNat := by
        rcases hM (iS c w).toNat with e | e
        · rw [hs] at h5; exact absurd e h5
        · exact e
      have h7 : (mtouch c h.m 3 4 (penN w) h.s (comN h.s)).ws (iS c w).toNat = hgN c w ws0 (iS c w).toNat := by
        rw [swap_ws, if_neg (fun e => h5 e.2)]
        exact h6
      unfold left
      dsimp only [cond_false]
      rw [if_neg (by decide), if_pos rfl, if_neg (fun e => e.2 h7)]
      decide
  split
  · rename_i e0 e1 e2 e3
    have : left c w ws0 h = 1 := by unfold left; rw [if_neg e0, if_neg e1, if_neg e2, if_pos e3]
    rw [this]
    show (0 : Nat) < 1
    decide
  · omega

/-- where a help is done, and each word is as it was or as one leaves it, each is as one leaves it -/
theorem know_end {c : Cf} (hr : c.r = true) {w : Nat} {ws0 : Nat → Nat} {h : Hs} (hM : Mix c w ws0 h.m.ws) (hK : Knows c w ws0 h.m.ws h) (hn : h.nx = 4) : ∀ i, h.m.ws i = hgN c w ws0 i := by
  have hi := i_facts hr w
  intro i
  by_cases e0 : i = 0
  · subst e0; exact hK.tal hn
  by_cases e1 : (i : Int) = iN c w
  · have := hK.num (by omega) (by omega)
    rw [show (iN c w).toNat = i by omega] at this
    exact this
  by_cases e2 : (i : Int) = iS c w
  · have := hK.set (by omega) (by omega)
    rw [show (iS c w).toNat = i by omega] at this
    exact this
  rcases hM i with e | e
  · rw [e]; unfold hgN; rw [if_neg e0, if_neg e1, if_neg e2]
  · exact e

end Um

/-
  Plain arithmetic of layer 8: a help to its end. No Go in sight.
-/
namespace Um
set_option maxRecDepth 100000

theorem hstep_4 {c : Cf} {w : Nat} {h : Hs} (hn : h.nx = 4) : hstep c w h = h := by
  unfold hstep
  rw [if_neg (by omega), if_neg (by omega), if_neg (by omega), if_neg (by omega)]

theorem hit_done {c : Cf} {w : Nat} {h : Hs} {q : Nat} (hn : (hit c w h q).nx = 4) {k : Nat} (hk : q ≤ k) : hit c w h k = hit c w h q := by
  obtain ⟨d, rfl⟩ : ∃ d, k = q + d := ⟨k - q, by omega⟩
  clear hk
  induction d with
  | zero => rfl
  | succ d ih =>
    show hstep c w (hit c w h (q + d)) = _
    rw [ih]
    exact hstep_4 hn

theorem hit_mix {c : Cf} (hr : c.r = true) {w : Nat} {ws0 : Nat → Nat} {h : Hs} (hM : Mix c w ws0 h.m.ws) (hK : Knows c w ws0 h.m.ws h) (k : Nat) :
    Mix c w ws0 (hit c w h k).m.ws ∧ Knows c w ws0 (hit c w h k).m.ws (hit c w h k) ∧ (∀ i, h.m.ws i = hgN c w ws0 i → (hit c w h k).m.ws i = hgN c w ws0 i) ∧ (left c w ws0 (hit c w h k) + k ≤ left c w ws0 h ∨ (hit c w h k).nx = 4) := by
  induction k with
  | zero => exact ⟨hM, hK, fun i h => h, .inl (Nat.le_refl _)⟩
  | succ k ih =>
    obtain ⟨h1, h2, h3, h4⟩ := ih
    obtain ⟨s1, s2, s3⟩ := know_step hr h1 h2
    refine ⟨s1, s2, fun i e => s3 i (h3 i e), ?_⟩
    by_cases hn : (hit c w h k).nx = 4
    · right
      show (hstep c w (hit c w h k)).nx = 4
      rw [hstep_4 hn]
      exact hn
    · rcases h4 with h4 | h4
      · have := left_step hr h1 h2 hn
        left
        show left c w ws0 (hstep c w (hit c w h k)) + (k + 1) ≤ _
        omega
      · exact absurd h4 hn

theorem left_le (c : Cf) (w : Nat) (ws0 : Nat → Nat) (h : Hs) : left c w ws0 h ≤ 6 := by
  unfold left
  (repeat' split) <;> omega

/-- each ends, and all words are as one leaves them -/
theorem hit_ends {c : Cf} (hr : c.r = true) {w : Nat} {ws0 : Nat → Nat} {h : Hs} (hM : Mix c w ws0 h.m.ws) (hK : Knows c w ws0 h.m.ws h) {k : Nat} (hk : 7 ≤ k) :
    (hit c w h k).nx = 4 ∧ ∀ i, (hit c w h k).m.ws i = hgN c w ws0 i := by
  obtain ⟨h1, h2, _, h4⟩ := hit_mix hr hM hK k
  have h5 : (hit c w h k).nx = 4 := by
    rcases h4 with h4 | h4
    · have := left_le c w ws0 h
      omega
    · exact h4
  exact ⟨h5, know_end hr h1 h2 h5⟩

theorem mix_refl (c : Cf) (w : Nat) (ws : Nat → Nat) : Mix c w ws ws := fun _ => .inl rfl

theorem knows_new {c : Cf} (hr : c.r = true) (w : Nat) (m : Mm) (s : Nat) : Knows c w m.ws m.ws ⟨m, hfst w, s⟩ := by
  have hi := i_facts hr w
  unfold hfst
  by_cases hp : penN w < 0
  · rw [if_pos hp]
    have hz : w % 16 = 0 := by unfold penN at hp; omega
    have hneg : iN c w = -1 ∧ iS c w = -1 := by
      unfold iN iS Cf.cl cellN
      rw [hr]
      have : ¬ (0 ≤ penN w ∧ penN w < c.s) := by omega
      simp
      omega
    refine ⟨(show 4 ≤ 4 by decide), fun _ h => by omega, (fun h => by cases h), fun _ h => by omega, fun _ => ?_⟩
    rw [tg_T]
    split
    · rename_i e
      rw [e]
      unfold setlN
      omega
    · rfl
  · rw [if_neg hp]
    exact ⟨(show 0 ≤ 4 by decide), (fun h => absurd (show 1 ≤ 0 from h) (by decide)), (fun h => by cases h), (fun h => absurd (show 3 ≤ 0 from h) (by decide)), (fun h => by cases h)⟩

/-- whose words one changes -/
theorem only8 {c : Cf} (hr : c.r = true) {x : Nat} {ws : Nat → Nat} {j : Nat} (hne : hgN c x ws j ≠ ws j) :
    (atK c.r c.t c.s c.k (j : Int) = 1 ∧ atO c.r c.t c.s c.k (j : Int) = 0) ∨ (0 ≤ penN x ∧ (atK c.r c.t c.s c.k (j : Int) = 4 ∨ atK c.r c.t c.s c.k (j : Int) = 6) ∧ atO c.r c.t c.s c.k (j : Int) = penN x) := by
  have hi := i_facts hr x
  have hp : 0 ≤ iS c x → 0 ≤ penN x := by
    unfold iS Cf.cl cellN
    rw [hr]
    intro h
    by_cases hq : 0 ≤ penN x
    · exact hq
    · exfalso
      simp [hq] at h
  unfold hgN at hne
  split at hne
  · rename_i e
    have h := cell_at (a := 1) (b := 0) c.rb (show 0 ≤ c.cl 1 0 by rw [cl_tally hr]; decide)
    left
    rw [show (j : Int) = cellN c.r c.t c.s c.k 1 0 from by rw [e]; exact (cl_tally hr).symm]
    exact h.2
  split at hne
  · rename_i e1 e
    have h := cell_at (a := 6) (b := penN x) c.rb (show 0 ≤ iN c x by omega)
    right
    rw [show (j : Int) = cellN c.r c.t c.s c.k 6 (penN x) from e]
    exact ⟨hp (by omega), .inr h.2.1, h.2.2⟩
  split at hne
  · rename_i e1 e2 e
    have h := cell_at (a := 4) (b := penN x) c.rb (show 0 ≤ iS c x by omega)
    right
    rw [show (j : Int) = cellN c.r c.t c.s c.k 4 (penN x) from e]
    exact ⟨hp (by omega), .inl h.2.1, h.2.2⟩
  · exact absurd rfl hne

/-- late: nothing is changed -/
theorem late8 {c : Cf} {x : Nat} {ws : Nat → Nat} (h0 : ws 0 ≠ x) (hs : stN (ws (iS c x).toNat) ≠ 3) (hn : ws (iN c x).toNat ≠ 0) (j : Nat) : hgN c x ws j = ws j := by
  unfold hgN
  split
  · rename_i e
    subst e
    rfl
  split
  · rename_i e1 e
    rw [show (iN c x).toNat = j by omega] at hn
    rw [if_neg hn]
  split
  · rename_i e1 e2 e
    rw [show (iS c x).toNat = j by omega] at hs
    rw [if_neg hs]
  · rfl

theorem iS_pos {c : Cf} (hr : c.r = true) {x : Nat} (hp0 : 0 ≤ penN x) (hp1 : penN x < c.s) : 0 < iS c x ∧ iN c x = iS c x + 2 := by
  rcases i_facts hr x with h | h
  · exfalso
    have hb := c.rb hr
    have := h.1
    unfold iS Cf.cl cellN at this
    rw [hr] at this
    simp [hp0, hp1] at this
    omega
  · exact h

/-- alone: four steps -/
theorem alone4 {c : Cf} (w : Nat) (m : Mm) (s : Nat) (hp : 0 ≤ penN w) : (hit c w ⟨m, hfst w, s⟩ 4).nx = 4 := by
  have e0 : hfst w = 0 := by unfold hfst; rw [if_neg (by omega)]
  rw [e0]
  have e1 : hit c w ⟨m, 0, s⟩ 1 = ⟨mtouch c m 3 6 (penN w) 0 (seqN w), 1, s⟩ := rfl
  generalize mtouch c m 3 6 (penN w) 0 (seqN w) = m1 at e1
  have hws : (mtouch c m1 1 4 (penN w) 0 0).ws = m1.ws := load_ws c m1 4 (penN w)
  have hold := load_old c m1 4 (penN w)
  have e2 : hit c w ⟨m, 0, s⟩ 2 = ⟨mtouch c m1 1 4 (penN w) 0 0, if stN (mtouch c m1 1 4 (penN w) 0 0).l.old = 3 then 2 else 3, (mtouch c m1 1 4 (penN w) 0 0).l.old⟩ := by
    show hstep c w (hit c w ⟨m, 0, s⟩ 1) = _
    rw [e1]
    rfl
  generalize mtouch c m1 1 4 (penN w) 0 0 = m2 at *
  have e4 : hit c w ⟨m, 0, s⟩ 4 = hstep c w (hstep c w (hit c w ⟨m, 0, s⟩ 2)) := rfl
  by_cases h3 : stN m2.l.old = 3
  · rw [if_pos h3] at e2
    have hc : 0 ≤ c.cl 4 (penN w) := by
      rcases Decidable.em (0 ≤ c.cl 4 (penN w)) with h | h
      · exact h
      · rw [if_neg h] at hold
        rw [hold] at h3
        exact absurd h3 (by decide)
    rw [if_pos hc] at hold
    have hd : (mtouch c m2 3 4 (penN w) m2.l.old (comN m2.l.old)).l.done = true := by
      rw [swap_done]
      exact decide_eq_true ⟨hc, by rw [hws, hold]⟩
    have e3 : hstep c w (hit c w ⟨m, 0, s⟩ 2) = ⟨mtouch c m2 3 4 (penN w) m2.l.old (comN m2.l.old), 3, m2.l.old⟩ := by
      rw [e2]
      show (⟨mtouch c m2 3 4 (penN w) m2.l.old (comN m2.l.old), cond (mtouch c m2 3 4 (penN w) m2.l.old (comN m2.l.old)).l.done 3 1, m2.l.old⟩ : Hs) = _
      rw [hd]
      rfl
    rw [e4, e3]
    rfl
  · rw [if_neg h3] at e2
    have e3 : (hstep c w (hit c w ⟨m, 0, s⟩ 2)).nx = 4 := by rw [e2]; rfl
    rw [e4, hstep_4 e3]
    exact e3

end Um

/-
  Plain arithmetic of layer 8: alone, of the Tally's own word. No Go in sight.
-/
namespace Um
set_option maxRecDepth 100000

theorem alone_math {c : Cf} (hr : c.r = true) (m0 : Mm) (sl : Int) (hp0 : 0 ≤ sl) (hp1 : sl < c.s) (h60 : m0.ws 0 < 1152921504606846976) (hw : ∀ i, i < c.n → Word (m0.ws i))
    (x : Nat) (hx : x = m0.ws 0 / 16 * 16 + sl.toNat + 1) (ms : Mm) (hms : ms = mtouch c m0 2 1 0 0 x) (m1 : Mm) (hm1 : m1 = mtouch c ms 1 4 sl 0 0) (m2 : Mm) (hm2 : m2 = mtouch c m1 1 6 sl 0 0) (H : Hs) (hH : H = hit c x ⟨m2, hfst x, 0⟩ 20)
    (m3 : Mm) (hm3 : m3 = mtouch c H.m 1 4 sl 0 0) (m4 : Mm) (hm4 : m4 = mtouch c m3 1 6 sl 0 0) (m5 : Mm) (hm5 : m5 = mtouch c m4 1 1 0 0 0) :
    Word x ∧ Word m1.l.old ∧ (hit c x ⟨m2, hfst x, 0⟩ 4).nx = 4 ∧ H.nx = 4 ∧ m3.l.old = (if stN m1.l.old = 3 then comN m1.l.old else m1.l.old) ∧ m4.l.old = (if m2.l.old = 0 then seqN x else m2.l.old) ∧ m5.l.old = setlN x := by
  have hb := c.rb hr
  have hpen : penN x = sl := by unfold penN; omega
  have hxw : Word x := by unfold Word; omega
  obtain ⟨hi1, hi2⟩ := iS_pos hr (x := x) (by omega) (by omega)
  have hS : iS c x = c.cl 4 sl := by unfold iS; rw [hpen]
  have hN : iN c x = c.cl 6 sl := by unfold iN; rw [hpen]
  have hs0 : ms.ws 0 = x := by
    rw [hms, touch_hit (p := 0) (cl_tally hr)]
    show putW m0.ws 0 (trn 2 0 x (m0.ws 0)) 0 = x
    rw [putW_same]
    rfl
  have hw1 : m1.ws = ms.ws := by rw [hm1]; exact load_ws c ms 4 sl
  have hw2 : m2.ws = ms.ws := by rw [hm2]; exact (load_ws c m1 6 sl).trans hw1
  have hw3 : m3.ws = H.m.ws := by rw [hm3]; exact load_ws c H.m 4 sl
  have hw4 : m4.ws = H.m.ws := by rw [hm4]; exact (load_ws c m3 6 sl).trans hw3
  have hE := hit_ends hr (h := ⟨m2, hfst x, 0⟩) (mix_refl c x m2.ws) (knows_new hr x m2 0) (k := 20) (by decide)
  rw [← hH, hw2] at hE
  have ho1 : m1.l.old = ms.ws (iS c x).toNat := by rw [hm1, load_old, ← hS, if_pos (by omega)]
  have ho2 : m2.l.old = ms.ws (iN c x).toNat := by rw [hm2, load_old, ← hN, if_pos (by omega), hw1]
  have ho3 : m3.l.old = H.m.ws (iS c x).toNat := by rw [hm3, load_old, ← hS, if_pos (by omega)]
  have ho4 : m4.l.old = H.m.ws (iN c x).toNat := by rw [hm4, load_old, ← hN, if_pos (by omega), hw3]
  have ho5 : m5.l.old = H.m.ws 0 := by rw [hm5, load_old, cl_tally hr, if_pos (by decide), hw4]; rfl
  refine ⟨hxw, ?_, alone4 x m2 0 (by omega), hE.1, ?_, ?_, ?_⟩
  · rw [hm1]
    exact old_word (by rw [hms]; exact word_touch hw hxw)
  · rw [ho3, hE.2, tg_S hr (by omega), ho1]
  · rw [ho4, hE.2, tg_N hr (by omega), ho2]
  · rw [ho5, hE.2, tg_T, if_pos hs0]

end Um

/-
  Plain arithmetic of layer 8: conflicts that are laid meanwhile. No Go in sight.
-/
namespace Um
set_option maxRecDepth 100000

theorem put_ws (c : Cf) (m : Mm) (a b : Int) (v i : Nat) : (mtouch c m 2 a b 0 v).ws i = if (i : Int) = c.cl a b then v else m.ws i := by
  unfold mtouch
  split
  · rename_i h
    show putW m.ws (c.cl a b).toNat (trn 2 0 v (m.ws (c.cl a b).toNat)) i = _
    by_cases e : i = (c.cl a b).toNat
    · subst e
      rw [putW_same, if_pos (by omega)]
      rfl
    · rw [putW_other e, if_neg (by omega)]
  · rename_i h
    rw [if_neg (by omega)]
    rfl

theorem with_bits (x : Nat) (a b : Int) (j : Nat) (hj : 24 ≤ j) : (withN x a b).testBit j = x.testBit j := by
  unfold withN
  split
  · rename_i h
    have := bitAt_lt h
    rw [testBit_setN, if_neg (by omega)]
  · rfl

theorem st_with (x : Nat) (a b : Int) : stN (withN x a b) = stN x := by
  apply Nat.eq_of_testBit_eq
  intro j
  unfold stN
  rw [testBit_part, testBit_part, with_bits _ _ _ _ (by omega)]

theorem with_ok (x : Nat) {a b : Int} (ho : okS a b = true) : withN x a b = setN x (bitAt a b) true := by
  unfold withN
  exact if_pos ho

theorem com_with (x : Nat) (a b : Int) : comN (withN x a b) = withN (comN x) a b := by
  unfold comN
  rw [with_bits x a b 26 (by decide)]
  cases ho : okS a b with
  | false => rw [with_bad x a b ho, with_bad _ a b ho]
  | true =>
    have hlt := bitAt_lt ho
    rw [with_ok _ ho, with_ok _ ho]
    generalize x.testBit 26 = q
    generalize bitAt a b = k at *
    apply Nat.eq_of_testBit_eq
    intro j
    rw [move_bits (by decide), testBit_setN, testBit_setN, move_bits (by decide)]
    by_cases h : k = j
    · subst h
      rw [if_pos rfl, if_pos rfl, if_neg (show ¬ k = 26 by omega), if_neg (show ¬ (27 ≤ k ∧ k < 30) by omega)]
    · rw [if_neg h, if_neg h]

/-- a help, while conflicts are laid to its transaction; W: what its status will be -/
structure Sid (c : Cf) (x W : Nat) (m : Mm) (nx s : Nat) : Prop where
  le : nx ≤ 4
  low : nx ≤ 2 → stN (m.ws (iS c x).toNat) = 3 ∧ comN (m.ws (iS c x).toNat) = W
  high : 3 ≤ nx → m.ws (iS c x).toNat = W
  n0 : nx = 0 → m.ws (iN c x).toNat = 0
  n1 : 1 ≤ nx → m.ws (iN c x).toNat = seqN x

theorem Sid.ws {c : Cf} {x W : Nat} {m m' : Mm} {nx s : Nat} (h : Sid c x W m nx s) (e : m'.ws = m.ws) : Sid c x W m' nx s :=
  ⟨h.le, fun q => by rw [e]; exact h.low q, fun q => by rw [e]; exact h.high q, fun q => by rw [e]; exact h.n0 q, fun q => by rw [e]; exact h.n1 q⟩

theorem Sid.lay {c : Cf} {x W : Nat} {m : Mm} {nx s : Nat} (hi : 0 < iS c x ∧ iN c x = iS c x + 2) {sl : Int} (hpen : penN x = sl) (h : Sid c x W m nx s) (a b : Int) (S : Nat) (hS : S = m.ws (iS c x).toNat) (m' : Mm) (hm : m' = mtouch c m 2 4 sl 0 (withN S a b)) : Sid c x (withN W a b) m' nx s := by
  have e1 : m'.ws (iS c x).toNat = withN S a b := by
    rw [hm, put_ws, if_pos]
    show _ = c.cl 4 sl
    rw [← hpen]
    show _ = iS c x
    omega
  have e2 : m'.ws (iN c x).toNat = m.ws (iN c x).toNat := by
    rw [hm, put_ws, if_neg]
    show ¬ _ = c.cl 4 sl
    rw [← hpen]
    show ¬ _ = iS c x
    omega
  refine ⟨h.le, fun q => ?_, fun q => ?_, fun q => ?_, fun q => ?_⟩
  · rw [e1, st_with, com_with, hS, (h.low q).2]
    exact ⟨(h.low q).1, rfl⟩
  · rw [e1, hS, h.high q]
  · rw [e2]; exact h.n0 q
  · rw [e2]; exact h.n1 q

theorem sid_step {c : Cf} (hr : c.r = true) {x W : Nat} (hi : 0 < iS c x ∧ iN c x = iS c x + 2) {h : Hs} (hd : Sid c x W h.m h.nx h.s) : Sid c x W (hstep c x h).m (hstep c x h).nx (hstep c x h).s := by
  obtain ⟨hi1, hi2⟩ := hi
  have eS : (((iS c x).toNat : Nat) : Int) = iS c x := by omega
  have eN : (((iN c x).toNat : Nat) : Int) = iN c x := by omega
  have c6 : c.cl 6 (penN x) = iN c x := rfl
  have c4 : c.cl 4 (penN x) = iS c x := rfl
  obtain ⟨m, nx, s⟩ := h
  dsimp only at hd
  match nx, hd.le with
  | 0, _ =>
    show Sid c x W (mtouch c m 3 6 (penN x) 0 (seqN x)) 1 s
    have q1 : (mtouch c m 3 6 (penN x) 0 (seqN x)).ws (iS c x).toNat = m.ws (iS c x).toNat := by rw [swap_ws, if_neg (by rintro ⟨q, _⟩; omega)]
    have q2 : (mtouch c m 3 6 (penN x) 0 (seqN x)).ws (iN c x).toNat = seqN x := by rw [swap_ws, if_pos ⟨by omega, hd.n0 rfl⟩]
    exact ⟨by decide, fun _ => by rw [q1]; exact hd.low (by decide), fun q => absurd q (by decide), (fun q => by cases q), fun _ => q2⟩
  | 1, _ =>
    have hws : (mtouch c m 1 4 (penN x) 0 0).ws = m.ws := load_ws c m 4 (penN x)
    have hold : (mtouch c m 1 4 (penN x) 0 0).l.old = m.ws (iS c x).toNat := by rw [load_old, c4, if_pos (by omega)]
    have h3 := hd.low (by decide)
    have e0 : hstep c x ⟨m, 1, s⟩ = ⟨mtouch c m 1 4 (penN x) 0 0, 2, m.ws (iS c x).toNat⟩ := by
      show (⟨_, if stN (mtouch c m 1 4 (penN x) 0 0).l.old = 3 then 2 else 3, (mtouch c m 1 4 (penN x) 0 0).l.old⟩ : Hs) = _
      rw [hold, if_pos h3.1]
    rw [e0]
    exact ⟨(show 2 ≤ 4 by decide), fun _ => by rw [hws]; exact h3, (fun q => absurd (show 3 ≤ 2 from q) (by decide)), (fun q => by cases q), fun _ => by rw [hws]; exact hd.n1 (by decide)⟩
  | 2, _ =>
    have hdn := swap_done c m 4 (penN x) s (comN s)
    rw [c4] at hdn
    have q2 : (mtouch c m 3 4 (penN x) s (comN s)).ws (iN c x).toNat = m.ws (iN c x).toNat := by rw [swap_ws, if_neg (by rintro ⟨q, _⟩; omega)]
    by_cases he : m.ws (iS c x).toNat = s
    · have q1 : (mtouch c m 3 4 (penN x) s (comN s)).ws (iS c x).toNat = W := by rw [swap_ws, if_pos ⟨by omega, he⟩, ← he]; exact (hd.low (by decide)).2
      rw [decide_eq_true (show _ from ⟨by omega, he⟩)] at hdn
      have e0 : hstep c x ⟨m, 2, s⟩ = ⟨mtouch c m 3 4 (penN x) s (comN s), 3, s⟩ := by
        show (⟨_, cond (mtouch c m 3 4 (penN x) s (comN s)).l.done 3 1, s⟩ : Hs) = _
        rw [hdn]
        rfl
      rw [e0]
      exact ⟨(show 3 ≤ 4 by decide), (fun q => absurd (show 3 ≤ 2 from q) (by decide)), fun _ => q1, (fun q => by cases q), fun _ => by rw [q2]; exact hd.n1 (by decide)⟩
    · have q1 : (mtouch c m 3 4 (penN x) s (comN s)).ws (iS c x).toNat = m.ws (iS c x).toNat := by rw [swap_ws, if_neg (by rintro ⟨_, q⟩; exact he q)]
      rw [decide_eq_false (by rintro ⟨_, q⟩; exact he q)] at hdn
      have e0 : hstep c x ⟨m, 2, s⟩ = ⟨mtouch c m 3 4 (penN x) s (comN s), 1, s⟩ := by
        show (⟨_, cond (mtouch c m 3 4 (penN x) s (comN s)).l.done 3 1, s⟩ : Hs) = _
        rw [hdn]
        rfl
      rw [e0]
      exact ⟨(show 1 ≤ 4 by decide), fun _ => by rw [q1]; exact hd.low (by decide), (fun q => absurd (show 3 ≤ 1 from q) (by decide)), (fun q => by cases q), fun _ => by rw [q2]; exact hd.n1 (by decide)⟩
  | 3, _ =>
    show Sid c x W (mtouch c m 3 1 0 x (setlN x)) 4 s
    have ct := cl_tally hr
    have q1 : (mtouch c m 3 1 0 x (setlN x)).ws (iS c x).toNat = m.ws (iS c x).toNat := by rw [swap_ws, if_neg (by rintro ⟨q, _⟩; omega)]
    have q2 : (mtouch c m 3 1 0 x (setlN x)).ws (iN c x).toNat = m.ws (iN c x).toNat := by rw [swap_ws, if_neg (by rintro ⟨q, _⟩; omega)]
    exact ⟨by decide, fun q => absurd q (by decide), fun _ => by rw [q1]; exact hd.high (by decide), (fun q => by cases q), fun _ => by rw [q2]; exact hd.n1 (by decide)⟩
  | 4, _ => exact hd

/-- how many steps are left at most, alone -/
def mu (c : Cf) (x : Nat) (h : Hs) : Nat :=
  if h.nx = 0 then 4 else if h.nx = 1 then 3 else if h.nx = 2 then (if h.m.ws (iS c x).toNat = h.s then 2 else 4) else if h.nx = 3 then 1 else 0

theorem mu_step {c : Cf} {x W : Nat} (hi : 0 < iS c x ∧ iN c x = iS c x + 2) {h : Hs} (hd : Sid c x W h.m h.nx h.s) (hn : h.nx ≠ 4) : mu c x (hstep c x h) < mu c x h := by
  obtain ⟨hi1, hi2⟩ := hi
  have c4 : c.cl 4 (penN x) = iS c x := rfl
  obtain ⟨m, nx, s⟩ := h
  dsimp only at hd hn
  match nx, hd.le with
  | 0, _ =>
    show (3 : Nat) < 4
    decide
  | 1, _ =>
    have hws : (mtouch c m 1 4 (penN x) 0 0).ws = m.ws := load_ws c m 4 (penN x)
    have hold : (mtouch c m 1 4 (penN x) 0 0).l.old = m.ws (iS c x).toNat := by rw [load_old, c4, if_pos (by omega)]
    have h3 := hd.low (by decide)
    have e0 : hstep c x ⟨m, 1, s⟩ = ⟨mtouch c m 1 4 (penN x) 0 0, 2, m.ws (iS c x).toNat⟩ := by
      show (⟨_, if stN (mtouch c m 1 4 (penN x) 0 0).l.old = 3 then 2 else 3, (mtouch c m 1 4 (penN x) 0 0).l.old⟩ : Hs) = _
      rw [hold, if_pos h3.1]
    rw [e0]
    show (if (mtouch c m 1 4 (penN x) 0 0).ws (iS c x).toNat = m.ws (iS c x).toNat then 2 else 4) < 3
    rw [if_pos (by rw [hws])]
    decide
  | 2, _ =>
    have hdn := swap_done c m 4 (penN x) s (comN s)
    rw [c4] at hdn
    by_cases he : m.ws (iS c x).toNat = s
    · rw [decide_eq_true (show _ from ⟨by omega, he⟩)] at hdn
      have e0 : hstep c x ⟨m, 2, s⟩ = ⟨mtouch c m 3 4 (penN x) s (comN s), 3, s⟩ := by
        show (⟨_, cond (mtouch c m 3 4 (penN x) s (comN s)).l.done 3 1, s⟩ : Hs) = _
        rw [hdn]
        rfl
      rw [e0]
      show (1 : Nat) < if m.ws (iS c x).toNat = s then 2 else 4
      rw [if_pos he]
      decide
    · rw [decide_eq_false (by rintro ⟨_, q⟩; exact he q)] at hdn
      have e0 : hstep c x ⟨m, 2, s⟩ = ⟨mtouch c m 3 4 (penN x) s (comN s), 1, s⟩ := by
        show (⟨_, cond (mtouch c m 3 4 (penN x) s (comN s)).l.done 3 1, s⟩ : Hs) = _
        rw [hdn]
        rfl
      rw [e0]
      show (3 : Nat) < if m.ws (iS c x).toNat = s then 2 else 4
      rw [if_neg he]
      decide
  | 3, _ =>
    show (0 : Nat) < 1
    decide
  | 4, _ => exact absurd rfl hn

theorem sid_ends {c : Cf} (hr : c.r = true) {x W : Nat} (hi : 0 < iS c x ∧ iN c x = iS c x + 2) {h : Hs} (hd : Sid c x W h.m h.nx h.s) {k : Nat} (hk : 5 ≤ k) (H : Hs) (hH : H = hit c x h k) : H.nx = 4 ∧ H.m.ws (iS c x).toNat = W ∧ H.m.ws (iN c x).toNat = seqN x := by
  have main : ∀ k, Sid c x W (hit c x h k).m (hit c x h k).nx (hit c x h k).s ∧ (mu c x (hit c x h k) + k ≤ mu c x h ∨ (hit c x h k).nx = 4) := by
    intro k
    induction k with
    | zero => exact ⟨hd, .inl (Nat.le_refl _)⟩
    | succ k ih =>
      obtain ⟨i1, i2⟩ := ih
      refine ⟨sid_step hr hi i1, ?_⟩
      by_cases hn : (hit c x h k).nx = 4
      · right
        show (hstep c x (hit c x h k)).nx = 4
        rw [hstep_4 hn]
        exact hn
      · rcases i2 with i2 | i2
        · have := mu_step hi i1 hn
          left
          show mu c x (hstep c x (hit c x h k)) + (k + 1) ≤ _
          omega
        · exact absurd i2 hn
  have hm4 : mu c x h ≤ 4 := by
    unfold mu
    (repeat' split) <;> omega
  obtain ⟨h1, h2⟩ := main k
  rw [← hH] at h1 h2
  have h4 : H.nx = 4 := by
    rcases h2 with h2 | h2
    · omega
    · exact h2
  exact ⟨h4, h1.high (by omega), h1.n1 (by omega)⟩

theorem sid_new {c : Cf} (hr : c.r = true) {x : Nat} (hi : 0 < iS c x ∧ iN c x = iS c x + 2) {sl : Int} (hpen : penN x = sl) (m1 m2 : Mm) (hm1 : m1 = mtouch c ⟨fun _ => 0, 0, noT⟩ 2 1 0 0 x) (hm2 : m2 = mtouch c m1 2 4 sl 0 402653184) : Sid c x 536870912 m2 0 0 := by
  obtain ⟨hi1, hi2⟩ := hi
  have c4 : c.cl 4 sl = iS c x := by rw [← hpen]; rfl
  have ct := cl_tally hr
  have e1 : m2.ws (iS c x).toNat = 402653184 := by rw [hm2, put_ws, if_pos (by omega)]
  have e2 : m2.ws (iN c x).toNat = 0 := by rw [hm2, put_ws, if_neg (by omega), hm1, put_ws, if_neg (by omega)]
  refine ⟨by decide, fun _ => ?_, fun q => absurd q (by decide), fun _ => e2, fun q => absurd q (by decide)⟩
  rw [e1]
  exact ⟨by decide +kernel, by decide +kernel⟩

end Um

/-
  Plain arithmetic of layer 4's words: no Go in sight.
-/
namespace Um
set_option maxRecDepth 100000

/-- The slot, and the generation, that a ticket may have and that is nearest to any. -/
def nearS (a : Int) : Int := min (max a 0) 11
def nearG (a : Int) : Int := min (max a 0) 1073741823

/-- The parts of a word. -/
def tsN (x : Nat) : Int := (x % 16 : Nat) - 1
def tgN (x : Nat) : Int := (min (x / 16) 1073741824 : Nat)

/-- A slot and a generation that have a ticket, and that ticket; 0, if there is none. -/
def mok (s g : Int) : Bool := decide (0 ≤ s ∧ s ≤ 11 ∧ 0 ≤ g ∧ g ≤ 1073741823)
def mkN (s g : Int) : Nat := if mok s g then (16 * g + s + 1).toNat else 0

/-- A word that has a slot, and that slot; 0, if there is none. -/
def sok (x : Nat) : Bool := decide (0 ≤ tsN x ∧ tsN x ≤ 11)
def svN (x : Nat) : Int := if sok x then tsN x else 0

/-- A word that names one of n slots, and what it names; zeros, if it names none. -/
def ook (x : Nat) (n : Int) : Bool := decide (0 ≤ tsN x ∧ tsN x ≤ 11 ∧ tgN x ≤ 1073741823 ∧ tsN x < n)
def osN (x : Nat) (n : Int) : Int := if ook x n then tsN x else 0
def ogN (x : Nat) (n : Int) : Int := if ook x n then tgN x else 0

theorem ts_bd (x : Nat) : -1 ≤ tsN x ∧ tsN x ≤ 14 := by unfold tsN; omega
theorem tg_bd (x : Nat) : 0 ≤ tgN x ∧ tgN x ≤ 1073741824 := by unfold tgN; omega

theorem mok_iff {s g : Int} : mok s g = true ↔ 0 ≤ s ∧ s ≤ 11 ∧ 0 ≤ g ∧ g ≤ 1073741823 := by unfold mok; simp
theorem mok_no {s g : Int} : mok s g = false ↔ ¬ (0 ≤ s ∧ s ≤ 11 ∧ 0 ≤ g ∧ g ≤ 1073741823) := by unfold mok; simp
theorem mk_yes {s g : Int} (h : mok s g = true) : mkN s g = (16 * g + s + 1).toNat := by unfold mkN; rw [if_pos h]
theorem mk_no {s g : Int} (h : mok s g = false) : mkN s g = 0 := by unfold mkN; rw [h]; rfl
theorem sok_iff {x : Nat} : sok x = true ↔ 0 ≤ tsN x ∧ tsN x ≤ 11 := by unfold sok; simp
theorem sok_no {x : Nat} : sok x = false ↔ ¬ (0 ≤ tsN x ∧ tsN x ≤ 11) := by unfold sok; simp
theorem sv_yes {x : Nat} (h : sok x = true) : svN x = tsN x := by unfold svN; rw [if_pos h]
theorem sv_no {x : Nat} (h : sok x = false) : svN x = 0 := by unfold svN; rw [h]; rfl
theorem ook_iff {x : Nat} {n : Int} : ook x n = true ↔ 0 ≤ tsN x ∧ tsN x ≤ 11 ∧ tgN x ≤ 1073741823 ∧ tsN x < n := by unfold ook; simp
theorem ook_no {x : Nat} {n : Int} : ook x n = false ↔ ¬ (0 ≤ tsN x ∧ tsN x ≤ 11 ∧ tgN x ≤ 1073741823 ∧ tsN x < n) := by unfold ook; simp
theorem os_yes {x : Nat} {n : Int} (h : ook x n = true) : osN x n = tsN x := by unfold osN; rw [if_pos h]
theorem os_no {x : Nat} {n : Int} (h : ook x n = false) : osN x n = 0 := by unfold osN; rw [h]; rfl
theorem og_yes {x : Nat} {n : Int} (h : ook x n = true) : ogN x n = tgN x := by unfold ogN; rw [if_pos h]
theorem og_no {x : Nat} {n : Int} (h : ook x n = false) : ogN x n = 0 := by unfold ogN; rw [h]; rfl

theorem near_mok {s g : Int} : decide (s = nearS s ∧ g = nearG g) = mok s g := by
  unfold mok nearS nearG
  rw [Bool.eq_iff_iff, decide_eq_true_iff, decide_eq_true_iff]
  omega

theorem near_sok {x : Nat} : decide (tsN x = nearS (tsN x) ∧ (0 : Int) = nearG 0) = sok x := by
  unfold sok nearS nearG
  rw [Bool.eq_iff_iff, decide_eq_true_iff, decide_eq_true_iff]
  omega

theorem near_ook {x : Nat} : decide (tsN x = nearS (tsN x) ∧ tgN x = nearG (tgN x)) = decide (0 ≤ tsN x ∧ tsN x ≤ 11 ∧ tgN x ≤ 1073741823) := by
  have := tg_bd x
  unfold nearS nearG
  rw [Bool.eq_iff_iff, decide_eq_true_iff, decide_eq_true_iff]
  omega

theorem mk_word (s g : Int) : Word (mkN s g) := by
  unfold Word
  cases h : mok s g
  · rw [mk_no h]; omega
  · rw [mk_yes h]; have := mok_iff.1 h; omega

theorem mk_ts {s g : Int} (h : mok s g = true) : tsN (mkN s g) = s := by
  unfold tsN; rw [mk_yes h]; have := mok_iff.1 h; omega

theorem mk_tg {s g : Int} (h : mok s g = true) : tgN (mkN s g) = g := by
  unfold tgN; rw [mk_yes h]; have := mok_iff.1 h; omega

theorem mk_sok {s g : Int} (h : mok s g = true) : sok (mkN s g) = true := by
  rw [sok_iff, mk_ts h]; have := mok_iff.1 h; omega

theorem mk_inj {s t g r : Int} (h : mok s g = true) (h' : mok t r = true) : mkN s g = mkN t r ↔ s = t ∧ g = r := by
  rw [mk_yes h, mk_yes h']
  have := mok_iff.1 h
  have := mok_iff.1 h'
  omega

/-- What a word names is its ticket. -/
theorem ook_mk {x : Nat} {n : Int} (h : ook x n = true) : mok (tsN x) (tgN x) = true ∧ mkN (tsN x) (tgN x) = x := by
  have h1 := ook_iff.1 h
  have h2 := tg_bd x
  have h3 : mok (tsN x) (tgN x) = true := mok_iff.2 (by omega)
  refine ⟨h3, ?_⟩
  rw [mk_yes h3]
  unfold tsN tgN at *
  omega

/-- A multiple of 16 and four bits more: or is plus. -/
theorem or_sixteen (s k : Nat) (h : k < 16) : k ||| (16 * s) = 16 * s + k := by
  have := Nat.two_pow_add_eq_or_of_lt (i := 4) (b := k) (by omega) s
  rw [show (2 : Nat) ^ 4 = 16 by decide] at this
  rw [Nat.or_comm]
  exact this.symm

/-- The ticket of the next generation is 16 more. -/
theorem mk_next {s g : Int} (h : mok s g = true) (h' : g < 1073741823) : mok s (g + 1) = true ∧ mkN s (g + 1) = mkN s g + 16 := by
  have h1 := mok_iff.1 h
  have h2 : mok s (g + 1) = true := mok_iff.2 (by omega)
  refine ⟨h2, ?_⟩
  rw [mk_yes h, mk_yes h2]
  omega

theorem greater_cases (x : Nat) {lo hi : Int} (h : lo ≤ hi) :
    (ook x lo = false ∧ ook x hi = false ∧ True) ∨ (ook x lo = true ∧ ook x hi = true ∧ tsN x < lo) ∨ (ook x lo = false ∧ ook x hi = true ∧ lo ≤ tsN x) := by
  cases h1 : ook x lo
  · cases h2 : ook x hi
    · exact .inl ⟨rfl, rfl, trivial⟩
    · have := ook_iff.1 h2
      have := ook_no.1 h1
      exact .inr (.inr ⟨rfl, rfl, by omega⟩)
  · have h3 := ook_iff.1 h1
    have h2 : ook x hi = true := ook_iff.2 (by omega)
    exact .inr (.inl ⟨rfl, h2, by omega⟩)

end Um

/-
  Plain arithmetic of layer 9: a transaction that is begun. No Go in sight.
-/
namespace Um
set_option maxRecDepth 100000

/-- a status word's generation -/
def gnN (x : Nat) : Nat := part x 30 32

/-- a beginning over a memory: the memory, its slot, its next step (0 look, 1 take, 2 tally, 3 help, 4 note, 5 start, 6: it is done), what it looked at, how many commits there were, its help (its word, its next step, what that looked at), what it tells -/
structure Os where
  m : Mm
  sl : Int
  nx : Nat
  s : Nat
  q : Nat
  w : Nat
  hn : Nat
  hs : Nat
  te : Int
  th : Nat
  tn : Nat

/-- to the next slot -/
def ogo (c : Cf) (o : Os) (M : Mm) (s : Nat) : Os :=
  if c.s ≤ o.sl + 1 then ⟨M, o.sl + 1, 6, s, o.q, o.w, o.hn, o.hs, 6, 0, 0⟩ else ⟨M, o.sl + 1, 0, s, o.q, o.w, o.hn, o.hs, o.te, o.th, o.tn⟩

/-- may the slot of this status be got -/
def frN (c : Cf) (x : Nat) : Bool := decide (stN x = 0 ∧ ((gnN x : Nat) : Int) ≤ c.g)

/-- a beginning's step -/
def ostep (c : Cf) (o : Os) : Os :=
  if o.nx = 0 then
    (if frN c (mtouch c o.m 1 4 o.sl 0 0).l.old then ⟨mtouch c o.m 1 4 o.sl 0 0, o.sl, 1, (mtouch c o.m 1 4 o.sl 0 0).l.old, o.q, o.w, o.hn, o.hs, o.te, o.th, o.tn⟩
      else ogo c o (mtouch c o.m 1 4 o.sl 0 0) (mtouch c o.m 1 4 o.sl 0 0).l.old)
  else if o.nx = 1 then
    (if (mtouch c o.m 3 4 o.sl o.s (moveN o.s 1 false)).l.done then ⟨mtouch c o.m 3 4 o.sl o.s (moveN o.s 1 false), o.sl, 2, o.s, o.q, o.w, o.hn, o.hs, o.te, o.th, o.tn⟩
      else ogo c o (mtouch c o.m 3 4 o.sl o.s (moveN o.s 1 false)) o.s)
  else if o.nx = 2 then
    (if 0 ≤ penN (mtouch c o.m 1 1 0 0 0).l.old then ⟨mtouch c o.m 1 1 0 0 0, o.sl, 3, o.s, seqN (mtouch c o.m 1 1 0 0 0).l.old, (mtouch c o.m 1 1 0 0 0).l.old, 0, 0, o.te, o.th, o.tn⟩
      else ⟨mtouch c o.m 1 1 0 0 0, o.sl, 4, o.s, seqN (mtouch c o.m 1 1 0 0 0).l.old, o.w, o.hn, o.hs, o.te, o.th, o.tn⟩)
  else if o.nx = 3 then
    ⟨(hstep c o.w ⟨o.m, o.hn, o.hs⟩).m, o.sl, if (hstep c o.w ⟨o.m, o.hn, o.hs⟩).nx = 4 then 2 else 3, o.s, o.q, o.w, (hstep c o.w ⟨o.m, o.hn, o.hs⟩).nx, (hstep c o.w ⟨o.m, o.hn, o.hs⟩).s, o.te, o.th, o.tn⟩
  else if o.nx = 4 then ⟨mtouch c o.m 2 5 o.sl 0 o.q, o.sl, 5, o.s, o.q, o.w, o.hn, o.hs, o.te, o.th, o.tn⟩
  else if o.nx = 5 then ⟨mtouch c o.m 2 4 o.sl 0 (moveN o.s 2 false), o.sl, 6, o.s, o.q, o.w, o.hn, o.hs, 0, mkN o.sl (gnN o.s), o.q⟩
  else o

/-- so many steps -/
def oit (c : Cf) (o : Os) : Nat → Os
  | 0 => o
  | k + 1 => ostep c (oit c o k)

/-- words, and a slot that there is, or the one behind -/
structure Ook (c : Cf) (o : Os) : Prop where
  wd : ∀ i, i < c.n → Word (o.m.ws i)
  s : Word o.s
  q : Word o.q
  w : Word o.w
  hs : Word o.hs
  hn : o.hn ≤ 4
  nx : o.nx ≤ 6
  sl0 : 0 ≤ o.sl
  sl1 : o.sl ≤ c.s
  th : Word o.th
  tn : Word o.tn
  sl : o.nx < 6 → o.sl < c.s

theorem zero_word : Word 0 := by unfold Word; decide

theorem ogo_ok {c : Cf} {o : Os} (h : Ook c o) (hn : o.nx < 6) {M : Mm} {s : Nat} (hM : ∀ i, i < c.n → Word (M.ws i)) (hs : Word s) : Ook c (ogo c o M s) := by
  have := h.sl hn
  have := h.sl0
  unfold ogo
  split
  · exact ⟨hM, hs, h.q, h.w, h.hs, h.hn, (show 6 ≤ 6 by decide), (show 0 ≤ o.sl + 1 by omega), (show o.sl + 1 ≤ c.s by omega), zero_word, zero_word, (fun q => absurd (show 6 < 6 from q) (by decide))⟩
  · exact ⟨hM, hs, h.q, h.w, h.hs, h.hn, (show 0 ≤ 6 by decide), (show 0 ≤ o.sl + 1 by omega), (show o.sl + 1 ≤ c.s by omega), h.th, h.tn, (fun _ => show o.sl + 1 < c.s by omega)⟩

theorem ostep_ok {c : Cf} {o : Os} (h : Ook c o) : Ook c (ostep c o) := by
  have hld : ∀ a b, (∀ i, i < c.n → Word ((mtouch c o.m 1 a b 0 0).ws i)) := fun a b => word_touch h.wd zero_word
  have hlo : ∀ a b, Word (mtouch c o.m 1 a b 0 0).l.old := fun a b => old_word h.wd
  unfold ostep
  split
  · rename_i e0
    have h0 := h.sl (by omega)
    split
    · exact ⟨hld _ _, hlo _ _, h.q, h.w, h.hs, h.hn, (show 1 ≤ 6 by decide), h.sl0, h.sl1, h.th, h.tn, fun _ => h0⟩
    · exact ogo_ok h (by omega) (hld _ _) (hlo _ _)
  split
  · rename_i e0 e1
    have h0 := h.sl (by omega)
    have hw : ∀ i, i < c.n → Word ((mtouch c o.m 3 4 o.sl o.s (moveN o.s 1 false)).ws i) := word_touch h.wd (move_word h.s (by decide))
    split
    · exact ⟨hw, h.s, h.q, h.w, h.hs, h.hn, (show 2 ≤ 6 by decide), h.sl0, h.sl1, h.th, h.tn, fun _ => h0⟩
    · exact ogo_ok h (by omega) hw h.s
  split
  · rename_i e0 e1 e2
    have h0 := h.sl (by omega)
    split
    · exact ⟨hld _ _, h.s, seq_isword (hlo _ _), hlo _ _, zero_word, (show 0 ≤ 4 by decide), (show 3 ≤ 6 by decide), h.sl0, h.sl1, h.th, h.tn, fun _ => h0⟩
    · exact ⟨hld _ _, h.s, seq_isword (hlo _ _), h.w, h.hs, h.hn, (show 4 ≤ 6 by decide), h.sl0, h.sl1, h.th, h.tn, fun _ => h0⟩
  split
  · rename_i e0 e1 e2 e3
    have h0 := h.sl (by omega)
    have hw := hstep_words (c := c) (h := ⟨o.m, o.hn, o.hs⟩) h.w h.hs h.wd
    refine ⟨hw.1, h.s, h.q, h.w, hw.2, hstep_nx (h := ⟨o.m, o.hn, o.hs⟩) h.hn, ?_, h.sl0, h.sl1, h.th, h.tn, fun _ => h0⟩
    show (if _ then 2 else 3) ≤ 6
    split <;> decide
  split
  · rename_i e0 e1 e2 e3 e4
    have h0 := h.sl (by omega)
    exact ⟨word_touch h.wd h.q, h.s, h.q, h.w, h.hs, h.hn, (show 5 ≤ 6 by decide), h.sl0, h.sl1, h.th, h.tn, fun _ => h0⟩
  split
  · exact ⟨word_touch h.wd (move_word h.s (by decide)), h.s, h.q, h.w, h.hs, h.hn, (show 6 ≤ 6 by decide), h.sl0, h.sl1, mk_word _ _, h.q, (fun q => absurd (show 6 < 6 from q) (by decide))⟩
  · exact h

theorem oit_ok {c : Cf} {o : Os} (h : Ook c o) (k : Nat) : Ook c (oit c o k) := by
  induction k with
  | zero => exact h
  | succ k ih => exact ostep_ok ih

theorem ostep_6 {c : Cf} {o : Os} (h : o.nx = 6) : ostep c o = o := by
  unfold ostep
  rw [if_neg (by omega), if_neg (by omega), if_neg (by omega), if_neg (by omega), if_neg (by omega), if_neg (by omega)]

theorem oit_done {c : Cf} {o : Os} {q : Nat} (hn : (oit c o q).nx = 6) {k : Nat} (hk : q ≤ k) : oit c o k = oit c o q := by
  obtain ⟨d, rfl⟩ : ∃ d, k = q + d := ⟨k - q, by omega⟩
  clear hk
  induction d with
  | zero => rfl
  | succ d ih =>
    show ostep c (oit c o (q + d)) = _
    rw [ih]
    exact ostep_6 hn

end Um

/-
  Plain arithmetic of layer 9: alone. No Go in sight.
-/
namespace Um
set_option maxRecDepth 100000

theorem sl_cells {c : Cf} (hr : c.r = true) {f : Int} (h0 : 0 ≤ f) (h1 : f < c.s) : 0 < c.cl 4 f ∧ c.cl 5 f = c.cl 4 f + 1 ∧ c.cl 6 f = c.cl 4 f + 2 := by
  have hb := c.rb hr
  unfold Cf.cl cellN
  rw [hr]
  simp [h0, h1]
  omega

/-- the lowest slot that is free -/
structure Got (c : Cf) (ws : Nat → Nat) (f : Int) : Prop where
  lo : 0 ≤ f
  hi : f < c.s
  fr : frN c (ws (c.cl 4 f).toNat) = true
  least : ∀ i : Int, 0 ≤ i → i < f → frN c (ws (c.cl 4 i).toNat) = false

/-- no slot is free -/
def Full (c : Cf) (ws : Nat → Nat) : Prop := ∀ i : Int, 0 ≤ i → i < c.s → frN c (ws (c.cl 4 i).toNat) = false

/-- the words when a slot was taken -/
def ws1 (c : Cf) (ws : Nat → Nat) (f : Int) (i : Nat) : Nat := if (i : Int) = c.cl 4 f then moveN (ws i) 1 false else ws i

/-- and behind a help -/
def ws2 (c : Cf) (ws : Nat → Nat) (f : Int) (i : Nat) : Nat := hgN c (ws 0) (ws1 c ws f) i

/-- and at the end -/
def ws3 (c : Cf) (ws : Nat → Nat) (f : Int) (i : Nat) : Nat := if (i : Int) = c.cl 4 f then moveN (ws i) 2 false else if (i : Int) = c.cl 5 f then seqN (ws 0) else ws2 c ws f i

structure Al (c : Cf) (ws : Nat → Nat) (o : Os) : Prop where
  nx : o.nx ≤ 6
  lo : o.nx = 0 → 0 ≤ o.sl ∧ o.sl < c.s ∧ (∀ i, o.m.ws i = ws i) ∧ ∀ i : Int, 0 ≤ i → i < o.sl → frN c (ws (c.cl 4 i).toNat) = false
  tk : 1 ≤ o.nx → o.nx ≤ 5 → Got c ws o.sl ∧ o.s = ws (c.cl 4 o.sl).toNat
  t1 : o.nx = 1 → ∀ i, o.m.ws i = ws i
  t2 : o.nx = 2 → (∀ i, o.m.ws i = ws1 c ws o.sl i) ∨ (0 ≤ penN (ws 0) ∧ ∀ i, o.m.ws i = ws2 c ws o.sl i)
  t3 : o.nx = 3 → o.w = ws 0 ∧ 0 ≤ penN (ws 0) ∧ Mix c (ws 0) (ws1 c ws o.sl) o.m.ws ∧ Knows c (ws 0) (ws1 c ws o.sl) o.m.ws ⟨o.m, o.hn, o.hs⟩ ∧ o.hn ≠ 4
  t4 : o.nx = 4 → (∀ i, o.m.ws i = ws2 c ws o.sl i) ∧ o.q = seqN (ws 0)
  t5 : o.nx = 5 → (∀ i, o.m.ws i = if (i : Int) = c.cl 5 o.sl then seqN (ws 0) else ws2 c ws o.sl i) ∧ o.q = seqN (ws 0)
  t6 : o.nx = 6 → (Full c ws ∧ (∀ i, o.m.ws i = ws i) ∧ o.te = 6 ∧ o.th = 0 ∧ o.tn = 0) ∨ ∃ f, Got c ws f ∧ (∀ i, o.m.ws i = ws3 c ws f i) ∧ o.te = 0 ∧ o.th = mkN f ((gnN (ws (c.cl 4 f).toNat) : Nat) : Int) ∧ o.tn = seqN (ws 0)

theorem ws1_zero {c : Cf} {ws : Nat → Nat} {f : Int} (h : 0 < c.cl 4 f) : ws1 c ws f 0 = ws 0 := by
  unfold ws1
  rw [if_neg (by omega)]

theorem ws2_zero {c : Cf} {ws : Nat → Nat} {f : Int} (h : 0 < c.cl 4 f) : ws2 c ws f 0 = setlN (ws 0) := by
  unfold ws2
  rw [tg_T, if_pos (ws1_zero h)]

/-- where nothing is pending a help changes nothing -/
theorem ws2_none {c : Cf} (hr : c.r = true) {ws : Nat → Nat} {f : Int} (hp : ¬ 0 ≤ penN (ws 0)) (i : Nat) : ws2 c ws f i = ws1 c ws f i := by
  have hneg : iN c (ws 0) = -1 ∧ iS c (ws 0) = -1 := by
    unfold iN iS Cf.cl cellN
    rw [hr]
    simp
    omega
  have hz : setlN (ws 0) = ws 0 := by unfold penN at hp; unfold setlN; omega
  unfold ws2 hgN
  split
  · rename_i e
    subst e
    split
    · rename_i e; rw [e, hz]
    · rfl
  rw [if_neg (by omega), if_neg (by omega)]

theorem al_look {c : Cf} (hr : c.r = true) {ws : Nat → Nat} {o : Os} (h : Al c ws o) (h0 : o.nx = 0) : Al c ws (ostep c o) := by
  obtain ⟨l0, l1, l2, l3⟩ := h.lo h0
  obtain ⟨s1, s2, s3⟩ := sl_cells hr l0 l1
  have hws : (mtouch c o.m 1 4 o.sl 0 0).ws = o.m.ws := load_ws c o.m 4 o.sl
  have hold : (mtouch c o.m 1 4 o.sl 0 0).l.old = ws (c.cl 4 o.sl).toNat := by rw [load_old, if_pos (by omega), l2]
  unfold ostep
  rw [if_pos h0, hold]
  cases hf : frN c (ws (c.cl 4 o.sl).toNat) with
  | true =>
    rw [if_pos rfl]
    exact ⟨(show 1 ≤ 6 by decide), (fun q => by cases q), fun _ _ => ⟨⟨l0, l1, hf, l3⟩, rfl⟩, (fun _ i => by rw [hws]; exact l2 i), (fun q => by cases q), (fun q => by cases q), (fun q => by cases q), (fun q => by cases q), (fun q => by cases q)⟩
  | false =>
    have l4 : ∀ i : Int, 0 ≤ i → i < o.sl + 1 → frN c (ws (c.cl 4 i).toNat) = false := by
      intro i i0 i1
      by_cases e : i = o.sl
      · rw [e]; exact hf
      · exact l3 i i0 (by omega)
    show Al c ws (ogo c o (mtouch c o.m 1 4 o.sl 0 0) (ws (c.cl 4 o.sl).toNat))
    unfold ogo
    split
    · rename_i hge
      exact ⟨(show 6 ≤ 6 by decide), (fun q => by cases q), (fun _ q => absurd (show 6 ≤ 5 from q) (by decide)), (fun q => by cases q), (fun q => by cases q), (fun q => by cases q), (fun q => by cases q), (fun q => by cases q), fun _ => .inl ⟨fun i i0 i1 => l4 i i0 (by omega), fun i => by rw [hws]; exact l2 i, rfl, rfl, rfl⟩⟩
    · rename_i hge
      exact ⟨(show 0 ≤ 6 by decide), fun _ => ⟨(show 0 ≤ o.sl + 1 by omega), (show o.sl + 1 < c.s by omega), fun i => by rw [hws]; exact l2 i, l4⟩, (fun q _ => absurd (show 1 ≤ 0 from q) (by decide)), (fun q => by cases q), (fun q => by cases q), (fun q => by cases q), (fun q => by cases q), (fun q => by cases q), (fun q => by cases q)⟩

theorem al_take {c : Cf} (hr : c.r = true) {ws : Nat → Nat} {o : Os} (h : Al c ws o) (h1 : o.nx = 1) : Al c ws (ostep c o) := by
  obtain ⟨hg, hs⟩ := h.tk (by omega) (by omega)
  have hw := h.t1 h1
  obtain ⟨s1, s2, s3⟩ := sl_cells hr hg.lo hg.hi
  have hd : (mtouch c o.m 3 4 o.sl o.s (moveN o.s 1 false)).l.done = true := by
    rw [swap_done]
    exact decide_eq_true ⟨by omega, by rw [hw, hs]⟩
  have hws : ∀ i, (mtouch c o.m 3 4 o.sl o.s (moveN o.s 1 false)).ws i = ws1 c ws o.sl i := by
    intro i
    rw [swap_ws, hw]
    unfold ws1
    by_cases e : (i : Int) = c.cl 4 o.sl
    · have : ws i = o.s := by rw [hs, ← e]; rfl
      rw [if_pos ⟨e, this⟩, if_pos e, this]
    · rw [if_neg (fun q => e q.1), if_neg e]
  unfold ostep
  rw [if_neg (by omega), if_pos h1, if_pos hd]
  exact ⟨(show 2 ≤ 6 by decide), (fun q => by cases q), fun _ _ => ⟨hg, hs⟩, (fun q => by cases q), fun _ => .inl hws, (fun q => by cases q), (fun q => by cases q), (fun q => by cases q), (fun q => by cases q)⟩

theorem al_tally {c : Cf} (hr : c.r = true) {ws : Nat → Nat} {o : Os} (h : Al c ws o) (h2 : o.nx = 2) : Al c ws (ostep c o) := by
  obtain ⟨hg, hs⟩ := h.tk (by omega) (by omega)
  obtain ⟨s1, s2, s3⟩ := sl_cells hr hg.lo hg.hi
  have hws : (mtouch c o.m 1 1 0 0 0).ws = o.m.ws := load_ws c o.m 1 0
  have hold : (mtouch c o.m 1 1 0 0 0).l.old = o.m.ws 0 := by rw [load_old, cl_tally hr, if_pos (by decide)]; rfl
  unfold ostep
  rw [if_neg (by omega), if_neg (by omega), if_pos h2, hold]
  rcases h.t2 h2 with ht | ⟨hp, ht⟩
  · have e0 : o.m.ws 0 = ws 0 := (ht 0).trans (ws1_zero s1)
    rw [e0]
    by_cases hp : 0 ≤ penN (ws 0)
    · rw [if_pos hp]
      have hm : Mix c (ws 0) (ws1 c ws o.sl) (mtouch c o.m 1 1 0 0 0).ws := fun i => .inl (by rw [hws]; exact ht i)
      exact ⟨(show 3 ≤ 6 by decide), (fun q => by cases q), fun _ _ => ⟨hg, hs⟩, (fun q => by cases q), (fun q => by cases q), fun _ => ⟨rfl, hp, hm, ⟨(show 0 ≤ 4 by decide), (fun q => absurd (show 1 ≤ 0 from q) (by decide)), (fun q => by cases q), (fun q => absurd (show 3 ≤ 0 from q) (by decide)), (fun q => by cases q)⟩, (show 0 ≠ 4 by decide)⟩, (fun q => by cases q), (fun q => by cases q), (fun q => by cases q)⟩
    · rw [if_neg hp]
      exact ⟨(show 4 ≤ 6 by decide), (fun q => by cases q), fun _ _ => ⟨hg, hs⟩, (fun q => by cases q), (fun q => by cases q), (fun q => by cases q), fun _ => ⟨fun i => by rw [hws, ws2_none hr hp]; exact ht i, rfl⟩, (fun q => by cases q), (fun q => by cases q)⟩
  · have e0 : o.m.ws 0 = setlN (ws 0) := (ht 0).trans (ws2_zero s1)
    rw [e0, pen_setl, if_neg (by decide), seq_setl]
    exact ⟨(show 4 ≤ 6 by decide), (fun q => by cases q), fun _ _ => ⟨hg, hs⟩, (fun q => by cases q), (fun q => by cases q), (fun q => by cases q), fun _ => ⟨fun i => by rw [hws]; exact ht i, rfl⟩, (fun q => by cases q), (fun q => by cases q)⟩

theorem al_help {c : Cf} (hr : c.r = true) {ws : Nat → Nat} {o : Os} (h : Al c ws o) (h3 : o.nx = 3) : Al c ws (ostep c o) := by
  obtain ⟨hg, hs⟩ := h.tk (by omega) (by omega)
  obtain ⟨e1, hp, hM, hK, hn⟩ := h.t3 h3
  obtain ⟨k1, k2, k3⟩ := know_step hr (h := ⟨o.m, o.hn, o.hs⟩) hM hK
  unfold ostep
  rw [if_neg (by omega), if_neg (by omega), if_neg (by omega), if_pos h3, e1]
  generalize hstep c (ws 0) ⟨o.m, o.hn, o.hs⟩ = H at *
  by_cases h4 : H.nx = 4
  · rw [if_pos h4]
    have he := know_end hr k1 k2 h4
    exact ⟨(show 2 ≤ 6 by decide), (fun q => by cases q), fun _ _ => ⟨hg, hs⟩, (fun q => by cases q), fun _ => .inr ⟨hp, he⟩, (fun q => by cases q), (fun q => by cases q), (fun q => by cases q), (fun q => by cases q)⟩
  · rw [if_neg h4]
    exact ⟨(show 3 ≤ 6 by decide), (fun q => by cases q), fun _ _ => ⟨hg, hs⟩, (fun q => by cases q), (fun q => by cases q), fun _ => ⟨rfl, hp, k1, k2, h4⟩, (fun q => by cases q), (fun q => by cases q), (fun q => by cases q)⟩

theorem al_note {c : Cf} {ws : Nat → Nat} {o : Os} (h : Al c ws o) (h4 : o.nx = 4) : Al c ws (ostep c o) := by
  obtain ⟨hg, hs⟩ := h.tk (by omega) (by omega)
  obtain ⟨hw, hq⟩ := h.t4 h4
  unfold ostep
  rw [if_neg (by omega), if_neg (by omega), if_neg (by omega), if_neg (by omega), if_pos h4]
  exact ⟨(show 5 ≤ 6 by decide), (fun q => by cases q), fun _ _ => ⟨hg, hs⟩, (fun q => by cases q), (fun q => by cases q), (fun q => by cases q), (fun q => by cases q), fun _ => ⟨fun i => by show (mtouch c o.m 2 5 o.sl 0 o.q).ws i = _; rw [put_ws, hq, hw], hq⟩, (fun q => by cases q)⟩

theorem al_start {c : Cf} {ws : Nat → Nat} {o : Os} (h : Al c ws o) (h5 : o.nx = 5) : Al c ws (ostep c o) := by
  obtain ⟨hg, hs⟩ := h.tk (by omega) (by omega)
  obtain ⟨hw, hq⟩ := h.t5 h5
  unfold ostep
  rw [if_neg (by omega), if_neg (by omega), if_neg (by omega), if_neg (by omega), if_neg (by omega), if_pos h5]
  refine ⟨(show 6 ≤ 6 by decide), (fun q => by cases q), (fun _ q => absurd (show 6 ≤ 5 from q) (by decide)), (fun q => by cases q), (fun q => by cases q), (fun q => by cases q), (fun q => by cases q), (fun q => by cases q), fun _ => .inr ⟨o.sl, hg, fun i => ?_, rfl, by show mkN o.sl _ = _; rw [hs], hq⟩⟩
  show (mtouch c o.m 2 4 o.sl 0 (moveN o.s 2 false)).ws i = _
  rw [put_ws, hw]
  unfold ws3
  by_cases e : (i : Int) = c.cl 4 o.sl
  · rw [if_pos e, if_pos e, hs, ← e]
    rfl
  · rw [if_neg e, if_neg e]

theorem al_step {c : Cf} (hr : c.r = true) {ws : Nat → Nat} {o : Os} (h : Al c ws o) : Al c ws (ostep c o) := by
  have := h.nx
  rcases (by omega : o.nx = 0 ∨ o.nx = 1 ∨ o.nx = 2 ∨ o.nx = 3 ∨ o.nx = 4 ∨ o.nx = 5 ∨ o.nx = 6) with e | e | e | e | e | e | e
  · exact al_look hr h e
  · exact al_take hr h e
  · exact al_tally hr h e
  · exact al_help hr h e
  · exact al_note h e
  · exact al_start h e
  · rw [ostep_6 e]
    exact h

/-- how many steps are left at most, alone -/
def omu (c : Cf) (ws : Nat → Nat) (o : Os) : Nat :=
  if o.nx = 0 then 40 + (c.s - o.sl).toNat else if o.nx = 1 then 39 else if o.nx = 2 then (if 0 ≤ penN (o.m.ws 0) then 30 else 5) else if o.nx = 3 then 10 + left c (ws 0) (ws1 c ws o.sl) ⟨o.m, o.hn, o.hs⟩ else if o.nx = 4 then 4 else if o.nx = 5 then 3 else 0

theorem omu_step {c : Cf} (hr : c.r = true) {ws : Nat → Nat} {o : Os} (h : Al c ws o) (hn : o.nx ≠ 6) : omu c ws (ostep c o) < omu c ws o := by
  have h6 := h.nx
  have ha := al_step hr h
  rcases (by omega : o.nx = 0 ∨ o.nx = 1 ∨ o.nx = 2 ∨ o.nx = 3 ∨ o.nx = 4 ∨ o.nx = 5) with e | e | e | e | e | e
  · obtain ⟨l0, l1, _, _⟩ := h.lo e
    have : omu c ws o = 40 + (c.s - o.sl).toNat := by unfold omu; rw [if_pos e]
    rw [this]
    unfold ostep
    rw [if_pos e]
    split
    · show (39 : Nat) < _
      omega
    · unfold ogo
      split
      · show (0 : Nat) < _
        omega
      · show 40 + (c.s - (o.sl + 1)).toNat < _
        omega
  · have hA := al_take hr h e
    have : omu c ws o = 39 := by unfold omu; rw [if_neg (by omega), if_pos e]
    rw [this]
    have hnx : (ostep c o).nx = 2 := by
      obtain ⟨hg, hs⟩ := h.tk (by omega) (by omega)
      obtain ⟨s1, _, _⟩ := sl_cells hr hg.lo hg.hi
      unfold ostep
      rw [if_neg (by omega), if_pos e, if_pos]
      rw [swap_done]
      exact decide_eq_true ⟨by omega, by rw [h.t1 e, hs]⟩
    unfold omu
    rw [if_neg (by omega), if_neg (by omega), if_pos hnx]
    split <;> omega
  · have hold : (mtouch c o.m 1 1 0 0 0).l.old = o.m.ws 0 := by rw [load_old, cl_tally hr, if_pos (by decide)]; rfl
    by_cases hp : 0 ≤ penN (o.m.ws 0)
    · have : omu c ws o = 30 := by unfold omu; rw [if_neg (by omega), if_neg (by omega), if_pos e, if_pos hp]
      rw [this]
      have hnx : (ostep c o).nx = 3 := by
        unfold ostep
        rw [if_neg (by omega), if_neg (by omega), if_pos e, hold, if_pos hp]
      unfold omu
      rw [if_neg (by omega), if_neg (by omega), if_neg (by omega), if_pos hnx]
      have := left_le c (ws 0) (ws1 c ws (ostep c o).sl) ⟨(ostep c o).m, (ostep c o).hn, (ostep c o).hs⟩
      omega
    · have : omu c ws o = 5 := by unfold omu; rw [if_neg (by omega), if_neg (by omega), if_pos e, if_neg hp]
      rw [this]
      have hnx : (ostep c o).nx = 4 := by
        unfold ostep
        rw [if_neg (by omega), if_neg (by omega), if_pos e, hold, if_neg hp]
      unfold omu
      rw [if_neg (by omega), if_neg (by omega), if_neg (by omega), if_neg (by omega), if_pos hnx]
      decide
  · obtain ⟨hg, hs⟩ := h.tk (by omega) (by omega)
    obtain ⟨s1, _, _⟩ := sl_cells hr hg.lo hg.hi
    obtain ⟨e1, hp, hM, hK, hn4⟩ := h.t3 e
    have hl := left_step hr (h := ⟨o.m, o.hn, o.hs⟩) hM hK hn4
    obtain ⟨k1, k2, _⟩ := know_step hr (h := ⟨o.m, o.hn, o.hs⟩) hM hK
    have : omu c ws o = 10 + left c (ws 0) (ws1 c ws o.sl) ⟨o.m, o.hn, o.hs⟩ := by unfold omu; rw [if_neg (by omega), if_neg (by omega), if_neg (by omega), if_pos e]
    rw [this]
    unfold ostep
    rw [if_neg (by omega), if_neg (by omega), if_neg (by omega), if_pos e, e1]
    generalize hstep c (ws 0) ⟨o.m, o.hn, o.hs⟩ = H at *
    by_cases h4 : H.nx = 4
    · rw [if_pos h4]
      have he := know_end hr k1 k2 h4 0
      have e0 : H.m.ws 0 = setlN (ws 0) := he.trans (ws2_zero s1)
      show (if 0 ≤ penN (H.m.ws 0) then 30 else 5) < _
      rw [e0, pen_setl, if_neg (by decide)]
      omega
    · rw [if_neg h4]
      show 10 + left c (ws 0) (ws1 c ws o.sl) ⟨H.m, H.nx, H.s⟩ < _
      have : left c (ws 0) (ws1 c ws o.sl) ⟨H.m, H.nx, H.s⟩ = left c (ws 0) (ws1 c ws o.sl) H := rfl
      omega
  · have : omu c ws o = 4 := by unfold omu; rw [if_neg (by omega), if_neg (by omega), if_neg (by omega), if_neg (by omega), if_pos e]
    rw [this]
    unfold ostep
    rw [if_neg (by omega), if_neg (by omega), if_neg (by omega), if_neg (by omega), if_pos e]
    show (3 : Nat) < 4
    decide
  · have : omu c ws o = 3 := by unfold omu; rw [if_neg (by omega), if_neg (by omega), if_neg (by omega), if_neg (by omega), if_neg (by omega), if_pos e]
    rw [this]
    unfold ostep
    rw [if_neg (by omega), if_neg (by omega), if_neg (by omega), if_neg (by omega), if_neg (by omega), if_pos e]
    show (0 : Nat) < 3
    decide

/-- a new beginning -/
def onew (m : Mm) : Os := ⟨m, 0, 0, 0, 0, 0, 0, 0, 0, 0, 0⟩

theorem al_new {c : Cf} (hr : c.r = true) (m : Mm) : Al c m.ws (onew m) := by
  have hb := c.rb hr
  exact ⟨(show 0 ≤ 6 by decide), fun _ => ⟨(show (0 : Int) ≤ 0 by decide), (show (0 : Int) < c.s by omega), fun _ => rfl, (fun i i0 i1 => by have : i < 0 := i1; omega)⟩, (fun q _ => absurd (show 1 ≤ 0 from q) (by decide)), (fun q => by cases q), (fun q => by cases q), (fun q => by cases q), (fun q => by cases q), (fun q => by cases q), (fun q => by cases q)⟩

/-- alone it ends -/
theorem al_ends {c : Cf} (hr : c.r = true) (m : Mm) {k : Nat} (hk : 60 ≤ k) : Al c m.ws (oit c (onew m) k) ∧ (oit c (onew m) k).nx = 6 := by
  have main : ∀ k, Al c m.ws (oit c (onew m) k) ∧ (omu c m.ws (oit c (onew m) k) + k ≤ omu c m.ws (onew m) ∨ (oit c (onew m) k).nx = 6) := by
    intro k
    induction k with
    | zero => exact ⟨al_new hr m, .inl (Nat.le_refl _)⟩
    | succ k ih =>
      obtain ⟨i1, i2⟩ := ih
      refine ⟨al_step hr i1, ?_⟩
      by_cases hn : (oit c (onew m) k).nx = 6
      · right
        show (ostep c (oit c (onew m) k)).nx = 6
        rw [ostep_6 hn]
        exact hn
      · rcases i2 with i2 | i2
        · have := omu_step hr i1 hn
          left
          show omu c m.ws (ostep c (oit c (onew m) k)) + (k + 1) ≤ _
          omega
        · exact absurd i2 hn
  have hb := c.rb hr
  have h0 : omu c m.ws (onew m) = 40 + (c.s - 0).toNat := rfl
  obtain ⟨h1, h2⟩ := main k
  refine ⟨h1, ?_⟩
  rcases h2 with h2 | h2
  · omega
  · exact h2

/-- where all is full, each step is a look -/
theorem full_steps {c : Cf} (hr : c.r = true) (m : Mm) (hf : Full c m.ws) {k : Nat} (hk : (k : Int) < c.s) : (oit c (onew m) k).nx = 0 ∧ (oit c (onew m) k).sl = k ∧ ∀ i, (oit c (onew m) k).m.ws i = m.ws i := by
  induction k with
  | zero => exact ⟨rfl, rfl, fun _ => rfl⟩
  | succ k ih =>
    obtain ⟨i1, i2, i3⟩ := ih (by omega)
    have hs : oit c (onew m) (k + 1) = ostep c (oit c (onew m) k) := rfl
    rw [hs]
    generalize oit c (onew m) k = o at *
    obtain ⟨s1, _, _⟩ := sl_cells hr (f := (k : Int)) (by omega) (by omega)
    have hws : (mtouch c o.m 1 4 o.sl 0 0).ws = o.m.ws := load_ws c o.m 4 o.sl
    have hold : (mtouch c o.m 1 4 o.sl 0 0).l.old = m.ws (c.cl 4 (k : Int)).toNat := by rw [load_old, i2, if_pos (by omega), i3]
    have hfr := hf (k : Int) (by omega) (by omega)
    unfold ostep
    rw [if_pos i1, hold, hfr]
    show (ogo c o _ _).nx = 0 ∧ (ogo c o _ _).sl = _ ∧ ∀ i, (ogo c o _ _).m.ws i = m.ws i
    unfold ogo
    rw [if_neg (by omega)]
    exact ⟨rfl, by show o.sl + 1 = _; rw [i2]; rfl, fun i => by show (mtouch c o.m 1 4 o.sl 0 0).ws i = _; rw [hws]; exact i3 i⟩

end Um

/-
  Plain arithmetic of layer 9: two at once, over a new world. No Go in sight.
-/
namespace Um
set_option maxRecDepth 100000

theorem st_move (s st : Nat) (hs : st < 8) : stN (moveN s st false) = st := (move_parts s st false hs).2.1

theorem Cf.g_bd {c : Cf} (h : c.r = true) : 0 ≤ c.g ∧ c.g ≤ 1073741823 := by
  have := of_decide_eq_true (show decide _ = true from h)
  omega

/-- a word 0 is free -/
theorem fr_zero {c : Cf} (hr : c.r = true) : frN c 0 = true := by
  have := Cf.g_bd hr
  exact decide_eq_true ⟨rfl, by show ((0 : Nat) : Int) ≤ c.g; omega⟩

theorem fr_not {c : Cf} {x : Nat} (h : stN x ≠ 0) : frN c x = false := decide_eq_false (fun q => h q.1)

/-- a slot is one's: it was taken by it -/
def Owns (o : Os) (i : Int) : Prop := 2 ≤ o.nx ∧ (o.nx = 6 → o.te = 0) ∧ o.sl = i

structure Side9 (c : Cf) (m : Mm) (a b : Os) : Prop where
  nx : a.nx ≤ 6
  n3 : a.nx ≠ 3
  lo : 0 ≤ a.sl
  lt : a.nx ≤ 5 → a.sl < c.s
  s : 1 ≤ a.nx → a.nx ≤ 5 → a.s = 0
  pass : ∀ i : Int, 0 ≤ i → i < a.sl → Owns b i
  mine : Owns a a.sl → stN (m.ws (c.cl 4 a.sl).toNat) ≠ 0 ∧ a.sl < c.s
  end6 : a.nx = 6 → (a.te = 0 ∧ a.th = mkN a.sl 0) ∨ (a.te = 6 ∧ a.sl = c.s)

structure Duo9 (c : Cf) (m : Mm) (a b : Os) : Prop where
  tal : m.ws 0 = 0
  A : Side9 c m a b
  B : Side9 c m b a
  apart : ∀ i, Owns a i → ¬ Owns b i
  all : ∀ i : Int, 0 ≤ i → i < c.s → m.ws (c.cl 4 i).toNat = 0 ∨ Owns a i ∨ Owns b i

theorem Duo9.swap {c : Cf} {m : Mm} {a b : Os} (h : Duo9 c m a b) : Duo9 c m b a :=
  ⟨h.tal, h.B, h.A, fun i q r => h.apart i r q, fun i i0 i1 => (h.all i i0 i1).imp id Or.symm⟩

/-- the other one's side, behind a step -/
theorem Side9.other {c : Cf} {m m' : Mm} {a a' b : Os} (h : Side9 c m b a) (ho : ∀ i, Owns a i → Owns a' i) (hw : Owns b b.sl → m'.ws (c.cl 4 b.sl).toNat = m.ws (c.cl 4 b.sl).toNat) : Side9 c m' b a' :=
  ⟨h.nx, h.n3, h.lo, h.lt, h.s, fun i i0 i1 => ho i (h.pass i i0 i1), fun q => by rw [hw q]; exact h.mine q, h.end6⟩

theorem st_cell_ne {c : Cf} (hr : c.r = true) {i j : Int} (hi0 : 0 ≤ i) (hi1 : i < c.s) (hj0 : 0 ≤ j) (hj1 : j < c.s) (hne : i ≠ j) : c.cl 4 i ≠ c.cl 4 j := by
  have h1 := (sl_cells hr hi0 hi1).1
  have h2 := (sl_cells hr hj0 hj1).1
  intro e
  exact hne (cell_inj c.rb (show 0 ≤ c.cl 4 i by omega) (show 0 ≤ c.cl 4 j by omega) e).2

theorem st_snap_ne {c : Cf} (hr : c.r = true) {i j : Int} (hi0 : 0 ≤ i) (hi1 : i < c.s) (hj0 : 0 ≤ j) (hj1 : j < c.s) : c.cl 4 i ≠ c.cl 5 j := by
  have h1 := (sl_cells hr hi0 hi1).1
  have h2 := sl_cells hr hj0 hj1
  intro e
  have := (cell_inj c.rb (show 0 ≤ c.cl 4 i by omega) (show 0 ≤ c.cl 5 j by omega) e).1
  omega

/-- one passes a slot that is the other one's -/
theorem duo_pass {c : Cf} {m M : Mm} {a b : Os} (h : Duo9 c m a b) (hn : a.nx ≤ 1) (ho : Owns b a.sl) (hM : M.ws = m.ws) (s : Nat) : Duo9 c M (ogo c a M s) b := by
  have hlt := h.A.lt (by omega)
  have hlo := h.A.lo
  have hno : ∀ i, ¬ Owns a i := fun i q => by have := q.1; omega
  have hno2 : ∀ i, ¬ Owns (ogo c a M s) i := by
    intro i q
    unfold ogo at q
    split at q
    · have := q.2.1 rfl
      have : (6 : Int) = 0 := this
      omega
    · have : 2 ≤ 0 := q.1
      omega
  have hps : ∀ i : Int, 0 ≤ i → i < a.sl + 1 → Owns b i := by
    intro i i0 i1
    by_cases e : i = a.sl
    · rw [e]; exact ho
    · exact h.A.pass i i0 (by omega)
  refine ⟨by rw [hM]; exact h.tal, ?_, h.B.other (fun i q => absurd q (hno i)) (fun _ => by rw [hM]), fun i q => absurd q (hno2 i), fun i i0 i1 => ?_⟩
  · unfold ogo at hno2 ⊢
    split
    · rename_i hge
      rw [if_pos hge] at hno2
      exact ⟨(show 6 ≤ 6 by decide), (show 6 ≠ 3 by decide), (show 0 ≤ a.sl + 1 by omega), (fun q => absurd (show 6 ≤ 5 from q) (by decide)), (fun _ q => absurd (show 6 ≤ 5 from q) (by decide)), hps, fun q => absurd q (hno2 _), fun _ => .inr ⟨rfl, (show a.sl + 1 = c.s by omega)⟩⟩
    · rename_i hge
      rw [if_neg hge] at hno2
      exact ⟨(show 0 ≤ 6 by decide), (show 0 ≠ 3 by decide), (show 0 ≤ a.sl + 1 by omega), (fun _ => show a.sl + 1 < c.s by omega), (fun q => absurd (show 1 ≤ 0 from q) (by decide)), hps, fun q => absurd q (hno2 _), (fun q => by cases q)⟩
  · rw [hM]
    rcases h.all i i0 i1 with q | q | q
    · exact .inl q
    · exact absurd q (hno i)
    · exact .inr (.inr q)

/-- a step of the first one -/
theorem duo_step {c : Cf} (hr : c.r = true) {m : Mm} {a b : Os} (ha : a.m = m) (h : Duo9 c m a b) : Duo9 c (ostep c a).m (ostep c a) b := by
  subst ha
  have h6 := h.A.nx
  have h3 := h.A.n3
  have hlo := h.A.lo
  rcases (by omega : a.nx = 0 ∨ a.nx = 1 ∨ a.nx = 2 ∨ a.nx = 4 ∨ a.nx = 5 ∨ a.nx = 6) with e | e | e | e | e | e
  · -- look
    have hlt := h.A.lt (by omega)
    obtain ⟨s1, _, _⟩ := sl_cells hr hlo hlt
    have hno : ∀ i, ¬ Owns a i := fun i q => by have := q.1; omega
    have hws : (mtouch c a.m 1 4 a.sl 0 0).ws = a.m.ws := load_ws c a.m 4 a.sl
    have hold : (mtouch c a.m 1 4 a.sl 0 0).l.old = a.m.ws (c.cl 4 a.sl).toNat := by rw [load_old, if_pos (by omega)]
    unfold ostep
    rw [if_pos e, hold]
    rcases h.all a.sl hlo hlt with q | q | q
    · rw [q, if_pos (fr_zero hr)]
      have hno2 : ∀ i, ¬ Owns ⟨mtouch c a.m 1 4 a.sl 0 0, a.sl, 1, 0, a.q, a.w, a.hn, a.hs, a.te, a.th, a.tn⟩ i := fun i r => by have : 2 ≤ 1 := r.1; omega
      exact ⟨(by show (mtouch c a.m 1 4 a.sl 0 0).ws 0 = 0; rw [hws]; exact h.tal), ⟨(show 1 ≤ 6 by decide), (show 1 ≠ 3 by decide), hlo, fun _ => hlt, fun _ _ => rfl, h.A.pass, fun r => absurd r (hno2 _), (fun r => by cases r)⟩,
        h.B.other (fun i r => absurd r (hno i)) (fun _ => by show (mtouch c a.m 1 4 a.sl 0 0).ws _ = _; rw [hws]), fun i r => absurd r (hno2 i), fun i i0 i1 => by
          show (mtouch c a.m 1 4 a.sl 0 0).ws _ = 0 ∨ _
          rw [hws]
          rcases h.all i i0 i1 with r | r | r
          · exact .inl r
          · exact absurd r (hno i)
          · exact .inr (.inr r)⟩
    · exact absurd q (hno _)
    · have hst : stN (a.m.ws (c.cl 4 a.sl).toNat) ≠ 0 := by
        have := h.B.mine (by rw [q.2.2]; exact q)
        rw [q.2.2] at this
        exact this.1
      rw [if_neg (by rw [fr_not hst]; decide)]
      have := duo_pass (M := mtouch c a.m 1 4 a.sl 0 0) h (by omega) q hws (a.m.ws (c.cl 4 a.sl).toNat)
      have e1 : (ogo c a (mtouch c a.m 1 4 a.sl 0 0) (a.m.ws (c.cl 4 a.sl).toNat)).m = mtouch c a.m 1 4 a.sl 0 0 := by unfold ogo; split <;> rfl
      rw [e1]
      exact this
  · -- take
    have hlt := h.A.lt (by omega)
    obtain ⟨s1, _, _⟩ := sl_cells hr hlo hlt
    have hs0 := h.A.s (by omega) (by omega)
    have hno : ∀ i, ¬ Owns a i := fun i q => by have := q.1; omega
    have hdn := swap_done c a.m 4 a.sl a.s (moveN a.s 1 false)
    unfold ostep
    rw [if_neg (by omega), if_pos e]
    rcases h.all a.sl hlo hlt with q | q | q
    · rw [decide_eq_true (show _ from ⟨by omega, by rw [q, hs0]⟩)] at hdn
      rw [if_pos hdn]
      have hb0 : ¬ Owns b a.sl := by
        intro r
        have := h.B.mine (by rw [r.2.2]; exact r)
        rw [r.2.2, q] at this
        exact this.1 rfl
      have hne : ∀ i : Int, 0 ≤ i → i < c.s → i ≠ a.sl → (mtouch c a.m 3 4 a.sl a.s (moveN a.s 1 false)).ws (c.cl 4 i).toNat = a.m.ws (c.cl 4 i).toNat := by
        intro i i0 i1 hi
        have := st_cell_ne hr i0 i1 hlo hlt hi
        have := (sl_cells hr i0 i1).1
        rw [swap_ws, if_neg (by rintro ⟨r, _⟩; omega)]
      have hme : (mtouch c a.m 3 4 a.sl a.s (moveN a.s 1 false)).ws (c.cl 4 a.sl).toNat = moveN a.s 1 false := by rw [swap_ws, if_pos ⟨by omega, by rw [q, hs0]⟩]
      refine ⟨?_, ⟨(show 2 ≤ 6 by decide), (show 2 ≠ 3 by decide), hlo, fun _ => hlt, fun _ _ => hs0, h.A.pass, fun _ => ⟨?_, hlt⟩, (fun r => by cases r)⟩, h.B.other (fun i r => absurd r (hno i)) (fun r => ?_), fun i r => ?_, fun i i0 i1 => ?_⟩
      · show (mtouch c a.m 3 4 a.sl a.s (moveN a.s 1 false)).ws 0 = 0
        rw [swap_ws, if_neg (by rintro ⟨r, _⟩; omega)]
        exact h.tal
      · show stN ((mtouch c a.m 3 4 a.sl a.s (moveN a.s 1 false)).ws (c.cl 4 a.sl).toNat) ≠ 0
        rw [hme, st_move _ _ (by decide)]
        decide
      · exact hne b.sl h.B.lo (h.B.mine r).2 (fun e => hb0 (by rw [← e]; exact r))
      · have : a.sl = i := r.2.2
        rw [← this]
        exact hb0
      · show (mtouch c a.m 3 4 a.sl a.s (moveN a.s 1 false)).ws _ = 0 ∨ _
        by_cases ei : i = a.sl
        · exact .inr (.inl ⟨(show 2 ≤ 2 by decide), (fun r => by cases r), ei.symm⟩)
        · rw [hne i i0 i1 ei]
          rcases h.all i i0 i1 with r | r | r
          · exact .inl r
          · exact absurd r (hno i)
          · exact .inr (.inr r)
    · exact absurd q (hno _)
    · have hst : stN (a.m.ws (c.cl 4 a.sl).toNat) ≠ 0 := by
        have := h.B.mine (by rw [q.2.2]; exact q)
        rw [q.2.2] at this
        exact this.1
      have hn0 : a.m.ws (c.cl 4 a.sl).toNat ≠ a.s := fun r => hst (by rw [r, hs0]; rfl)
      rw [decide_eq_false (fun r => hn0 r.2)] at hdn
      rw [if_neg (by rw [hdn]; decide)]
      have hws : (mtouch c a.m 3 4 a.sl a.s (moveN a.s 1 false)).ws = a.m.ws := by
        funext i
        rw [swap_ws]
        split
        · rename_i r
          exfalso
          refine hn0 ?_
          rw [← r.1]
          exact r.2
        · rfl
      have := duo_pass (M := mtouch c a.m 3 4 a.sl a.s (moveN a.s 1 false)) h (by omega) q hws a.s
      have e1 : (ogo c a (mtouch c a.m 3 4 a.sl a.s (moveN a.s 1 false)) a.s).m = mtouch c a.m 3 4 a.sl a.s (moveN a.s 1 false) := by unfold ogo; split <;> rfl
      rw [e1]
      exact this
  · -- tally
    have hlt := h.A.lt (by omega)
    have hws : (mtouch c a.m 1 1 0 0 0).ws = a.m.ws := load_ws c a.m 1 0
    have hold : (mtouch c a.m 1 1 0 0 0).l.old = 0 := by rw [load_old, cl_tally hr, if_pos (by decide)]; exact h.tal
    unfold ostep
    rw [if_neg (by omega), if_neg (by omega), if_pos e, hold, if_neg (by decide)]
    have ho : ∀ i, Owns a i ↔ Owns ⟨mtouch c a.m 1 1 0 0 0, a.sl, 4, a.s, seqN 0, a.w, a.hn, a.hs, a.te, a.th, a.tn⟩ i := fun i => ⟨fun r => ⟨(show 2 ≤ 4 by decide), (fun q => by cases q), r.2.2⟩, fun r => ⟨by omega, fun q => by omega, r.2.2⟩⟩
    exact ⟨(by show (mtouch c a.m 1 1 0 0 0).ws 0 = 0; rw [hws]; exact h.tal), ⟨(show 4 ≤ 6 by decide), (show 4 ≠ 3 by decide), hlo, fun _ => hlt, fun _ _ => h.A.s (by omega) (by omega), h.A.pass, fun r => by
        show stN ((mtouch c a.m 1 1 0 0 0).ws _) ≠ 0 ∧ _
        rw [hws]
        exact h.A.mine ((ho _).2 r), (fun r => by cases r)⟩,
      h.B.other (fun i r => (ho i).1 r) (fun _ => by show (mtouch c a.m 1 1 0 0 0).ws _ = _; rw [hws]), fun i r => h.apart i ((ho i).2 r), fun i i0 i1 => by
        show (mtouch c a.m 1 1 0 0 0).ws _ = 0 ∨ _
        rw [hws]
        exact (h.all i i0 i1).imp id (Or.imp (ho i).1 id)⟩
  · -- note
    have hlt := h.A.lt (by omega)
    obtain ⟨s1, s2, _⟩ := sl_cells hr hlo hlt
    have hne : ∀ i : Int, 0 ≤ i → i < c.s → (mtouch c a.m 2 5 a.sl 0 a.q).ws (c.cl 4 i).toNat = a.m.ws (c.cl 4 i).toNat := by
      intro i i0 i1
      have := st_snap_ne hr i0 i1 hlo hlt
      have := (sl_cells hr i0 i1).1
      rw [put_ws, if_neg (by omega)]
    unfold ostep
    rw [if_neg (by omega), if_neg (by omega), if_neg (by omega), if_neg (by omega), if_pos e]
    have ho : ∀ i, Owns a i ↔ Owns ⟨mtouch c a.m 2 5 a.sl 0 a.q, a.sl, 5, a.s, a.q, a.w, a.hn, a.hs, a.te, a.th, a.tn⟩ i := fun i => ⟨fun r => ⟨(show 2 ≤ 5 by decide), (fun q => by cases q), r.2.2⟩, fun r => ⟨by omega, fun q => by omega, r.2.2⟩⟩
    exact ⟨(by show (mtouch c a.m 2 5 a.sl 0 a.q).ws 0 = 0; rw [put_ws, if_neg (by omega)]; exact h.tal), ⟨(show 5 ≤ 6 by decide), (show 5 ≠ 3 by decide), hlo, fun _ => hlt, fun _ _ => h.A.s (by omega) (by omega), h.A.pass, fun r => by
        show stN ((mtouch c a.m 2 5 a.sl 0 a.q).ws _) ≠ 0 ∧ _
        rw [hne _ hlo hlt]
        exact h.A.mine ((ho _).2 r), (fun r => by cases r)⟩,
      h.B.other (fun i r => (ho i).1 r) (fun r => hne _ h.B.lo (h.B.mine r).2), fun i r => h.apart i ((ho i).2 r), fun i i0 i1 => by
        show (mtouch c a.m 2 5 a.sl 0 a.q).ws _ = 0 ∨ _
        rw [hne i i0 i1]
        exact (h.all i i0 i1).imp id (Or.imp (ho i).1 id)⟩
  · -- start
    have hlt := h.A.lt (by omega)
    have hs0 := h.A.s (by omega) (by omega)
    obtain ⟨s1, s2, _⟩ := sl_cells hr hlo hlt
    have hne : ∀ i : Int, 0 ≤ i → i < c.s → i ≠ a.sl → (mtouch c a.m 2 4 a.sl 0 (moveN a.s 2 false)).ws (c.cl 4 i).toNat = a.m.ws (c.cl 4 i).toNat := by
      intro i i0 i1 hi
      have := st_cell_ne hr i0 i1 hlo hlt hi
      have := (sl_cells hr i0 i1).1
      rw [put_ws, if_neg (by omega)]
    unfold ostep
    rw [if_neg (by omega), if_neg (by omega), if_neg (by omega), if_neg (by omega), if_neg (by omega), if_pos e]
    have ho : ∀ i, Owns a i ↔ Owns ⟨mtouch c a.m 2 4 a.sl 0 (moveN a.s 2 false), a.sl, 6, a.s, a.q, a.w, a.hn, a.hs, 0, mkN a.sl (gnN a.s), a.q⟩ i := fun i => ⟨fun r => ⟨(show 2 ≤ 6 by decide), fun _ => rfl, r.2.2⟩, fun r => ⟨by omega, fun q => by omega, r.2.2⟩⟩
    have hmy : Owns a a.sl := ⟨by omega, fun q => by omega, rfl⟩
    refine ⟨?_, ⟨(show 6 ≤ 6 by decide), (show 6 ≠ 3 by decide), hlo, (fun r => absurd (show 6 ≤ 5 from r) (by decide)), (fun _ r => absurd (show 6 ≤ 5 from r) (by decide)), h.A.pass, fun _ => ⟨?_, hlt⟩, fun _ => .inl ⟨rfl, ?_⟩⟩, h.B.other (fun i r => (ho i).1 r) (fun r => ?_), fun i r => h.apart i ((ho i).2 r), fun i i0 i1 => ?_⟩
    · show (mtouch c a.m 2 4 a.sl 0 (moveN a.s 2 false)).ws 0 = 0
      rw [put_ws, if_neg (by omega)]
      exact h.tal
    · show stN ((mtouch c a.m 2 4 a.sl 0 (moveN a.s 2 false)).ws (c.cl 4 a.sl).toNat) ≠ 0
      rw [put_ws, if_pos (by omega), st_move _ _ (by decide)]
      decide
    · show mkN a.sl (gnN a.s) = mkN a.sl 0
      rw [hs0]
      rfl
    · exact hne b.sl h.B.lo (h.B.mine r).2 (fun q => h.apart a.sl hmy (by rw [← q]; exact r))
    · show (mtouch c a.m 2 4 a.sl 0 (moveN a.s 2 false)).ws _ = 0 ∨ _
      by_cases ei : i = a.sl
      · exact .inr (.inl ((ho i).1 (by rw [ei]; exact hmy)))
      · rw [hne i i0 i1 ei]
        exact (h.all i i0 i1).imp id (Or.imp (ho i).1 id)
  · rw [ostep_6 e]
    exact h

end Um

/-
  Plain arithmetic of layer 9: two at once, to their end; commits that are counted meanwhile. No Go in sight.
-/
namespace Um
set_option maxRecDepth 100000

/-- how many steps are left at most, where nothing is pending -/
def pmu (c : Cf) (a : Os) : Nat :=
  if a.nx = 0 then 10 + 2 * (c.s - a.sl).toNat else if a.nx = 1 then 9 + 2 * (c.s - a.sl).toNat else if a.nx = 2 then 5 else if a.nx = 4 then 4 else if a.nx = 5 then 3 else 0

theorem pmu_go {c : Cf} {a : Os} {M : Mm} {s : Nat} : pmu c (ogo c a M s) < 9 + 2 * (c.s - a.sl).toNat := by
  unfold ogo
  split
  · show (0 : Nat) < _
    omega
  · show 10 + 2 * (c.s - (a.sl + 1)).toNat < _
    omega

theorem duo_mu {c : Cf} (hr : c.r = true) {a b : Os} (h : Duo9 c a.m a b) (hn : a.nx ≠ 6) : pmu c (ostep c a) < pmu c a := by
  have h6 := h.A.nx
  have h3 := h.A.n3
  rcases (by omega : a.nx = 0 ∨ a.nx = 1 ∨ a.nx = 2 ∨ a.nx = 4 ∨ a.nx = 5) with e | e | e | e | e
  · have hlt := h.A.lt (by omega)
    have : pmu c a = 10 + 2 * (c.s - a.sl).toNat := by unfold pmu; rw [if_pos e]
    rw [this]
    unfold ostep
    rw [if_pos e]
    split
    · show 9 + 2 * (c.s - a.sl).toNat < _
      omega
    · have := pmu_go (c := c) (a := a) (M := mtouch c a.m 1 4 a.sl 0 0) (s := (mtouch c a.m 1 4 a.sl 0 0).l.old)
      omega
  · have hlt := h.A.lt (by omega)
    have : pmu c a = 9 + 2 * (c.s - a.sl).toNat := by unfold pmu; rw [if_neg (by omega), if_pos e]
    rw [this]
    unfold ostep
    rw [if_neg (by omega), if_pos e]
    split
    · show (5 : Nat) < _
      omega
    · exact pmu_go
  · have hold : (mtouch c a.m 1 1 0 0 0).l.old = 0 := by rw [load_old, cl_tally hr, if_pos (by decide)]; exact h.tal
    have : pmu c a = 5 := by unfold pmu; rw [if_neg (by omega), if_neg (by omega), if_pos e]
    rw [this]
    unfold ostep
    rw [if_neg (by omega), if_neg (by omega), if_pos e, hold, if_neg (by decide)]
    show (4 : Nat) < 5
    decide
  · have : pmu c a = 4 := by unfold pmu; rw [if_neg (by omega), if_neg (by omega), if_neg (by omega), if_pos e]
    rw [this]
    unfold ostep
    rw [if_neg (by omega), if_neg (by omega), if_neg (by omega), if_neg (by omega), if_pos e]
    show (3 : Nat) < 4
    decide
  · have : pmu c a = 3 := by unfold pmu; rw [if_neg (by omega), if_neg (by omega), if_neg (by omega), if_neg (by omega), if_pos e]
    rw [this]
    unfold ostep
    rw [if_neg (by omega), if_neg (by omega), if_neg (by omega), if_neg (by omega), if_neg (by omega), if_pos e]
    show (0 : Nat) < 3
    decide

theorem pmu_le {c : Cf} (hr : c.r = true) {a b : Os} {m : Mm} (h : Side9 c m a b) : pmu c a ≤ 34 := by
  have hb := c.rb hr
  have := h.lo
  unfold pmu
  (repeat' split) <;> omega

theorem duo_ends {c : Cf} (hr : c.r = true) {a b : Os} (h : Duo9 c a.m a b) {k : Nat} (hk : 35 ≤ k) (A : Os) (hA : A = oit c a k) : Duo9 c A.m A b ∧ A.nx = 6 := by
  have main : ∀ k, Duo9 c (oit c a k).m (oit c a k) b ∧ (pmu c (oit c a k) + k ≤ pmu c a ∨ (oit c a k).nx = 6) := by
    intro k
    induction k with
    | zero => exact ⟨h, .inl (Nat.le_refl _)⟩
    | succ k ih =>
      obtain ⟨i1, i2⟩ := ih
      refine ⟨duo_step hr rfl i1, ?_⟩
      by_cases hn : (oit c a k).nx = 6
      · right
        show (ostep c (oit c a k)).nx = 6
        rw [ostep_6 hn]
        exact hn
      · rcases i2 with i2 | i2
        · have := duo_mu hr i1 hn
          left
          show pmu c (ostep c (oit c a k)) + (k + 1) ≤ _
          omega
        · exact absurd i2 hn
  have := pmu_le hr h.A
  obtain ⟨h1, h2⟩ := main k
  rw [← hA] at h1 h2
  refine ⟨h1, ?_⟩
  rcases h2 with h2 | h2
  · omega
  · exact h2

theorem duo_new {c : Cf} (hr : c.r = true) (m : Mm) (h0 : ∀ i, m.ws i = 0) : Duo9 c m (onew m) (onew m) := by
  have hb := c.rb hr
  have hno : ∀ i, ¬ Owns (onew m) i := fun i q => by have : 2 ≤ 0 := q.1; omega
  have hs : Side9 c m (onew m) (onew m) := ⟨(show 0 ≤ 6 by decide), (show 0 ≠ 3 by decide), (show (0 : Int) ≤ 0 by decide), (fun _ => show (0 : Int) < c.s by omega), (fun q => absurd (show 1 ≤ 0 from q) (by decide)), (fun i i0 i1 => by have : i < 0 := i1; omega), fun q => absurd q (hno _), (fun q => by cases q)⟩
  exact ⟨h0 0, hs, hs, fun i q => absurd q (hno i), fun i _ _ => .inl (h0 _)⟩

/-- what two tell -/
theorem duo_tell {c : Cf} (hr : c.r = true) {m : Mm} {a b : Os} (h : Duo9 c m a b) (ha : a.nx = 6) (hb : b.nx = 6) :
    (a.te = 0 ∨ b.te = 0) ∧ (a.te = 0 → b.te = 0 → a.th ≠ b.th) ∧ (2 ≤ c.s → a.te = 0 ∧ b.te = 0) ∧ (a.te = 0 ∨ a.te = 6) ∧ (b.te = 0 ∨ b.te = 6) := by
  have hc := c.rb hr
  have one : ∀ {x y : Os}, Duo9 c m x y → x.nx = 6 → y.nx = 6 → (x.te = 0 ∧ x.th = mkN x.sl 0 ∧ x.sl < c.s) ∨ (x.te = 6 ∧ y.te = 0 ∧ c.s < 2) := by
    intro x y hd hx hy
    rcases hd.A.end6 hx with q | q
    · exact .inl ⟨q.1, q.2, (hd.A.mine ⟨by omega, fun _ => q.1, rfl⟩).2⟩
    · refine .inr ⟨q.1, ?_, ?_⟩
      · exact (hd.A.pass 0 (by decide) (by omega)).2.1 hy
      · rcases Int.lt_or_le c.s 2 with r | r
        · exact r
        · have p0 := (hd.A.pass 0 (by decide) (by omega)).2.2
          have p1 := (hd.A.pass 1 (by decide) (by omega)).2.2
          omega
  have qa := one h ha hb
  have qb := one h.swap hb ha
  refine ⟨?_, ?_, ?_, ?_, ?_⟩
  · rcases qa with q | q
    · exact .inl q.1
    · exact .inr q.2.1
  · intro t1 t2
    rcases qa with q | q
    · rcases qb with r | r
      · intro e
        rw [q.2.1, r.2.1] at e
        have k1 : mok a.sl 0 = true := mok_iff.2 ⟨h.A.lo, by omega, by decide, by decide⟩
        have k2 : mok b.sl 0 = true := mok_iff.2 ⟨h.B.lo, by omega, by decide, by decide⟩
        have := (mk_inj k1 k2).1 e
        exact h.apart a.sl ⟨by omega, fun _ => t1, rfl⟩ ⟨by omega, fun _ => t2, this.1.symm⟩
      · omega
    · omega
  · intro t
    rcases qa with q | q
    · rcases qb with r | r
      · exact ⟨q.1, r.1⟩
      · omega
    · omega
  · rcases qa with q | q
    · exact .inl q.1
    · exact .inr q.1
  · rcases qb with q | q
    · exact .inl q.1
    · exact .inr q.1

/-- one, while commits are counted: from so many on, up to now -/
structure Seen (c : Cf) (m : Mm) (o : Os) (sq now : Nat) : Prop where
  nx : o.nx ≤ 6
  n3 : o.nx ≠ 3
  sl : o.sl = 0
  tal : m.ws 0 = 16 * now
  le : sq ≤ now
  fr : o.nx ≤ 1 → m.ws (c.cl 4 0).toNat = 0
  s : o.nx = 1 → o.s = 0
  q : 4 ≤ o.nx → sq ≤ o.q ∧ o.q ≤ now
  sn : 5 ≤ o.nx → m.ws (c.cl 5 0).toNat = o.q
  t6 : o.nx = 6 → o.te = 0 ∧ o.tn = o.q

theorem seen_step {c : Cf} (hr : c.r = true) {o : Os} {sq now : Nat} (h : Seen c o.m o sq now) : Seen c (ostep c o).m (ostep c o) sq now := by
  have hb := c.rb hr
  have h6 := h.nx
  have h3 := h.n3
  have hsl := h.sl
  obtain ⟨s1, s2, _⟩ := sl_cells hr (f := 0) (by decide) (by omega)
  rcases (by omega : o.nx = 0 ∨ o.nx = 1 ∨ o.nx = 2 ∨ o.nx = 4 ∨ o.nx = 5 ∨ o.nx = 6) with e | e | e | e | e | e
  · have hws : (mtouch c o.m 1 4 o.sl 0 0).ws = o.m.ws := load_ws c o.m 4 o.sl
    have hold : (mtouch c o.m 1 4 o.sl 0 0).l.old = 0 := by rw [load_old, hsl, if_pos (by omega)]; exact h.fr (by omega)
    unfold ostep
    rw [if_pos e, hold, if_pos (fr_zero hr)]
    exact ⟨(show 1 ≤ 6 by decide), (show 1 ≠ 3 by decide), hsl, (by show (mtouch c o.m 1 4 o.sl 0 0).ws 0 = _; rw [hws]; exact h.tal), h.le, fun _ => (by show (mtouch c o.m 1 4 o.sl 0 0).ws _ = _; rw [hws]; exact h.fr (by omega)), fun _ => rfl, (fun q => absurd (show 4 ≤ 1 from q) (by decide)), (fun q => absurd (show 5 ≤ 1 from q) (by decide)), (fun q => by cases q)⟩
  · have hdn := swap_done c o.m 4 o.sl o.s (moveN o.s 1 false)
    rw [hsl, decide_eq_true (show _ from ⟨by omega, by rw [h.fr (by omega), h.s e]⟩)] at hdn
    unfold ostep
    rw [if_neg (by omega), if_pos e, hsl, if_pos hdn]
    exact ⟨(show 2 ≤ 6 by decide), (show 2 ≠ 3 by decide), rfl, (by show (mtouch c o.m 3 4 0 o.s (moveN o.s 1 false)).ws 0 = _; rw [swap_ws, if_neg (by rintro ⟨q, _⟩; omega)]; exact h.tal), h.le, (fun q => absurd (show 2 ≤ 1 from q) (by decide)), (fun q => by cases q), (fun q => absurd (show 4 ≤ 2 from q) (by decide)), (fun q => absurd (show 5 ≤ 2 from q) (by decide)), (fun q => by cases q)⟩
  · have hws : (mtouch c o.m 1 1 0 0 0).ws = o.m.ws := load_ws c o.m 1 0
    have hold : (mtouch c o.m 1 1 0 0 0).l.old = 16 * now := by rw [load_old, cl_tally hr, if_pos (by decide)]; exact h.tal
    have hp : ¬ 0 ≤ penN (16 * now) := by unfold penN; omega
    have hq : seqN (16 * now) = now := by unfold seqN; omega
    unfold ostep
    rw [if_neg (by omega), if_neg (by omega), if_pos e, hold, if_neg hp, hq]
    exact ⟨(show 4 ≤ 6 by decide), (show 4 ≠ 3 by decide), hsl, (by show (mtouch c o.m 1 1 0 0 0).ws 0 = _; rw [hws]; exact h.tal), h.le, (fun q => absurd (show 4 ≤ 1 from q) (by decide)), (fun q => by cases q), fun _ => ⟨h.le, Nat.le_refl _⟩, (fun q => absurd (show 5 ≤ 4 from q) (by decide)), (fun q => by cases q)⟩
  · unfold ostep
    rw [if_neg (by omega), if_neg (by omega), if_neg (by omega), if_neg (by omega), if_pos e, hsl]
    exact ⟨(show 5 ≤ 6 by decide), (show 5 ≠ 3 by decide), rfl, (by show (mtouch c o.m 2 5 0 0 o.q).ws 0 = _; rw [put_ws, if_neg (by omega)]; exact h.tal), h.le, (fun q => absurd (show 5 ≤ 1 from q) (by decide)), (fun q => by cases q), fun _ => h.q (by omega), fun _ => (by show (mtouch c o.m 2 5 0 0 o.q).ws _ = _; rw [put_ws, if_pos (by omega)]), (fun q => by cases q)⟩
  · unfold ostep
    rw [if_neg (by omega), if_neg (by omega), if_neg (by omega), if_neg (by omega), if_neg (by omega), if_pos e, hsl]
    exact ⟨(show 6 ≤ 6 by decide), (show 6 ≠ 3 by decide), rfl, (by show (mtouch c o.m 2 4 0 0 (moveN o.s 2 false)).ws 0 = _; rw [put_ws, if_neg (by omega)]; exact h.tal), h.le, (fun q => absurd (show 6 ≤ 1 from q) (by decide)), (fun q => by cases q), fun _ => h.q (by omega), fun _ => (by show (mtouch c o.m 2 4 0 0 (moveN o.s 2 false)).ws _ = _; rw [put_ws, if_neg (by omega)]; exact h.sn (by omega)), fun _ => ⟨rfl, rfl⟩⟩
  · rw [ostep_6 e]
    exact h

/-- one commit more -/
theorem Seen.more {c : Cf} (hr : c.r = true) {m m' : Mm} {o : Os} {sq now : Nat} (h : Seen c m o sq now) (hm : m' = mtouch c m 2 1 0 0 (16 * (now + 1))) : Seen c m' o sq (now + 1) := by
  have hb := c.rb hr
  obtain ⟨s1, s2, _⟩ := sl_cells hr (f := 0) (by decide) (by omega)
  have ct := cl_tally hr
  have e0 : m'.ws 0 = 16 * (now + 1) := by rw [hm, put_ws, if_pos (by omega)]
  have e4 : m'.ws (c.cl 4 0).toNat = m.ws (c.cl 4 0).toNat := by rw [hm, put_ws, if_neg (by omega)]
  have e5 : m'.ws (c.cl 5 0).toNat = m.ws (c.cl 5 0).toNat := by rw [hm, put_ws, if_neg (by omega)]
  have hle := h.le
  exact ⟨h.nx, h.n3, h.sl, e0, by omega, fun q => by rw [e4]; exact h.fr q, h.s, fun q => by have := h.q q; omega, fun q => by rw [e5]; exact h.sn q, h.t6⟩

theorem seen_new {c : Cf} (hr : c.r = true) (m m' : Mm) (h0 : ∀ i, m.ws i = 0) (sq : Nat) (hm : m' = mtouch c m 2 1 0 0 (16 * sq)) : Seen c m' (onew m') sq sq := by
  have hb := c.rb hr
  obtain ⟨s1, s2, _⟩ := sl_cells hr (f := 0) (by decide) (by omega)
  have ct := cl_tally hr
  have e0 : m'.ws 0 = 16 * sq := by rw [hm, put_ws, if_pos (by omega)]
  have e4 : m'.ws (c.cl 4 0).toNat = 0 := by rw [hm, put_ws, if_neg (by omega)]; exact h0 _
  exact ⟨(show 0 ≤ 6 by decide), (show 0 ≠ 3 by decide), rfl, e0, Nat.le_refl _, fun _ => e4, (fun q => by cases q), (fun q => absurd (show 4 ≤ 0 from q) (by decide)), (fun q => absurd (show 5 ≤ 0 from q) (by decide)), (fun q => by cases q)⟩

theorem seen_mu {c : Cf} (hr : c.r = true) {o : Os} {sq now : Nat} (h : Seen c o.m o sq now) (hn : o.nx ≠ 6) : o.nx < (ostep c o).nx := by
  have hb := c.rb hr
  have h6 := h.nx
  have h3 := h.n3
  have hsl := h.sl
  obtain ⟨s1, s2, _⟩ := sl_cells hr (f := 0) (by decide) (by omega)
  rcases (by omega : o.nx = 0 ∨ o.nx = 1 ∨ o.nx = 2 ∨ o.nx = 4 ∨ o.nx = 5) with e | e | e | e | e
  · have hold : (mtouch c o.m 1 4 o.sl 0 0).l.old = 0 := by rw [load_old, hsl, if_pos (by omega)]; exact h.fr (by omega)
    unfold ostep
    rw [if_pos e, hold, if_pos (fr_zero hr), e]
    show 0 < 1
    decide
  · have hdn := swap_done c o.m 4 o.sl o.s (moveN o.s 1 false)
    rw [hsl, decide_eq_true (show _ from ⟨by omega, by rw [h.fr (by omega), h.s e]⟩)] at hdn
    unfold ostep
    rw [if_neg (by omega), if_pos e, hsl, if_pos hdn, e]
    show 1 < 2
    decide
  · have hold : (mtouch c o.m 1 1 0 0 0).l.old = 16 * now := by rw [load_old, cl_tally hr, if_pos (by decide)]; exact h.tal
    have hp : ¬ 0 ≤ penN (16 * now) := by unfold penN; omega
    unfold ostep
    rw [if_neg (by omega), if_neg (by omega), if_pos e, hold, if_neg hp, e]
    show 2 < 4
    decide
  · unfold ostep
    rw [if_neg (by omega), if_neg (by omega), if_neg (by omega), if_neg (by omega), if_pos e, e]
    show 4 < 5
    decide
  · unfold ostep
    rw [if_neg (by omega), if_neg (by omega), if_neg (by omega), if_neg (by omega), if_neg (by omega), if_pos e, e]
    show 5 < 6
    decide

theorem seen_ends {c : Cf} (hr : c.r = true) {o : Os} {sq now : Nat} (h : Seen c o.m o sq now) {k : Nat} (hk : 6 ≤ k) (A : Os) (hA : A = oit c o k) : Seen c A.m A sq now ∧ A.nx = 6 := by
  have main : ∀ k, Seen c (oit c o k).m (oit c o k) sq now ∧ (k ≤ (oit c o k).nx ∨ (oit c o k).nx = 6) := by
    intro k
    induction k with
    | zero => exact ⟨h, .inl (Nat.zero_le _)⟩
    | succ k ih =>
      obtain ⟨i1, i2⟩ := ih
      refine ⟨seen_step hr i1, ?_⟩
      by_cases hn : (oit c o k).nx = 6
      · right
        show (ostep c (oit c o k)).nx = 6
        rw [ostep_6 hn]
        exact hn
      · rcases i2 with i2 | i2
        · have := seen_mu hr i1 hn
          left
          show k + 1 ≤ (ostep c (oit c o k)).nx
          omega
        · exact absurd i2 hn
  obtain ⟨h1, h2⟩ := main k
  rw [← hA] at h1 h2
  refine ⟨h1, ?_⟩
  have := h1.nx
  rcases h2 with h2 | h2
  · omega
  · exact h2

end Um

/-
  Plain arithmetic of layer 9: begun again and again; generations that are too great. No Go in sight.
-/
namespace Um
set_option maxRecDepth 100000

/-- so many slots have been got, of a world in which nothing is pending -/
structure Fu (c : Cf) (ws : Nat → Nat) (i : Int) : Prop where
  tal : ws 0 = 0
  low : ∀ j : Int, 0 ≤ j → j < i → stN (ws (c.cl 4 j).toNat) ≠ 0
  high : ∀ j : Int, i ≤ j → j < c.s → ws (c.cl 4 j).toNat = 0

theorem fu_full {c : Cf} {ws : Nat → Nat} (h : Fu c ws c.s) : Full c ws := fun i i0 i1 => fr_not (h.low i i0 i1)

theorem fu_step {c : Cf} (hr : c.r = true) {m : Mm} {i : Int} (h : Fu c m.ws i) (i0 : 0 ≤ i) (i1 : i < c.s) {k : Nat} (hk : 60 ≤ k) (A : Os) (hA : A = oit c (onew m) k) :
    A.nx = 6 ∧ A.te = 0 ∧ A.th = mkN i 0 ∧ A.tn = 0 ∧ Fu c A.m.ws (i + 1) := by
  obtain ⟨h1, h2⟩ := al_ends hr m hk
  rw [← hA] at h1 h2
  have hpen : ¬ 0 ≤ penN (m.ws 0) := by rw [h.tal]; decide
  rcases h1.t6 h2 with ⟨hf, _⟩ | ⟨f, hg, hw, t1, t2, t3⟩
  · have := hf i i0 i1
    rw [h.high i (Int.le_refl _) i1, fr_zero hr] at this
    cases this
  · have hfi : f = i := by
      rcases (by omega : f < i ∨ f = i ∨ i < f) with q | q | q
      · have := hg.fr
        rw [fr_not (h.low f hg.lo q)] at this
        cases this
      · exact q
      · have := hg.least i i0 q
        rw [h.high i (Int.le_refl _) i1, fr_zero hr] at this
        cases this
    subst hfi
    have z0 : m.ws (c.cl 4 f).toNat = 0 := h.high f (Int.le_refl _) i1
    obtain ⟨s1, s2, _⟩ := sl_cells hr i0 i1
    have w0 : A.m.ws 0 = 0 := by
      rw [hw]
      unfold ws3
      rw [if_neg (by omega), if_neg (by omega), ws2_zero s1, h.tal]
      rfl
    have wf : A.m.ws (c.cl 4 f).toNat = moveN 0 2 false := by
      rw [hw]
      unfold ws3
      rw [if_pos (by omega), z0]
    have wj : ∀ j : Int, 0 ≤ j → j < c.s → j ≠ f → A.m.ws (c.cl 4 j).toNat = m.ws (c.cl 4 j).toNat := by
      intro j j0 j1 hne
      have q1 := st_cell_ne hr j0 j1 i0 i1 hne
      have q2 := st_snap_ne hr j0 j1 i0 i1
      have q3 := (sl_cells hr j0 j1).1
      rw [hw]
      unfold ws3
      rw [if_neg (by omega), if_neg (by omega), ws2_none hr hpen]
      unfold ws1
      rw [if_neg (by omega)]
    refine ⟨h2, t1, ?_, ?_, ⟨w0, fun j j0 j1 => ?_, fun j j0 j1 => ?_⟩⟩
    · rw [t2, z0]
      rfl
    · rw [t3, h.tal]
      rfl
    · by_cases e : j = f
      · rw [e, wf, st_move _ _ (by decide)]
        decide
      · rw [wj j j0 (by omega) e]
        exact h.low j j0 (by omega)
    · rw [wj j (by omega) j1 (by omega)]
      exact h.high j (by omega) j1

theorem fu_new (c : Cf) (m : Mm) (h0 : ∀ i, m.ws i = 0) : Fu c m.ws 0 := ⟨h0 0, fun j j0 j1 => by omega, fun j _ _ => h0 _⟩

/-- where all is full: so many steps as there are slots, nothing is changed -/
theorem full_end {c : Cf} (hr : c.r = true) (m : Mm) (hf : Full c m.ws) {n : Nat} (hn : (n : Int) = c.s) : (oit c (onew m) n).nx = 6 ∧ (∀ k, k < n → (oit c (onew m) k).nx ≠ 6) ∧ ∀ k, n ≤ k → (oit c (onew m) k).te = 6 ∧ (oit c (onew m) k).th = 0 ∧ (oit c (onew m) k).tn = 0 ∧ ∀ i, (oit c (onew m) k).m.ws i = m.ws i := by
  have hb := c.rb hr
  obtain ⟨d, rfl⟩ : ∃ d, n = d + 1 := ⟨n - 1, by omega⟩
  obtain ⟨i1, i2, i3⟩ := full_steps hr m hf (k := d) (by omega)
  have hs : oit c (onew m) (d + 1) = ostep c (oit c (onew m) d) := rfl
  have he : (oit c (onew m) (d + 1)).nx = 6 ∧ (oit c (onew m) (d + 1)).te = 6 ∧ (oit c (onew m) (d + 1)).th = 0 ∧ (oit c (onew m) (d + 1)).tn = 0 ∧ ∀ i, (oit c (onew m) (d + 1)).m.ws i = m.ws i := by
    rw [hs]
    generalize oit c (onew m) d = o at *
    obtain ⟨s1, _, _⟩ := sl_cells hr (f := (d : Int)) (by omega) (by omega)
    have hws : (mtouch c o.m 1 4 o.sl 0 0).ws = o.m.ws := load_ws c o.m 4 o.sl
    have hold : (mtouch c o.m 1 4 o.sl 0 0).l.old = m.ws (c.cl 4 (d : Int)).toNat := by rw [load_old, i2, if_pos (by omega), i3]
    have hfr := hf (d : Int) (by omega) (by omega)
    unfold ostep
    rw [if_pos i1, hold, hfr]
    show (ogo c o _ _).nx = 6 ∧ (ogo c o _ _).te = 6 ∧ (ogo c o _ _).th = 0 ∧ (ogo c o _ _).tn = 0 ∧ ∀ i, (ogo c o _ _).m.ws i = m.ws i
    unfold ogo
    rw [if_pos (by omega)]
    exact ⟨rfl, rfl, rfl, rfl, fun i => by show (mtouch c o.m 1 4 o.sl 0 0).ws i = _; rw [hws]; exact i3 i⟩
  refine ⟨he.1, fun k hk => ?_, fun k hk => ?_⟩
  · rw [(full_steps hr m hf (k := k) (by omega)).1]
    decide
  · rw [oit_done he.1 hk]
    exact he.2

/-- all slots have one status that is free, but for its generation -/
theorem last_end {c : Cf} (hr : c.r = true) (m : Mm) (gw : Nat) (hst : stN gw = 0) (hw : ∀ j : Int, 0 ≤ j → j < c.s → m.ws (c.cl 4 j).toNat = gw) {k : Nat} (hk : 60 ≤ k) (A : Os) (hA : A = oit c (onew m) k) :
    A.nx = 6 ∧ (((gnN gw : Nat) : Int) ≤ c.g → A.te = 0) ∧ (¬ ((gnN gw : Nat) : Int) ≤ c.g → A.te = 6) := by
  have hb := c.rb hr
  obtain ⟨h1, h2⟩ := al_ends hr m hk
  rw [← hA] at h1 h2
  refine ⟨h2, fun hg => ?_, fun hg => ?_⟩
  · rcases h1.t6 h2 with ⟨hf, _⟩ | ⟨f, _, _, t1, _⟩
    · have := hf 0 (by decide) (by omega)
      rw [hw 0 (by decide) (by omega)] at this
      exact absurd ⟨hst, hg⟩ (of_decide_eq_false this)
    · exact t1
  · rcases h1.t6 h2 with ⟨_, _, t1, _⟩ | ⟨f, hgt, _⟩
    · exact t1
    · have := hgt.fr
      rw [hw f hgt.lo hgt.hi] at this
      exact absurd (of_decide_eq_true this).2 hg

end Um

/-
  Plain arithmetic of layer 9: the lowest slot that is free, looked for from above; what alone leaves. No Go in sight.
-/
namespace Um
set_option maxRecDepth 100000

theorem Got.uniq {c : Cf} {ws : Nat → Nat} {f f' : Int} (h : Got c ws f) (h' : Got c ws f') : f = f' := by
  rcases Int.lt_trichotomy f f' with q | q | q
  · have := h'.least f h.lo q; rw [h.fr] at this; cases this
  · exact q
  · have := h.least f' h'.lo q; rw [h'.fr] at this; cases this

theorem Got.full {c : Cf} {ws : Nat → Nat} {f : Int} (h : Got c ws f) (h' : Full c ws) : False := by
  have := h' f h.lo h.hi
  rw [h.fr] at this
  cases this

/-- what was found from slot k on -/
structure Lo9 (c : Cf) (ws : Nat → Nat) (k f : Int) : Prop where
  none : f < 0 → f = -1 ∧ ∀ i : Int, k ≤ i → i < c.s → frN c (ws (c.cl 4 i).toNat) = false
  one : 0 ≤ f → k ≤ f ∧ f < c.s ∧ frN c (ws (c.cl 4 f).toNat) = true ∧ ∀ i : Int, k ≤ i → i < f → frN c (ws (c.cl 4 i).toNat) = false

theorem lo_new (c : Cf) (ws : Nat → Nat) : Lo9 c ws c.s (-1) := ⟨fun _ => ⟨rfl, fun i i0 i1 => by omega⟩, fun h => by omega⟩

theorem lo_yes {c : Cf} {ws : Nat → Nat} {k : Int} (h0 : 0 ≤ k) (h1 : k < c.s) (hf : frN c (ws (c.cl 4 k).toNat) = true) : Lo9 c ws k k :=
  ⟨fun q => by omega, fun _ => ⟨Int.le_refl _, h1, hf, fun i i0 i1 => by omega⟩⟩

theorem Lo9.no {c : Cf} {ws : Nat → Nat} {k f : Int} (h : Lo9 c ws (k + 1) f) (hf : frN c (ws (c.cl 4 k).toNat) = false) : Lo9 c ws k f := by
  refine ⟨fun q => ⟨(h.none q).1, fun i i0 i1 => ?_⟩, fun q => ?_⟩
  · by_cases e : i = k
    · rw [e]; exact hf
    · exact (h.none q).2 i (by omega) i1
  · obtain ⟨a, b, d, e⟩ := h.one q
    refine ⟨by omega, b, d, fun i i0 i1 => ?_⟩
    by_cases e2 : i = k
    · rw [e2]; exact hf
    · exact e i (by omega) i1

theorem Lo9.full {c : Cf} {ws : Nat → Nat} {f : Int} (h : Lo9 c ws 0 f) (hf : f < 0) : Full c ws := (h.none hf).2

theorem Lo9.got {c : Cf} {ws : Nat → Nat} {f : Int} (h : Lo9 c ws 0 f) (hf : 0 ≤ f) : Got c ws f := by
  obtain ⟨a, b, d, e⟩ := h.one hf
  exact ⟨hf, b, d, e⟩

theorem alone_full {c : Cf} (hr : c.r = true) (m : Mm) (hf : Full c m.ws) {k : Nat} (hk : 60 ≤ k) (A : Os) (hA : A = oit c (onew m) k) : A.nx = 6 ∧ A.te = 6 ∧ A.th = 0 ∧ A.tn = 0 := by
  obtain ⟨h1, h2⟩ := al_ends hr m hk
  rw [← hA] at h1 h2
  rcases h1.t6 h2 with ⟨_, _, q1, q2, q3⟩ | ⟨f, hG, _⟩
  · exact ⟨h2, q1, q2, q3⟩
  · exact (hG.full hf).elim

theorem snap_cell_ne {c : Cf} (hr : c.r = true) {f : Int} (h0 : 0 ≤ f) (h1 : f < c.s) : c.cl 5 f ≠ c.cl 4 f := by
  have := sl_cells hr h0 h1
  omega

theorem alone_got {c : Cf} (hr : c.r = true) (m : Mm) {f : Int} (hG : Got c m.ws f) {k : Nat} (hk : 60 ≤ k) (A : Os) (hA : A = oit c (onew m) k) (m3 m4 m5 : Mm) (h3 : m3 = mtouch c A.m 1 5 f 0 0) (h4 : m4 = mtouch c m3 1 4 f 0 0) (h5 : m5 = mtouch c m4 1 1 0 0 0) :
    A.nx = 6 ∧ A.te = 0 ∧ A.th = mkN f ((gnN (m.ws (c.cl 4 f).toNat) : Nat) : Int) ∧ A.tn = seqN (m.ws 0) ∧ m3.l.old = seqN (m.ws 0) ∧ stN m4.l.old = 2 ∧ m5.l.old % 16 = 0 := by
  obtain ⟨h1, h2⟩ := al_ends hr m hk
  rw [← hA] at h1 h2
  rcases h1.t6 h2 with ⟨hf, _⟩ | ⟨f', hG', hw, q1, q2, q3⟩
  · exact (hG.full hf).elim
  obtain rfl := hG.uniq hG'
  obtain ⟨s1, s2, s3⟩ := sl_cells hr hG.lo hG.hi
  refine ⟨h2, q1, q2, q3, ?_, ?_, ?_⟩
  · rw [h3, load_old, if_pos (by omega), hw]
    unfold ws3
    rw [if_neg (by omega), if_pos (by omega)]
  · rw [h4, load_old, if_pos (by omega), h3, load_ws, hw]
    unfold ws3
    rw [if_pos (by omega)]
    exact st_move _ 2 (by decide)
  · rw [h5, load_old, cl_tally hr, if_pos (by omega), h4, load_ws, h3, load_ws, hw]
    unfold ws3
    rw [if_neg (by show ¬ ((0 : Nat) : Int) = _; omega), if_neg (by show ¬ ((0 : Nat) : Int) = _; omega)]
    show ws2 c m.ws f 0 % 16 = 0
    rw [ws2_zero s1]
    unfold setlN
    omega

/-- a beginning over another memory -/
def setM (m : Mm) (o : Os) : Os := ⟨m, o.sl, o.nx, o.s, o.q, o.w, o.hn, o.hs, o.te, o.th, o.tn⟩

/-- right over whatever words -/
def OkW (c : Cf) (o : Os) : Prop := ∀ m : Mm, (∀ i, i < c.n → Word (m.ws i)) → Ook c (setM m o)

theorem Ook.okw {c : Cf} {o : Os} (h : Ook c o) : OkW c o := fun _ hm => ⟨hm, h.s, h.q, h.w, h.hs, h.hn, h.nx, h.sl0, h.sl1, h.th, h.tn, h.sl⟩

theorem Duo9.at {c : Cf} {m : Mm} {a b : Os} (h : Duo9 c m a b) (m' : Mm) : Duo9 c m (setM m' a) b :=
  ⟨h.tal, ⟨h.A.nx, h.A.n3, h.A.lo, h.A.lt, h.A.s, h.A.pass, h.A.mine, h.A.end6⟩, ⟨h.B.nx, h.B.n3, h.B.lo, h.B.lt, h.B.s, h.B.pass, h.B.mine, h.B.end6⟩, h.apart, h.all⟩

theorem Seen.at {c : Cf} {m : Mm} {o : Os} {sq now : Nat} (h : Seen c m o sq now) (m' : Mm) : Seen c m (setM m' o) sq now :=
  ⟨h.nx, h.n3, h.sl, h.tal, h.le, h.fr, h.s, h.q, h.sn, h.t6⟩

end Um
