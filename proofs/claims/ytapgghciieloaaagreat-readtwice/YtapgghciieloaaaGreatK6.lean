/-
  Texts that the laws stand on, merged (WalkE, HelpW, HelpN, HelpMath2, TicketMath, OpenMath, BlkE, HelpMath5, OpenMath2, OpenMath3, OpenMath4, OpenMath5, OpenMath6, GateMath, GateMath2, StoreN, StoreZ2, BlkR, Og2).
-/
import Derived.Test.YtapgghciieloaaaGreatK1
import Derived.Test.YtapgghciieloaaaGreatK3
import Derived.Test.YtapgghciieloaaaGreatK5
import Derived.Lib.QuietBelow

/-
  The walks of moving a word, and of the document's answers for moving, packing and unpacking.
-/
namespace Go.Proofs.YtapgghciieloaaaGreat
set_option maxRecDepth 100000
open Go.RowKit
attribute [local go_sem] alloc_drewN setCell_drewN

theorem mask2 : bits .or .u64 67108864 939524096 = ((1006632960 : Nat) : Int) := by kernel_rfl

theorem move_law (x : Nat) (s : Int) (b : Bool) (hx : Um.Word x) :
    bits .or .u64 (bits .or .u64 (bits .andNot .u64 (x : Int) (bits .or .u64 67108864 939524096)) (IntKind.u64.wrap ((b.toNat : Int) * 67108864))) (IntKind.u64.wrap (bits .and .u64 (IntKind.u64.wrap s) 7 * 134217728))
      = (Um.moveN x (s % 8).toNat b : Int) := by
  have hm : Um.Word 1006632960 := Um.word_iff.2 (by decide)
  have hs : (s % 8).toNat < 8 := by omega
  have hb := Um.bool_le b
  have e1 : IntKind.u64.wrap ((b.toNat : Int) * 67108864) = ((b.toNat * 2 ^ 26 : Nat) : Int) := by rw [IntKind.wrap_u64]; omega
  have e2 : IntKind.u64.wrap s = ((s % 18446744073709551616).toNat : Int) := by rw [IntKind.wrap_u64]; omega
  have hk : Um.Word (s % 18446744073709551616).toNat := by unfold Um.Word; omega
  have e3 : bits .and .u64 (IntKind.u64.wrap s) 7 = ((s % 8).toNat : Int) := by
    rw [e2, show (7 : Int) = ((2 ^ 3 - 1 : Nat) : Int) by decide, u64_and_nat _ _ hk (by decide), Um.and_mask]
    omega
  have e4 : IntKind.u64.wrap (((s % 8).toNat : Int) * 134217728) = (((s % 8).toNat * 2 ^ 27 : Nat) : Int) := by rw [IntKind.wrap_u64]; omega
  have w1 : Um.Word (b.toNat * 2 ^ 26) := by unfold Um.Word; omega
  have w2 : Um.Word ((s % 8).toNat * 2 ^ 27) := by unfold Um.Word; omega
  have w3 : Um.Word (x &&& (18446744073709551615 - 1006632960)) := Um.Word.of fun j hj => by rw [Um.andNot_testBit x _ j hx hm, hx.bits j hj]; rfl
  rw [mask2, e3, e4, e1, u64_andNot_nat _ _ hx hm, u64_or_nat _ _ w3 w1, u64_or_nat _ _ (or_word w3 w1) w2, Um.move_eq _ _ _ hx hs]

set_option maxHeartbeats 400000 in
theorem move_any (x : Nat) (s : Int) (b : Bool) (w : World) (hx : Um.Word x) :
    Calls Tryz.prog 131 #[.int .u64 x, .int .i64 s, .bool b] w fun e w' => e = .returned (.int .u64 (Um.moveN x (s % 8).toNat b)) ∧ w' = w := by
  go_enter Tryz.func131, Tryz.ntmps131
  go_wp2_with (first
    | (go_at_call 130; refine (ones_any _ _ (by decide) (by decide)).mono ?_; rintro e w' ⟨rfl, rfl⟩)
    | (go_at_call 138; refine (flag_any _ _).mono ?_; rintro e w' ⟨rfl, rfl⟩))
  go_ret
  refine ⟨ret_u64 ?_, rfl⟩
  exact move_law _ _ _ hx

theorem tmod8 (s : Int) : (0 ≤ s.tmod 8 → s.tmod 8 = s % 8) ∧ (s.tmod 8 < 0 → s.tmod 8 + 8 = s % 8) := by
  rw [Int.tmod_eq_emod]
  split <;> (constructor <;> intro h <;> simp at h ⊢ <;> omega)

theorem state_law (x : Nat) (s L : Int) (hx : Um.Word x) (hL : L = s % 8) :
    IntKind.u64.wrap (IntKind.u64.wrap ((x : Int) - IntKind.u64.wrap (134217728 * IntKind.u64.wrap (Um.part x 27 3 : Int))) + IntKind.u64.wrap (134217728 * IntKind.u64.wrap L)) = (Um.stateN x (s % 8).toNat : Int) := by
  subst hL
  have h1 : Um.part x 27 3 < 8 := Um.part_lt x 27 3
  have h2 : 134217728 * Um.part x 27 3 ≤ x := by unfold Um.part; omega
  have h3 := Um.state_word hx (show (s % 8).toNat < 8 by omega)
  unfold Um.Word at hx h3
  simp only [IntKind.wrap_u64]
  unfold Um.stateN at h3 ⊢
  generalize Um.part x 27 3 = k at *
  omega

theorem put_int (X : Int) (x : Nat) (hX : X = x) (a : Int) (b : Bool) (w : World) (hx : Um.Word x) (h0 : 0 ≤ a) (h1 : a < 64) :
    Calls Tryz.prog 64 #[.int .u64 X, .int .i64 a, .bool b] w fun e w' => e = .returned (.int .u64 (Um.setN x a.toNat b)) ∧ w' = w := by
  subst hX
  exact put_any x a b w hx h0 h1

theorem wrap64_id (n : Int) (h0 : -9223372036854775808 ≤ n) (h1 : n ≤ 9223372036854775807) : wrap64 n = n := by
  unfold wrap64
  omega

set_option maxHeartbeats 400000 in
theorem refMove_any (x : Nat) (s : Int) (b : Bool) (w : World) (hx : Um.Word x) :
    Calls Tryz.prog 29 #[.int .u64 x, .int .i64 s, .bool b] w fun e w' => e = .returned (.int .u64 (Um.moveN x (s % 8).toNat b)) ∧ ∃ n, w' = w.drewN n := by
  have hw := Um.state_word hx (show (s % 8).toNat < 8 by omega)
  have ht := tmod8 s
  have HT := hide ht
  clear ht
  go_enter Tryz.func29, Tryz.ntmps29
  go_wp2_with (first
    | (go_at_call 68; refine (power_any _ _ (by omega) (by omega)).mono ?_; rintro e w' ⟨rfl, rfl⟩)
    | (go_at_call 69; refine (number_any _ _ _ _ hx (by omega) (by omega) (by omega) (by omega)).mono ?_; rintro e w' ⟨rfl, nq, rfl⟩))
  · have hl := (unhide HT).2 ‹s.tmod 8 < 0›
    have he : wrap64 (s.tmod 8 + 8) = s % 8 := by rw [hl]; exact wrap64_id _ (by omega) (by omega)
    have HE := hide he
    clear hl he
    refine (put_int _ _ (state_law x s _ hx (unhide HE)) _ _ _ hw (by omega) (by omega)).mono ?_
    rintro e w' ⟨rfl, rfl⟩
    go_wp2
    go_ret
    exact ⟨rfl, ⟨_, rfl⟩⟩
  · have hl := (unhide HT).1 ‹0 ≤ s.tmod 8›
    have HE := hide hl
    clear hl
    refine (put_int _ _ (state_law x s _ hx (unhide HE)) _ _ _ hw (by omega) (by omega)).mono ?_
    rintro e w' ⟨rfl, rfl⟩
    go_wp2
    go_ret
    exact ⟨rfl, ⟨_, rfl⟩⟩

set_option maxHeartbeats 1000000 in
theorem refPack_any (g st : Int) (b i o : Bool) (n t : Int) (w : World) :
    Calls Tryz.prog 74 #[.agg #[.int .i64 g, .int .i64 st, .bool b, .bool i, .bool o, .int .i64 n, .int .i64 t]] w fun e w' =>
      e = .returned (.tuple #[.int .u64 (Um.packV g st b i o n t : Int), .bool (Um.okSt g st n t)]) ∧ Below w.heap.size w w' := by
  cases hok : Um.okSt g st n t
  · rw [Um.packV_no hok]
    have hno : ¬ (0 ≤ t ∧ t ≤ 4095 ∧ 0 ≤ n ∧ n ≤ 4095 ∧ 0 ≤ st ∧ st ≤ 7 ∧ 0 ≤ g ∧ g ≤ 1073741824) := by
      intro h
      rw [Um.okSt_iff.2 h] at hok
      cases hok
    have HN := hide hno
    clear hno hok
    go_enter Tryz.func74, Tryz.ntmps74
    go_wp2
    all_goals first
      | (go_ret2; exact ⟨rfl, (Below.refl _ _).alloc (Nat.le_refl _) _⟩)
      | (exfalso; have h := unhide HN; omega)
  · rw [Um.packV_yes hok]
    obtain ⟨t0, t1, n0, n1, s0, s1, g0, g1⟩ := Um.okSt_iff.1 hok
    go_enter Tryz.func74, Tryz.ntmps74
    go_wp2
    go_quiet ((go_at_call 68; exact Calls.quiet_of_same (power_any _ _ (by omega) (by omega))))
    go_wp2_with fail
    have hbw := Um.base_word hok
    refine (put_int _ (Um.baseN g st n t) ?_ _ _ _ hbw (by omega) (by omega)).mono ?_
    · unfold Um.baseN
      omega
    rintro e w' ⟨rfl, rfl⟩
    go_wp2_with fail
    refine (put_int _ _ rfl _ _ _ (hbw.setN (by decide)) (by omega) (by omega)).mono ?_
    rintro e w' ⟨rfl, rfl⟩
    go_wp2_with fail
    refine (put_int _ _ rfl _ _ _ ((hbw.setN (by decide)).setN (by decide)) (by omega) (by omega)).mono ?_
    rintro e w' ⟨rfl, rfl⟩
    go_wp2
    go_ret2
    refine ⟨?_, ?_⟩
    · rw [← Um.base_put hok]
      rfl
    · repeat (first | exact (Below.refl _ _).alloc (Nat.le_refl _) _ | apply below_drewN)

end Go.Proofs.YtapgghciieloaaaGreat

/-
  Words of layers 1 and 3, as layer 8 asks for them: over blocks of two lists.
-/
namespace Go.Proofs.YtapgghciieloaaaGreat
set_option maxRecDepth 100000
open Go.RowKit Go.Sort

theorem Sx.drewN {bs : List Nat} {w0 w : World} {l e : List (Nat × List Value)} (h : Sx bs w0 w l e) (n : Nat) : Sx bs w0 (w.drewN n) l e := h.call (below_drewN (Below.refl _ _) n)

set_option maxHeartbeats 1000000 in
theorem rState_x {bs : List Nat} {w0 w : World} {l e : List (Nat × List Value)} (hS : Sx bs w0 w l e) (x : Nat) (hx : Um.Word x) :
    Calls Tryz.prog 58 #[.int .u64 (x : Nat)] w fun r w' => r = .returned (.int .i64 (Um.stN x : Int)) ∧ Sx bs w0 w' l e := by
  have HC := hide (number_any x 27 3 w hx (by decide) (by decide) (by decide) (by decide))
  have HS := hide hS
  clear hS hx
  go_enter Tryz.func58, Tryz.ntmps58
  go_wp2_with fail
  refine (unhide HC).mono ?_
  rintro r u ⟨rfl, n, rfl⟩
  go_wp2
  go_ret
  exact ⟨rfl, (unhide HS).drewN n⟩

set_option maxHeartbeats 1000000 in
theorem rBusy_x {bs : List Nat} {w0 w : World} {l e : List (Nat × List Value)} (hS : Sx bs w0 w l e) (x : Nat) (hx : Um.Word x) :
    Calls Tryz.prog 59 #[.int .u64 (x : Nat)] w fun r w' => r = .returned (.bool (x.testBit 26)) ∧ Sx bs w0 w' l e := by
  have HC := hide (bit_any x 26 w hx (by decide) (by decide))
  have HS := hide hS
  clear hS hx
  go_enter Tryz.func59, Tryz.ntmps59
  go_wp2_with fail
  refine (unhide HC).mono ?_
  rintro r u ⟨rfl, rfl⟩
  go_wp2
  go_ret
  exact ⟨rfl, unhide HS⟩

end Go.Proofs.YtapgghciieloaaaGreat

/-
  The walks of the document's new help, and of a new status.
-/
namespace Go.Proofs.YtapgghciieloaaaGreat
set_option maxRecDepth 100000
open Go.RowKit Go.Sort

set_option maxHeartbeats 1000000 in
theorem rNew01_any (st : Int) (w : World) : Calls Tryz.prog 34 #[.int .i64 st, .int .i64 0] w fun r w' => r = .returned (.int .u64 (Um.packV 0 st false false false 0 0 : Int)) ∧ Below w.heap.size w w' := by
  go_enter Tryz.func34, Tryz.ntmps34
  go_wp2_with fail
  refine (refPack_any 0 st false false false 0 0 _).mono ?_
  rintro r u ⟨rfl, hb⟩
  go_wp2
  go_ret
  exact ⟨rfl, hb⟩

end Go.Proofs.YtapgghciieloaaaGreat

/-
  Plain arithmetic of layer 8: however many help, each word is as it was, or as one leaves it. No Go in sight.
-/
namespace Um
set_option maxRecDepth 100000

theorem swap_ws (c : Cf) (m : Mm) (a b : Int) (o v i : Nat) : (mtouch c m 3 a b o v).ws i = if (i : Int) = c.cl a b ∧ m.ws i = o then v else m.ws i := by
  unfold mtouch
  split
  · rename_i h
    show putW m.ws (c.cl a b).toNat (trn 3 o v (m.ws (c.cl a b).toNat)) i = _
    by_cases e : i = (c.cl a b).toNat
    · subst e
      rw [putW_same]
      have e1 : (((c.cl a b).toNat : Nat) : Int) = c.cl a b := by omega
      simp [trn, e1]
    · rw [putW_other e, if_neg (by intro ⟨h1, _⟩; omega)]
  · rename_i h
    rw [if_neg (by intro ⟨h1, _⟩; omega)]
    rfl

theorem swap_done (c : Cf) (m : Mm) (a b : Int) (o v : Nat) : (mtouch c m 3 a b o v).l.done = decide (0 ≤ c.cl a b ∧ m.ws (c.cl a b).toNat = o) := by
  unfold mtouch
  split
  · rename_i h
    show trd 3 o (m.ws (c.cl a b).toNat) = _
    simp [trd, h]
    rfl
  · rename_i h
    simp [mmiss, h]

theorem load_old (c : Cf) (m : Mm) (a b : Int) : (mtouch c m 1 a b 0 0).l.old = if 0 ≤ c.cl a b then m.ws (c.cl a b).toNat else 0 := by
  unfold mtouch
  split <;> rfl

/-- the cells of a slot that is pending -/
def iS (c : Cf) (w : Nat) : Int := c.cl 4 (penN w)
def iN (c : Cf) (w : Nat) : Int := c.cl 6 (penN w)

/-- what one leaves -/
def hgN (c : Cf) (w : Nat) (ws : Nat → Nat) (i : Nat) : Nat :=
  if i = 0 then (if ws 0 = w then setlN w else ws 0)
  else if (i : Int) = iN c w then (if ws i = 0 then seqN w else ws i)
  else if (i : Int) = iS c w then (if stN (ws i) = 3 then comN (ws i) else ws i)
  else ws i

/-- each word is as it was, or as one leaves it -/
def Mix (c : Cf) (w : Nat) (ws0 ws : Nat → Nat) : Prop := ∀ i, ws i = ws0 i ∨ ws i = hgN c w ws0 i

/-- what a help knows -/
structure Knows (c : Cf) (w : Nat) (ws0 ws : Nat → Nat) (h : Hs) : Prop where
  nx : h.nx ≤ 4
  num : 1 ≤ h.nx → 0 ≤ iN c w → ws (iN c w).toNat = hgN c w ws0 (iN c w).toNat
  lay : h.nx = 2 → 0 ≤ iS c w ∧ h.s = ws0 (iS c w).toNat ∧ stN (ws0 (iS c w).toNat) = 3
  set : 3 ≤ h.nx → 0 ≤ iS c w → ws (iS c w).toNat = hgN c w ws0 (iS c w).toNat
  tal : h.nx = 4 → ws 0 = hgN c w ws0 0

/-- how many steps are left at most -/
def left (c : Cf) (w : Nat) (ws0 : Nat → Nat) (h : Hs) : Nat :=
  if h.nx = 0 then 6 else if h.nx = 1 then (if 0 ≤ iS c w ∧ h.m.ws (iS c w).toNat ≠ hgN c w ws0 (iS c w).toNat then 4 else 2) else if h.nx = 2 then 3 else if h.nx = 3 then 1 else 0

end Um

/-
  Plain arithmetic of layer 4's words: no Go in sight.
-/
namespace Um
set_option maxRecDepth 100000

/-- The slot, and the generation, that a ticket may have and that is nearest to any. -/
def nearS (a : Int) : Int := min (max a 0) 11
def nearG (a : Int) : Int := min (max a 0) 1073741823

/-- The parts of a word. -/
def tsN (x : Nat) : Int := (x % 16 : Nat) - 1
def tgN (x : Nat) : Int := (min (x / 16) 1073741824 : Nat)

/-- A slot and a generation that have a ticket, and that ticket; 0, if there is none. -/
def mok (s g : Int) : Bool := decide (0 ≤ s ∧ s ≤ 11 ∧ 0 ≤ g ∧ g ≤ 1073741823)
def mkN (s g : Int) : Nat := if mok s g then (16 * g + s + 1).toNat else 0

/-- A word that has a slot, and that slot; 0, if there is none. -/
def sok (x : Nat) : Bool := decide (0 ≤ tsN x ∧ tsN x ≤ 11)
def svN (x : Nat) : Int := if sok x then tsN x else 0

/-- A word that names one of n slots, and what it names; zeros, if it names none. -/
def ook (x : Nat) (n : Int) : Bool := decide (0 ≤ tsN x ∧ tsN x ≤ 11 ∧ tgN x ≤ 1073741823 ∧ tsN x < n)
def osN (x : Nat) (n : Int) : Int := if ook x n then tsN x else 0
def ogN (x : Nat) (n : Int) : Int := if ook x n then tgN x else 0

theorem tg_bd (x : Nat) : 0 ≤ tgN x ∧ tgN x ≤ 1073741824 := by unfold tgN; omega

theorem sok_iff {x : Nat} : sok x = true ↔ 0 ≤ tsN x ∧ tsN x ≤ 11 := by unfold sok; simp
theorem sok_no {x : Nat} : sok x = false ↔ ¬ (0 ≤ tsN x ∧ tsN x ≤ 11) := by unfold sok; simp
theorem sv_yes {x : Nat} (h : sok x = true) : svN x = tsN x := by unfold svN; rw [if_pos h]
theorem sv_no {x : Nat} (h : sok x = false) : svN x = 0 := by unfold svN; rw [h]; rfl
theorem ook_iff {x : Nat} {n : Int} : ook x n = true ↔ 0 ≤ tsN x ∧ tsN x ≤ 11 ∧ tgN x ≤ 1073741823 ∧ tsN x < n := by unfold ook; simp
theorem ook_no {x : Nat} {n : Int} : ook x n = false ↔ ¬ (0 ≤ tsN x ∧ tsN x ≤ 11 ∧ tgN x ≤ 1073741823 ∧ tsN x < n) := by unfold ook; simp
theorem os_yes {x : Nat} {n : Int} (h : ook x n = true) : osN x n = tsN x := by unfold osN; rw [if_pos h]
theorem os_no {x : Nat} {n : Int} (h : ook x n = false) : osN x n = 0 := by unfold osN; rw [h]; rfl
theorem og_yes {x : Nat} {n : Int} (h : ook x n = true) : ogN x n = tgN x := by unfold ogN; rw [if_pos h]
theorem og_no {x : Nat} {n : Int} (h : ook x n = false) : ogN x n = 0 := by unfold ogN; rw [h]; rfl

theorem near_sok {x : Nat} : decide (tsN x = nearS (tsN x) ∧ (0 : Int) = nearG 0) = sok x := by
  unfold sok nearS nearG
  rw [Bool.eq_iff_iff, decide_eq_true_iff, decide_eq_true_iff]
  omega

theorem near_ook {x : Nat} : decide (tsN x = nearS (tsN x) ∧ tgN x = nearG (tgN x)) = decide (0 ≤ tsN x ∧ tsN x ≤ 11 ∧ tgN x ≤ 1073741823) := by
  have := tg_bd x
  unfold nearS nearG
  rw [Bool.eq_iff_iff, decide_eq_true_iff, decide_eq_true_iff]
  omega

end Um

/-
  Plain arithmetic of layer 9: a transaction that is begun. No Go in sight.
-/
namespace Um
set_option maxRecDepth 100000

/-- a status word's generation -/
def gnN (x : Nat) : Nat := part x 30 32

/-- a beginning over a memory: the memory, its slot, its next step (0 look, 1 take, 2 tally, 3 help, 4 note, 5 start, 6: it is done), what it looked at, how many commits there were, its help (its word, its next step, what that looked at), what it tells -/
structure Os where
  m : Mm
  sl : Int
  nx : Nat
  s : Nat
  q : Nat
  w : Nat
  hn : Nat
  hs : Nat
  te : Int
  th : Nat
  tn : Nat

/-- may the slot of this status be got -/
def frN (c : Cf) (x : Nat) : Bool := decide (stN x = 0 ∧ ((gnN x : Nat) : Int) ≤ c.g)

/-- words, and a slot that there is, or the one behind -/
structure Ook (c : Cf) (o : Os) : Prop where
  wd : ∀ i, i < c.n → Word (o.m.ws i)
  s : Word o.s
  q : Word o.q
  w : Word o.w
  hs : Word o.hs
  hn : o.hn ≤ 4
  nx : o.nx ≤ 6
  sl0 : 0 ≤ o.sl
  sl1 : o.sl ≤ c.s
  th : Word o.th
  tn : Word o.tn
  sl : o.nx < 6 → o.sl < c.s

theorem zero_word : Word 0 := by unfold Word; decide

end Um

/-
  Blocks that are handed to a method, and back: one, two or three of them.
-/
namespace Go.Proofs.YtapgghciieloaaaGreat
set_option maxRecDepth 100000
open Go.RowKit Go.Sort

section
variable {bs : List Nat} {w0 w w' : World} {l e : List (Nat × List Value)} {b1 b2 b3 : Nat} {c1 c2 c3 d1 d2 d3 : List Value}

theorem Sx.enter3 (hS : Sx bs w0 w l e) (i j k : Nat) (hi : l[i]? = some (b1, c1)) (hj : l[j]? = some (b2, c2)) (hk : l[k]? = some (b3, c3)) (hij : i ≠ j) (hik : i ≠ k) (hjk : j ≠ k) : Sx [b1, b2, b3] w w [(b1, c1), (b2, c2), (b3, c3)] [] :=
  hS.enter [(b1, c1), (b2, c2), (b3, c3)] [] (fun p hp => by
      rcases (by simpa using hp : p = (b1, c1) ∨ p = (b2, c2) ∨ p = (b3, c3)) with rfl | rfl | rfl
      · exact List.mem_of_getElem? hi
      · exact List.mem_of_getElem? hj
      · exact List.mem_of_getElem? hk)
    (by
      have h1 := hS.ne i j hi hj hij
      have h2 := hS.ne i k hi hk hik
      have h3 := hS.ne j k hj hk hjk
      simp [h1, h2, h3]) (by simp)

theorem Sx.back3 {r e' : List (Nat × List Value)} (hS : Sx bs w0 w l e) (i j k : Nat) (hi : l[i]? = some (b1, c1)) (hj : l[j]? = some (b2, c2)) (hk : l[k]? = some (b3, c3)) (hL : Sx [b1, b2, b3] w w' ((b1, d1) :: (b2, d2) :: (b3, d3) :: r) e') : Sx bs w0 w' (putL l [(i, b1, d1), (j, b2, d2), (k, b3, d3)]) e := by
  refine hS.sets _ (fun u hu => ?_) hL.off (fun u hu => ?_)
  · rcases (by simpa using hu : u = (i, b1, d1) ∨ u = (j, b2, d2) ∨ u = (k, b3, d3)) with rfl | rfl | rfl
    · exact ⟨_, hi⟩
    · exact ⟨_, hj⟩
    · exact ⟨_, hk⟩
  · rcases (by simpa using hu : u = (i, b1, d1) ∨ u = (j, b2, d2) ∨ u = (k, b3, d3)) with rfl | rfl | rfl
    · exact hL.get 0 rfl
    · exact hL.get 1 rfl
    · exact hL.get 2 rfl

theorem Sx.enter1 (hS : Sx bs w0 w l e) (i : Nat) (hi : l[i]? = some (b1, c1)) : Sx [b1] w w [(b1, c1)] [] :=
  hS.enter [(b1, c1)] [] (fun p hp => by obtain rfl : p = _ := by simpa using hp
                                         exact List.mem_of_getElem? hi) (List.pairwise_singleton _ _) (by simp)

theorem Sx.back1 {r e' : List (Nat × List Value)} (hS : Sx bs w0 w l e) (i : Nat) (hi : l[i]? = some (b1, c1)) (hL : Sx [b1] w w' ((b1, d1) :: r) e') : Sx bs w0 w' (putL l [(i, b1, d1)]) e := by
  refine hS.sets _ (fun u hu => ?_) hL.off (fun u hu => ?_)
  · obtain rfl : u = _ := by simpa using hu
    exact ⟨_, hi⟩
  · obtain rfl : u = _ := by simpa using hu
    exact hL.get 0 rfl

end

end Go.Proofs.YtapgghciieloaaaGreat

/-
  Plain arithmetic of layer 8: conflicts that are laid meanwhile. No Go in sight.
-/
namespace Um
set_option maxRecDepth 100000

theorem put_ws (c : Cf) (m : Mm) (a b : Int) (v i : Nat) : (mtouch c m 2 a b 0 v).ws i = if (i : Int) = c.cl a b then v else m.ws i := by
  unfold mtouch
  split
  · rename_i h
    show putW m.ws (c.cl a b).toNat (trn 2 0 v (m.ws (c.cl a b).toNat)) i = _
    by_cases e : i = (c.cl a b).toNat
    · subst e
      rw [putW_same, if_pos (by omega)]
      rfl
    · rw [putW_other e, if_neg (by omega)]
  · rename_i h
    rw [if_neg (by omega)]
    rfl

theorem with_bits (x : Nat) (a b : Int) (j : Nat) (hj : 24 ≤ j) : (withN x a b).testBit j = x.testBit j := by
  unfold withN
  split
  · rename_i h
    have := bitAt_lt h
    rw [testBit_setN, if_neg (by omega)]
  · rfl

theorem st_with (x : Nat) (a b : Int) : stN (withN x a b) = stN x := by
  apply Nat.eq_of_testBit_eq
  intro j
  unfold stN
  rw [testBit_part, testBit_part, with_bits _ _ _ _ (by omega)]

theorem with_ok (x : Nat) {a b : Int} (ho : okS a b = true) : withN x a b = setN x (bitAt a b) true := by
  unfold withN
  exact if_pos ho

theorem com_with (x : Nat) (a b : Int) : comN (withN x a b) = withN (comN x) a b := by
  unfold comN
  rw [with_bits x a b 26 (by decide)]
  cases ho : okS a b with
  | false => rw [with_bad x a b ho, with_bad _ a b ho]
  | true =>
    have hlt := bitAt_lt ho
    rw [with_ok _ ho, with_ok _ ho]
    generalize x.testBit 26 = q
    generalize bitAt a b = k at *
    apply Nat.eq_of_testBit_eq
    intro j
    rw [move_bits (by decide), testBit_setN, testBit_setN, move_bits (by decide)]
    by_cases h : k = j
    · subst h
      rw [if_pos rfl, if_pos rfl, if_neg (show ¬ k = 26 by omega), if_neg (show ¬ (27 ≤ k ∧ k < 30) by omega)]
    · rw [if_neg h, if_neg h]

/-- a help, while conflicts are laid to its transaction; W: what its status will be -/
structure Sid (c : Cf) (x W : Nat) (m : Mm) (nx s : Nat) : Prop where
  le : nx ≤ 4
  low : nx ≤ 2 → stN (m.ws (iS c x).toNat) = 3 ∧ comN (m.ws (iS c x).toNat) = W
  high : 3 ≤ nx → m.ws (iS c x).toNat = W
  n0 : nx = 0 → m.ws (iN c x).toNat = 0
  n1 : 1 ≤ nx → m.ws (iN c x).toNat = seqN x

theorem Sid.ws {c : Cf} {x W : Nat} {m m' : Mm} {nx s : Nat} (h : Sid c x W m nx s) (e : m'.ws = m.ws) : Sid c x W m' nx s :=
  ⟨h.le, fun q => by rw [e]; exact h.low q, fun q => by rw [e]; exact h.high q, fun q => by rw [e]; exact h.n0 q, fun q => by rw [e]; exact h.n1 q⟩

theorem Sid.lay {c : Cf} {x W : Nat} {m : Mm} {nx s : Nat} (hi : 0 < iS c x ∧ iN c x = iS c x + 2) {sl : Int} (hpen : penN x = sl) (h : Sid c x W m nx s) (a b : Int) (S : Nat) (hS : S = m.ws (iS c x).toNat) (m' : Mm) (hm : m' = mtouch c m 2 4 sl 0 (withN S a b)) : Sid c x (withN W a b) m' nx s := by
  have e1 : m'.ws (iS c x).toNat = withN S a b := by
    rw [hm, put_ws, if_pos]
    show _ = c.cl 4 sl
    rw [← hpen]
    show _ = iS c x
    omega
  have e2 : m'.ws (iN c x).toNat = m.ws (iN c x).toNat := by
    rw [hm, put_ws, if_neg]
    show ¬ _ = c.cl 4 sl
    rw [← hpen]
    show ¬ _ = iS c x
    omega
  refine ⟨h.le, fun q => ?_, fun q => ?_, fun q => ?_, fun q => ?_⟩
  · rw [e1, st_with, com_with, hS, (h.low q).2]
    exact ⟨(h.low q).1, rfl⟩
  · rw [e1, hS, h.high q]
  · rw [e2]; exact h.n0 q
  · rw [e2]; exact h.n1 q

end Um

/-
  Plain arithmetic of layer 9: alone. No Go in sight.
-/
namespace Um
set_option maxRecDepth 100000

theorem sl_cells {c : Cf} (hr : c.r = true) {f : Int} (h0 : 0 ≤ f) (h1 : f < c.s) : 0 < c.cl 4 f ∧ c.cl 5 f = c.cl 4 f + 1 ∧ c.cl 6 f = c.cl 4 f + 2 := by
  have hb := c.rb hr
  unfold Cf.cl cellN
  rw [hr]
  simp [h0, h1]
  omega

/-- the lowest slot that is free -/
structure Got (c : Cf) (ws : Nat → Nat) (f : Int) : Prop where
  lo : 0 ≤ f
  hi : f < c.s
  fr : frN c (ws (c.cl 4 f).toNat) = true
  least : ∀ i : Int, 0 ≤ i → i < f → frN c (ws (c.cl 4 i).toNat) = false

/-- no slot is free -/
def Full (c : Cf) (ws : Nat → Nat) : Prop := ∀ i : Int, 0 ≤ i → i < c.s → frN c (ws (c.cl 4 i).toNat) = false

/-- the words when a slot was taken -/
def ws1 (c : Cf) (ws : Nat → Nat) (f : Int) (i : Nat) : Nat := if (i : Int) = c.cl 4 f then moveN (ws i) 1 false else ws i

/-- and behind a help -/
def ws2 (c : Cf) (ws : Nat → Nat) (f : Int) (i : Nat) : Nat := hgN c (ws 0) (ws1 c ws f) i

/-- and at the end -/
def ws3 (c : Cf) (ws : Nat → Nat) (f : Int) (i : Nat) : Nat := if (i : Int) = c.cl 4 f then moveN (ws i) 2 false else if (i : Int) = c.cl 5 f then seqN (ws 0) else ws2 c ws f i

structure Al (c : Cf) (ws : Nat → Nat) (o : Os) : Prop where
  nx : o.nx ≤ 6
  lo : o.nx = 0 → 0 ≤ o.sl ∧ o.sl < c.s ∧ (∀ i, o.m.ws i = ws i) ∧ ∀ i : Int, 0 ≤ i → i < o.sl → frN c (ws (c.cl 4 i).toNat) = false
  tk : 1 ≤ o.nx → o.nx ≤ 5 → Got c ws o.sl ∧ o.s = ws (c.cl 4 o.sl).toNat
  t1 : o.nx = 1 → ∀ i, o.m.ws i = ws i
  t2 : o.nx = 2 → (∀ i, o.m.ws i = ws1 c ws o.sl i) ∨ (0 ≤ penN (ws 0) ∧ ∀ i, o.m.ws i = ws2 c ws o.sl i)
  t3 : o.nx = 3 → o.w = ws 0 ∧ 0 ≤ penN (ws 0) ∧ Mix c (ws 0) (ws1 c ws o.sl) o.m.ws ∧ Knows c (ws 0) (ws1 c ws o.sl) o.m.ws ⟨o.m, o.hn, o.hs⟩ ∧ o.hn ≠ 4
  t4 : o.nx = 4 → (∀ i, o.m.ws i = ws2 c ws o.sl i) ∧ o.q = seqN (ws 0)
  t5 : o.nx = 5 → (∀ i, o.m.ws i = if (i : Int) = c.cl 5 o.sl then seqN (ws 0) else ws2 c ws o.sl i) ∧ o.q = seqN (ws 0)
  t6 : o.nx = 6 → (Full c ws ∧ (∀ i, o.m.ws i = ws i) ∧ o.te = 6 ∧ o.th = 0 ∧ o.tn = 0) ∨ ∃ f, Got c ws f ∧ (∀ i, o.m.ws i = ws3 c ws f i) ∧ o.te = 0 ∧ o.th = mkN f ((gnN (ws (c.cl 4 f).toNat) : Nat) : Int) ∧ o.tn = seqN (ws 0)

end Um

/-
  Plain arithmetic of layer 9: two at once, over a new world. No Go in sight.
-/
namespace Um
set_option maxRecDepth 100000

/-- a slot is one's: it was taken by it -/
def Owns (o : Os) (i : Int) : Prop := 2 ≤ o.nx ∧ (o.nx = 6 → o.te = 0) ∧ o.sl = i

structure Side9 (c : Cf) (m : Mm) (a b : Os) : Prop where
  nx : a.nx ≤ 6
  n3 : a.nx ≠ 3
  lo : 0 ≤ a.sl
  lt : a.nx ≤ 5 → a.sl < c.s
  s : 1 ≤ a.nx → a.nx ≤ 5 → a.s = 0
  pass : ∀ i : Int, 0 ≤ i → i < a.sl → Owns b i
  mine : Owns a a.sl → stN (m.ws (c.cl 4 a.sl).toNat) ≠ 0 ∧ a.sl < c.s
  end6 : a.nx = 6 → (a.te = 0 ∧ a.th = mkN a.sl 0) ∨ (a.te = 6 ∧ a.sl = c.s)

structure Duo9 (c : Cf) (m : Mm) (a b : Os) : Prop where
  tal : m.ws 0 = 0
  A : Side9 c m a b
  B : Side9 c m b a
  apart : ∀ i, Owns a i → ¬ Owns b i
  all : ∀ i : Int, 0 ≤ i → i < c.s → m.ws (c.cl 4 i).toNat = 0 ∨ Owns a i ∨ Owns b i

theorem Duo9.swap {c : Cf} {m : Mm} {a b : Os} (h : Duo9 c m a b) : Duo9 c m b a :=
  ⟨h.tal, h.B, h.A, fun i q r => h.apart i r q, fun i i0 i1 => (h.all i i0 i1).imp id Or.symm⟩

/-- the other one's side, behind a step -/
theorem Side9.other {c : Cf} {m m' : Mm} {a a' b : Os} (h : Side9 c m b a) (ho : ∀ i, Owns a i → Owns a' i) (hw : Owns b b.sl → m'.ws (c.cl 4 b.sl).toNat = m.ws (c.cl 4 b.sl).toNat) : Side9 c m' b a' :=
  ⟨h.nx, h.n3, h.lo, h.lt, h.s, fun i i0 i1 => ho i (h.pass i i0 i1), fun q => by rw [hw q]; exact h.mine q, h.end6⟩

end Um

/-
  Plain arithmetic of layer 9: two at once, to their end; commits that are counted meanwhile. No Go in sight.
-/
namespace Um
set_option maxRecDepth 100000

/-- one, while commits are counted: from so many on, up to now -/
structure Seen (c : Cf) (m : Mm) (o : Os) (sq now : Nat) : Prop where
  nx : o.nx ≤ 6
  n3 : o.nx ≠ 3
  sl : o.sl = 0
  tal : m.ws 0 = 16 * now
  le : sq ≤ now
  fr : o.nx ≤ 1 → m.ws (c.cl 4 0).toNat = 0
  s : o.nx = 1 → o.s = 0
  q : 4 ≤ o.nx → sq ≤ o.q ∧ o.q ≤ now
  sn : 5 ≤ o.nx → m.ws (c.cl 5 0).toNat = o.q
  t6 : o.nx = 6 → o.te = 0 ∧ o.tn = o.q

end Um

/-
  Plain arithmetic of layer 9: begun again and again; generations that are too great. No Go in sight.
-/
namespace Um
set_option maxRecDepth 100000

/-- so many slots have been got, of a world in which nothing is pending -/
structure Fu (c : Cf) (ws : Nat → Nat) (i : Int) : Prop where
  tal : ws 0 = 0
  low : ∀ j : Int, 0 ≤ j → j < i → stN (ws (c.cl 4 j).toNat) ≠ 0
  high : ∀ j : Int, i ≤ j → j < c.s → ws (c.cl 4 j).toNat = 0

end Um

/-
  Plain arithmetic of layer 9: the lowest slot that is free, looked for from above; what alone leaves. No Go in sight.
-/
namespace Um
set_option maxRecDepth 100000

/-- what was found from slot k on -/
structure Lo9 (c : Cf) (ws : Nat → Nat) (k f : Int) : Prop where
  none : f < 0 → f = -1 ∧ ∀ i : Int, k ≤ i → i < c.s → frN c (ws (c.cl 4 i).toNat) = false
  one : 0 ≤ f → k ≤ f ∧ f < c.s ∧ frN c (ws (c.cl 4 f).toNat) = true ∧ ∀ i : Int, k ≤ i → i < f → frN c (ws (c.cl 4 i).toNat) = false

theorem Lo9.no {c : Cf} {ws : Nat → Nat} {k f : Int} (h : Lo9 c ws (k + 1) f) (hf : frN c (ws (c.cl 4 k).toNat) = false) : Lo9 c ws k f := by
  refine ⟨fun q => ⟨(h.none q).1, fun i i0 i1 => ?_⟩, fun q => ?_⟩
  · by_cases e : i = k
    · rw [e]; exact hf
    · exact (h.none q).2 i (by omega) i1
  · obtain ⟨a, b, d, e⟩ := h.one q
    refine ⟨by omega, b, d, fun i i0 i1 => ?_⟩
    by_cases e2 : i = k
    · rw [e2]; exact hf
    · exact e i (by omega) i1

/-- a beginning over another memory -/
def setM (m : Mm) (o : Os) : Os := ⟨m, o.sl, o.nx, o.s, o.q, o.w, o.hn, o.hs, o.te, o.th, o.tn⟩

/-- right over whatever words -/
def OkW (c : Cf) (o : Os) : Prop := ∀ m : Mm, (∀ i, i < c.n → Word (m.ws i)) → Ook c (setM m o)

theorem Ook.okw {c : Cf} {o : Os} (h : Ook c o) : OkW c o := fun _ hm => ⟨hm, h.s, h.q, h.w, h.hs, h.hn, h.nx, h.sl0, h.sl1, h.th, h.tn, h.sl⟩

theorem Duo9.at {c : Cf} {m : Mm} {a b : Os} (h : Duo9 c m a b) (m' : Mm) : Duo9 c m (setM m' a) b :=
  ⟨h.tal, ⟨h.A.nx, h.A.n3, h.A.lo, h.A.lt, h.A.s, h.A.pass, h.A.mine, h.A.end6⟩, ⟨h.B.nx, h.B.n3, h.B.lo, h.B.lt, h.B.s, h.B.pass, h.B.mine, h.B.end6⟩, h.apart, h.all⟩

theorem Seen.at {c : Cf} {m : Mm} {o : Os} {sq now : Nat} (h : Seen c m o sq now) (m' : Mm) : Seen c m (setM m' o) sq now :=
  ⟨h.nx, h.n3, h.sl, h.tal, h.le, h.fr, h.s, h.q, h.sn, h.t6⟩

end Um

/-
  Plain arithmetic of layer 10: a call that enters, one that leaves. No Go in sight.
-/
namespace Um
set_option maxRecDepth 100000

/-- a status, busy -/
def bzN (s : Nat) : Nat := setN s 26 true

/-- what is amiss with a status, of a ticket and states -/
def flN (h : Nat) (inn : Nat → Bool) (s : Nat) : Int :=
  if ((gnN s : Nat) : Int) ≠ tgN h ∨ stN s = 0 ∨ stN s = 1 then 2 else if s.testBit 26 then 3 else if inn (stN s) then 0 else 4

/-- an entering over a memory: is its next step a swap, what it looked at, what it laid, its error, has it ended -/
structure Es where
  m : Mm
  tk : Bool
  s : Nat
  w : Nat
  e : Int
  en : Bool

/-- is it done -/
def edn (c : Cf) (h : Nat) (o : Es) : Bool := o.en || !ook h c.s

/-- what it tells -/
def eer (c : Cf) (h : Nat) (o : Es) : Int := if ook h c.s then o.e else 2

def estep (c : Cf) (h : Nat) (inn : Nat → Bool) (o : Es) : Es :=
  if edn c h o = true then o
  else if o.tk = true then
    ⟨mtouch c o.m 3 4 (svN h) o.s (bzN o.s), false, o.s, if (mtouch c o.m 3 4 (svN h) o.s (bzN o.s)).l.done then bzN o.s else o.w, o.e, (mtouch c o.m 3 4 (svN h) o.s (bzN o.s)).l.done⟩
  else
    ⟨mtouch c o.m 1 4 (svN h) 0 0, decide (flN h inn (mtouch c o.m 1 4 (svN h) 0 0).l.old = 0), (mtouch c o.m 1 4 (svN h) 0 0).l.old, o.w, flN h inn (mtouch c o.m 1 4 (svN h) 0 0).l.old, !decide (flN h inn (mtouch c o.m 1 4 (svN h) 0 0).l.old = 0)⟩

def eit (c : Cf) (h : Nat) (inn : Nat → Bool) (o : Es) : Nat → Es
  | 0 => o
  | k + 1 => estep c h inn (eit c h inn o k)

def enew (m : Mm) : Es := ⟨m, false, 0, 0, 0, false⟩

/-- words -/
structure Eok (c : Cf) (o : Es) : Prop where
  wd : ∀ i, i < c.n → Word (o.m.ws i)
  s : Word o.s
  w : Word o.w
  en : o.en = true → o.tk = false

theorem bz_word {s : Nat} (h : Word s) : Word (bzN s) := h.setN (by decide)

theorem enew_ok {c : Cf} {m : Mm} (h : ∀ i, i < c.n → Word (m.ws i)) : Eok c (enew m) := ⟨h, zero_word, zero_word, fun _ => rfl⟩

theorem estep_ok {c : Cf} {h : Nat} {inn : Nat → Bool} {o : Es} (ho : Eok c o) : Eok c (estep c h inn o) := by
  unfold estep
  split
  · exact ho
  split
  · refine ⟨word_touch ho.wd (bz_word ho.s), ho.s, ?_, fun _ => rfl⟩
    show Word (if _ then _ else _)
    split
    · exact bz_word ho.s
    · exact ho.w
  · refine ⟨word_touch ho.wd zero_word, old_word ho.wd, ho.w, fun q => ?_⟩
    have q' : (!decide (flN h inn (mtouch c o.m 1 4 (svN h) 0 0).l.old = 0)) = true := q
    show decide _ = false
    cases hd : decide (flN h inn (mtouch c o.m 1 4 (svN h) 0 0).l.old = 0)
    · rfl
    · rw [hd] at q'; cases q'

theorem estep_done {c : Cf} {h : Nat} {inn : Nat → Bool} {o : Es} (hd : edn c h o = true) : estep c h inn o = o := by
  unfold estep
  rw [if_pos hd]

theorem eit_done {c : Cf} {h : Nat} {inn : Nat → Bool} {o : Es} {q : Nat} (hd : edn c h (eit c h inn o q) = true) {k : Nat} (hk : q ≤ k) : eit c h inn o k = eit c h inn o q := by
  obtain ⟨d, rfl⟩ : ∃ d, k = q + d := ⟨k - q, by omega⟩
  clear hk
  induction d with
  | zero => rfl
  | succ d ih =>
    show estep c h inn (eit c h inn o (q + d)) = _
    rw [ih]
    exact estep_done hd

/-- what a ticket that is named says of its slot -/
theorem ook_facts {h : Nat} {n : Int} (ho : ook h n = true) : 0 ≤ svN h ∧ svN h < n ∧ svN h = tsN h := by
  have hq := of_decide_eq_true ho
  have hs : sok h = true := decide_eq_true ⟨hq.1, hq.2.1⟩
  rw [sv_yes hs]
  exact ⟨hq.1, hq.2.2.2, rfl⟩

theorem sv_range (h : Nat) : 0 ≤ svN h ∧ svN h ≤ 11 := by
  unfold svN
  split
  · rename_i e
    have := of_decide_eq_true e
    omega
  · omega

/-- the first step: a look -/
theorem estep_look {c : Cf} (hr : c.r = true) {h : Nat} {inn : Nat → Bool} {o : Es} (hn : ook h c.s = true) (h1 : o.en = false) (h2 : o.tk = false) :
    estep c h inn o = ⟨mtouch c o.m 1 4 (svN h) 0 0, decide (flN h inn (o.m.ws (c.cl 4 (svN h)).toNat) = 0), o.m.ws (c.cl 4 (svN h)).toNat, o.w, flN h inn (o.m.ws (c.cl 4 (svN h)).toNat), !decide (flN h inn (o.m.ws (c.cl 4 (svN h)).toNat) = 0)⟩ := by
  obtain ⟨f0, f1, _⟩ := ook_facts hn
  have hc := (sl_cells hr f0 f1).1
  have hold : (mtouch c o.m 1 4 (svN h) 0 0).l.old = o.m.ws (c.cl 4 (svN h)).toNat := by rw [load_old, if_pos (by omega)]
  unfold estep edn
  rw [if_neg (by rw [h1, hn]; decide), if_neg (by rw [h2]; decide), hold]

/-- the second one: a swap -/
theorem estep_take {c : Cf} (hr : c.r = true) {h : Nat} {inn : Nat → Bool} {o : Es} (hn : ook h c.s = true) (h1 : o.en = false) (h2 : o.tk = true) :
    estep c h inn o = ⟨mtouch c o.m 3 4 (svN h) o.s (bzN o.s), false, o.s, if o.m.ws (c.cl 4 (svN h)).toNat = o.s then bzN o.s else o.w, o.e, decide (o.m.ws (c.cl 4 (svN h)).toNat = o.s)⟩ := by
  obtain ⟨f0, f1, _⟩ := ook_facts hn
  have hc := (sl_cells hr f0 f1).1
  have hd : (mtouch c o.m 3 4 (svN h) o.s (bzN o.s)).l.done = decide (o.m.ws (c.cl 4 (svN h)).toNat = o.s) := by
    rw [swap_done]
    by_cases e : o.m.ws (c.cl 4 (svN h)).toNat = o.s
    · rw [decide_eq_true e, decide_eq_true ⟨by omega, e⟩]
    · rw [decide_eq_false e, decide_eq_false (fun q => e q.2)]
  unfold estep edn
  rw [if_neg (by rw [h1, hn]; decide), if_pos h2, hd]
  by_cases e : o.m.ws (c.cl 4 (svN h)).toNat = o.s
  · rw [decide_eq_true e, if_pos rfl, if_pos e]
  · rw [decide_eq_false e, if_neg (by decide), if_neg e]

/-- alone, with something amiss: a step, nothing is changed -/
theorem alone_amiss {c : Cf} (hr : c.r = true) {h : Nat} {inn : Nat → Bool} (m : Mm) (hn : ook h c.s = true) (hf : flN h inn (m.ws (c.cl 4 (svN h)).toNat) ≠ 0) {k : Nat} (hk : 1 ≤ k) (A : Es) (hA : A = eit c h inn (enew m) k) :
    A.en = true ∧ A.e = flN h inn (m.ws (c.cl 4 (svN h)).toNat) ∧ A.w = 0 ∧ A.m.ws = m.ws := by
  have h1 : eit c h inn (enew m) 1 = _ := estep_look hr (inn := inn) (o := enew m) hn rfl rfl
  have hen : (eit c h inn (enew m) 1).en = true := by
    rw [h1]
    show (!decide (flN h inn (m.ws (c.cl 4 (svN h)).toNat) = 0)) = true
    rw [decide_eq_false hf]
    rfl
  have hd : edn c h (eit c h inn (enew m) 1) = true := by unfold edn; rw [hen]; rfl
  rw [hA, eit_done hd hk]
  refine ⟨hen, ?_, ?_, ?_⟩
  · rw [h1]; rfl
  · rw [h1]; rfl
  · rw [h1]; exact load_ws c m 4 (svN h)

/-- alone, with nothing amiss: two steps, its slot is busy -/
theorem alone_enters {c : Cf} (hr : c.r = true) {h : Nat} {inn : Nat → Bool} (m : Mm) (hn : ook h c.s = true) (hf : flN h inn (m.ws (c.cl 4 (svN h)).toNat) = 0) {k : Nat} (hk : 2 ≤ k) (A : Es) (hA : A = eit c h inn (enew m) k) :
    A.en = true ∧ A.e = 0 ∧ A.w = bzN (m.ws (c.cl 4 (svN h)).toNat) ∧ (∀ i : Nat, A.m.ws i = if (i : Int) = c.cl 4 (svN h) then bzN (m.ws i) else m.ws i) ∧ edn c h (eit c h inn (enew m) 1) = false := by
  obtain ⟨f0, f1, _⟩ := ook_facts hn
  have hc := (sl_cells hr f0 f1).1
  have h1 : eit c h inn (enew m) 1 = _ := estep_look hr (inn := inn) (o := enew m) hn rfl rfl
  have hen : (eit c h inn (enew m) 1).en = false := by
    rw [h1]
    show (!decide (flN h inn (m.ws (c.cl 4 (svN h)).toNat) = 0)) = false
    rw [decide_eq_true hf]
    rfl
  have htk : (eit c h inn (enew m) 1).tk = true := by rw [h1]; exact decide_eq_true hf
  have hm1 : (eit c h inn (enew m) 1).m.ws = m.ws := by rw [h1]; exact load_ws c m 4 (svN h)
  have hs1 : (eit c h inn (enew m) 1).s = m.ws (c.cl 4 (svN h)).toNat := by rw [h1]; rfl
  have he1 : (eit c h inn (enew m) 1).e = 0 := by rw [h1]; exact hf
  have h2 : eit c h inn (enew m) 2 = _ := estep_take hr (inn := inn) (o := eit c h inn (enew m) 1) hn hen htk
  have heq : (eit c h inn (enew m) 1).m.ws (c.cl 4 (svN h)).toNat = (eit c h inn (enew m) 1).s := by rw [hm1, hs1]
  have hen2 : (eit c h inn (enew m) 2).en = true := by rw [h2]; exact decide_eq_true heq
  have hd : edn c h (eit c h inn (enew m) 2) = true := by unfold edn; rw [hen2]; rfl
  rw [hA, eit_done hd hk]
  refine ⟨hen2, ?_, ?_, fun i => ?_, ?_⟩
  · rw [h2]; exact he1
  · rw [h2]
    show (if _ then _ else _) = _
    rw [if_pos heq, hs1]
  · rw [h2]
    show (mtouch c _ 3 4 (svN h) _ _).ws i = _
    rw [swap_ws, hm1, hs1]
    by_cases e : (i : Int) = c.cl 4 (svN h)
    · have ei : i = (c.cl 4 (svN h)).toNat := by omega
      rw [if_pos ⟨e, by rw [ei]⟩, if_pos e, ei]
    · rw [if_neg (fun q => e q.1), if_neg e]
  · unfold edn
    rw [hen, hn]
    rfl

/-- a leaving over a memory: has it looked, at what, is it done -/
structure Ls where
  m : Mm
  lk : Bool
  s : Nat
  dn : Bool

/-- the state that is laid -/
def lst (st : Int) (s : Nat) : Nat := if st < 0 ∨ 7 < st then stN s else st.toNat

def lstep (c : Cf) (sl st : Int) (o : Ls) : Ls :=
  if o.dn = true then o
  else if o.lk = false then ⟨mtouch c o.m 1 4 sl 0 0, true, (mtouch c o.m 1 4 sl 0 0).l.old, false⟩
  else ⟨mtouch c o.m 3 4 sl o.s (moveN o.s (lst st o.s) false), false, o.s, (mtouch c o.m 3 4 sl o.s (moveN o.s (lst st o.s) false)).l.done⟩

def lit10 (c : Cf) (sl st : Int) (o : Ls) : Nat → Ls
  | 0 => o
  | k + 1 => lstep c sl st (lit10 c sl st o k)

def lnew (m : Mm) : Ls := ⟨m, false, 0, false⟩

structure Lok (c : Cf) (o : Ls) : Prop where
  wd : ∀ i, i < c.n → Word (o.m.ws i)
  s : Word o.s

theorem lst_lt (st : Int) (s : Nat) : lst st s < 8 := by
  unfold lst
  split
  · exact part_lt s 27 3
  · omega

theorem lnew_ok {c : Cf} {m : Mm} (h : ∀ i, i < c.n → Word (m.ws i)) : Lok c (lnew m) := ⟨h, zero_word⟩

theorem lstep_ok {c : Cf} {sl st : Int} {o : Ls} (ho : Lok c o) : Lok c (lstep c sl st o) := by
  unfold lstep
  split
  · exact ho
  split
  · exact ⟨word_touch ho.wd zero_word, old_word ho.wd⟩
  · exact ⟨word_touch ho.wd (move_word ho.s (lst_lt _ _)), ho.s⟩

theorem lstep_done {c : Cf} {sl st : Int} {o : Ls} (hd : o.dn = true) : lstep c sl st o = o := by
  unfold lstep
  rw [if_pos hd]

theorem lit_done {c : Cf} {sl st : Int} {o : Ls} {q : Nat} (hd : (lit10 c sl st o q).dn = true) {k : Nat} (hk : q ≤ k) : lit10 c sl st o k = lit10 c sl st o q := by
  obtain ⟨d, rfl⟩ : ∃ d, k = q + d := ⟨k - q, by omega⟩
  clear hk
  induction d with
  | zero => rfl
  | succ d ih =>
    show lstep c sl st (lit10 c sl st o (q + d)) = _
    rw [ih]
    exact lstep_done hd

theorem lstep_look {c : Cf} (hr : c.r = true) {sl st : Int} {o : Ls} (h0 : 0 ≤ sl) (h1 : sl < c.s) (h2 : o.dn = false) (h3 : o.lk = false) :
    lstep c sl st o = ⟨mtouch c o.m 1 4 sl 0 0, true, o.m.ws (c.cl 4 sl).toNat, false⟩ := by
  have hc := (sl_cells hr h0 h1).1
  have hold : (mtouch c o.m 1 4 sl 0 0).l.old = o.m.ws (c.cl 4 sl).toNat := by rw [load_old, if_pos (by omega)]
  unfold lstep
  rw [if_neg (by rw [h2]; decide), if_pos h3, hold]

theorem lstep_lay {c : Cf} (hr : c.r = true) {sl st : Int} {o : Ls} (h0 : 0 ≤ sl) (h1 : sl < c.s) (h2 : o.dn = false) (h3 : o.lk = true) :
    lstep c sl st o = ⟨mtouch c o.m 3 4 sl o.s (moveN o.s (lst st o.s) false), false, o.s, decide (o.m.ws (c.cl 4 sl).toNat = o.s)⟩ := by
  have hc := (sl_cells hr h0 h1).1
  have hd : (mtouch c o.m 3 4 sl o.s (moveN o.s (lst st o.s) false)).l.done = decide (o.m.ws (c.cl 4 sl).toNat = o.s) := by
    rw [swap_done]
    by_cases e : o.m.ws (c.cl 4 sl).toNat = o.s
    · rw [decide_eq_true e, decide_eq_true ⟨by omega, e⟩]
    · rw [decide_eq_false e, decide_eq_false (fun q => e q.2)]
  unfold lstep
  rw [if_neg (by rw [h2]; decide), if_neg (by rw [h3]; decide), hd]

/-- alone: two steps, and it has left -/
theorem alone_leaves {c : Cf} (hr : c.r = true) {sl st : Int} (h0 : 0 ≤ sl) (h1 : sl < c.s) (m : Mm) {k : Nat} (hk : 2 ≤ k) (A : Ls) (hA : A = lit10 c sl st (lnew m) k) :
    A.dn = true ∧ (∀ i : Nat, A.m.ws i = if (i : Int) = c.cl 4 sl then moveN (m.ws i) (lst st (m.ws i)) false else m.ws i) ∧ (lit10 c sl st (lnew m) 0).dn = false ∧ (lit10 c sl st (lnew m) 1).dn = false := by
  have hc := (sl_cells hr h0 h1).1
  have e1 : lit10 c sl st (lnew m) 1 = _ := lstep_look hr (st := st) (o := lnew m) h0 h1 rfl rfl
  have hm1 : (lit10 c sl st (lnew m) 1).m.ws = m.ws := by rw [e1]; exact load_ws c m 4 sl
  have hs1 : (lit10 c sl st (lnew m) 1).s = m.ws (c.cl 4 sl).toNat := by rw [e1]; rfl
  have hd1 : (lit10 c sl st (lnew m) 1).dn = false := by rw [e1]
  have e2 : lit10 c sl st (lnew m) 2 = _ := lstep_lay hr (st := st) (o := lit10 c sl st (lnew m) 1) h0 h1 hd1 (by rw [e1])
  have hd2 : (lit10 c sl st (lnew m) 2).dn = true := by rw [e2]; exact decide_eq_true (by rw [hm1, hs1])
  rw [hA, lit_done hd2 hk]
  refine ⟨hd2, fun i => ?_, rfl, hd1⟩
  rw [e2]
  show (mtouch c _ 3 4 sl _ _).ws i = _
  rw [swap_ws, hm1, hs1]
  by_cases e : (i : Int) = c.cl 4 sl
  · have ei : i = (c.cl 4 sl).toNat := by omega
    rw [if_pos ⟨e, by rw [ei]⟩, if_pos e, ei]
  · rw [if_neg (fun q => e q.1), if_neg e]

end Um

/-
  Plain arithmetic of layer 10: two that enter at once; conflicts that are laid meanwhile. No Go in sight.
-/
namespace Um
set_option maxRecDepth 100000

/-- another memory -/
def setE (m : Mm) (o : Es) : Es := ⟨m, o.tk, o.s, o.w, o.e, o.en⟩
def setLs (m : Mm) (o : Ls) : Ls := ⟨m, o.lk, o.s, o.dn⟩

def EokW (c : Cf) (o : Es) : Prop := ∀ m : Mm, (∀ i, i < c.n → Word (m.ws i)) → Eok c (setE m o)
def LokW (c : Cf) (o : Ls) : Prop := ∀ m : Mm, (∀ i, i < c.n → Word (m.ws i)) → Lok c (setLs m o)

theorem Eok.okw {c : Cf} {o : Es} (h : Eok c o) : EokW c o := fun _ hm => ⟨hm, h.s, h.w, h.en⟩
theorem Lok.okw {c : Cf} {o : Ls} (h : Lok c o) : LokW c o := fun _ hm => ⟨hm, h.s⟩

/-- an active status, and it busy -/
def actW : Nat := 268435456
def busW : Nat := bzN actW

theorem w_facts : gnN actW = 0 ∧ stN actW = 2 ∧ actW.testBit 26 = false ∧ gnN busW = 0 ∧ stN busW = 2 ∧ busW.testBit 26 = true ∧ actW ≠ busW ∧ Word actW ∧ Word busW := by
  unfold Word
  decide +kernel

theorem fl_w0 {h : Nat} {inn : Nat → Bool} (hg : tgN h = 0) (hi : inn 2 = true) : flN h inn actW = 0 := by
  obtain ⟨a, b, d, _⟩ := w_facts
  unfold flN
  rw [a, b, d, if_neg (by rw [hg]; decide), if_neg (by decide), if_pos hi]

def won (a : Es) : Prop := a.en = true ∧ a.e = 0

structure Side10 (W : Nat) (a : Es) : Prop where
  fin : a.en = true → (a.e = 0 ∨ a.e = 3) ∧ W = busW
  tk : a.tk = true → a.s = actW ∧ a.en = false ∧ a.e = 0

structure Duo10 (W : Nat) (a b : Es) : Prop where
  wd : W = actW ∨ W = busW
  A : Side10 W a
  B : Side10 W b
  one : W = busW → (won a ∧ ¬ won b) ∨ (won b ∧ ¬ won a)

theorem Duo10.swap {W : Nat} {a b : Es} (h : Duo10 W a b) : Duo10 W b a := ⟨h.wd, h.B, h.A, fun q => (h.one q).symm⟩

theorem Duo10.at {W : Nat} {a b : Es} (h : Duo10 W a b) (m : Mm) : Duo10 W (setE m a) b := ⟨h.wd, ⟨h.A.fin, h.A.tk⟩, ⟨h.B.fin, h.B.tk⟩, h.one⟩

/-! ## sides -/

theorem move_with (x : Nat) (a b : Int) {st : Nat} (hs : st < 8) (bz : Bool) : moveN (withN x a b) st bz = withN (moveN x st bz) a b := by
  cases ho : okS a b with
  | false => rw [with_bad x a b ho, with_bad _ a b ho]
  | true =>
    have hlt := bitAt_lt ho
    rw [with_ok _ ho, with_ok _ ho]
    generalize bitAt a b = k at *
    apply Nat.eq_of_testBit_eq
    intro j
    rw [move_bits hs, testBit_setN, testBit_setN, move_bits hs]
    by_cases h : k = j
    · subst h
      rw [if_pos rfl, if_pos rfl, if_neg (show ¬ k = 26 by omega), if_neg (show ¬ (27 ≤ k ∧ k < 30) by omega)]
    · rw [if_neg h, if_neg h]

/-- busy, of its own state -/
theorem move_bz (x : Nat) : moveN x (stN x) true = bzN x := by
  have hs : stN x < 8 := part_lt x 27 3
  unfold bzN
  apply Nat.eq_of_testBit_eq
  intro j
  rw [testBit_setN, move_bits hs]
  by_cases e : 26 = j
  · rw [if_pos e, if_pos e.symm]
  · have e' : ¬ j = 26 := fun q => e q.symm
    rw [if_neg e, if_neg e']
    by_cases e2 : 27 ≤ j ∧ j < 30
    · rw [if_pos e2]
      unfold stN
      rw [testBit_part, show j - 27 + 27 = j by omega, decide_eq_true (show j - 27 < 3 by omega)]
      simp
    · rw [if_neg e2]

theorem gn_with (x : Nat) (a b : Int) : gnN (withN x a b) = gnN x := by
  apply Nat.eq_of_testBit_eq
  intro j
  unfold gnN
  rw [testBit_part, testBit_part, with_bits _ _ _ _ (by omega)]

theorem gn_move (x : Nat) {s : Nat} (hs : s < 8) (b : Bool) : gnN (moveN x s b) = gnN x := (move_parts x s b hs).2.2.1

/-- one that enters, and then leaves for the state 5, while conflicts are laid; V: what its status will be -/
structure Sid10 (W V : Nat) (e : Es) (l : Ls) : Prop where
  v : stN V = 5 ∧ V.testBit 26 = false ∧ gnN V = 0
  a : e.en = false → W = moveN V 2 false ∧ l.dn = false ∧ l.lk = false
  tk : e.tk = true → e.en = false
  b : e.en = true → l.dn = false → W = moveN V 2 true
  d : l.dn = true → W = V

theorem Sid10.lay {W V : Nat} {e : Es} {l : Ls} (h : Sid10 W V e l) (x y : Int) : Sid10 (withN W x y) (withN V x y) e l := by
  obtain ⟨v1, v2, v3⟩ := h.v
  refine ⟨⟨by rw [st_with]; exact v1, by rw [with_bits _ _ _ _ (by decide)]; exact v2, by rw [gn_with]; exact v3⟩, fun q => ⟨?_, (h.a q).2⟩, h.tk, fun q r => ?_, fun q => by rw [h.d q]⟩
  · rw [(h.a q).1, move_with _ _ _ (by decide)]
  · rw [h.b q r, move_with _ _ _ (by decide)]

theorem Sid10.at {W V : Nat} {e : Es} {l : Ls} (h : Sid10 W V e l) (m m' : Mm) : Sid10 W V (setE m e) (setLs m' l) := ⟨h.v, h.a, h.tk, h.b, h.d⟩

end Um

/-
  The walks of layer 6's maker of a new memory.
-/
namespace Go.Proofs.YtapgghciieloaaaGreat
set_option maxRecDepth 100000
open Go.RowKit Go.Sort

set_option maxHeartbeats 2000000 in
theorem sNew_wrong (c : Um.Cf) (w : World) (h : c.r = false) :
    Calls Tryz.prog 32 #[(.agg #[.int .i64 (c.t), .int .i64 (c.s), .int .i64 (c.k), .int .i64 (c.g), .int .u64 (c.q : Int)])] w fun e w' => e = .returned (.tuple #[.pointer none, .int .i64 1]) ∧ Below w.heap.size w w' := by
  have hL := cLen_any c.t c.s c.k c.g c.q
  rw [Cf_len] at hL
  have hO := fun v w => sOf_wrong c v w h
  have hk := run_makeW c.n (by have := c.n_le; omega)
  clear h
  generalize c.n = m at *
  go_enter Tryz.func32, Tryz.ntmps32
  go_wp2_with fail
  have K := cfAt_alloc w c 24
  have hB : Below w.heap.size w (w.alloc (.cells #[.int .i64 c.t, .int .i64 c.s, .int .i64 c.k, .int .i64 c.g, .int .u64 c.q] 24)) := (Below.refl _ _).alloc (Nat.le_refl _) _
  generalize w.alloc _ = W at *
  obtain ⟨_, a0, a1, a2, a3, a4⟩ := id K
  go_region_with (first | (go_at_call 71; refine (hL _).mono ?_; rintro e w3 ⟨rfl, hb3⟩; obtain ⟨_, b0, b1, b2, b3, b4⟩ := K.below (below_undrew hb3)) | (go_at_call 41; refine (hO _ _).mono ?_; rintro e w4 ⟨rfl, hb4⟩))
  all_goals
    have hB3 := hB.trans ((below_undrew hb3).mono hB.size)
    have hB4 := (hB3.alloc hB3.size _).trans (hb4.mono (by simp; exact Nat.le_succ_of_le hB3.size))
    clear hb3 hb4 b0 b1 b2 b3 b4 a0 a1 a2 a3 a4 K hk hO hL
    go_wp2
    go_ret2
    exact ⟨rfl, hB4⟩

theorem zero_words (w : World) (m : Nat) (hp : 0 < m) (hn : m ≤ 1000) : IsWords (w.alloc (.cells (rowW (fun _ => 0) m).toArray 22)) (.slice (some ⟨w.heap.size, 0, none⟩) m m) m (fun _ => 0) :=
  (LowWords.of_row hp hn (heap_alloc_new w _) (fun _ _ => by unfold Um.Word; omega)).is (by simp)

set_option maxHeartbeats 2000000 in
theorem sNew_right (c : Um.Cf) (w : World) (h : c.r = true) :
    Calls Tryz.prog 32 #[(.agg #[.int .i64 (c.t), .int .i64 (c.s), .int .i64 (c.k), .int .i64 (c.g), .int .u64 (c.q : Int)])] w fun e w' => ∃ B C, e = .returned (.tuple #[.pointer (some ⟨B, 0, none⟩), .int .i64 0]) ∧ w.heap.size ≤ B ∧ w.heap.size ≤ C ∧ MemAt w' B C c ⟨fun _ => 0, 0, Um.noT⟩ ∧ Below w.heap.size w w' := by
  have hL := cLen_any c.t c.s c.k c.g c.q
  rw [Cf_len] at hL
  have hp := Um.Cf.n_pos h
  have hO := fun v w => sOf_right c v (fun _ => 0) w h
  have hk := run_makeW c.n (by have := c.n_le; omega)
  have hm := c.n_le
  have HO := hide hO
  clear h hO
  generalize c.n = m at *
  go_enter Tryz.func32, Tryz.ntmps32
  go_wp2_with fail
  have K := cfAt_alloc w c 24
  have hB : Below w.heap.size w (w.alloc (.cells #[.int .i64 c.t, .int .i64 c.s, .int .i64 c.k, .int .i64 c.g, .int .u64 c.q] 24)) := (Below.refl _ _).alloc (Nat.le_refl _) _
  generalize w.alloc _ = W at *
  obtain ⟨_, a0, a1, a2, a3, a4⟩ := id K
  go_region_with (first | (go_at_call 71; refine (hL _).mono ?_; rintro e w3 ⟨rfl, hb3⟩; obtain ⟨_, b0, b1, b2, b3, b4⟩ := K.below (below_undrew hb3)) | (go_at_call 41; refine ((unhide HO) _ _ (zero_words _ m (by omega) (by omega))).mono ?_; rintro e w4 ⟨B, C, rfl, hl1, hl2, hM, hb4⟩))
  all_goals
    have hB3 := hB.trans ((below_undrew hb3).mono hB.size)
    have hs3 := hB3.size
    have hB4 := (hB3.alloc hB3.size _).trans (hb4.mono (by simp; exact Nat.le_succ_of_le hB3.size))
    have HM := hide hM
    simp at hl1 hl2
    clear hb3 hb4 b0 b1 b2 b3 b4 a0 a1 a2 a3 a4 K hk HO hL hM
    go_wp2
    go_ret2
    exact ⟨B, C, rfl, by omega, by omega, unhide HM, hB4⟩

end Go.Proofs.YtapgghciieloaaaGreat

/-
  A new memory, how many accesses there were, and its words: over blocks of two lists.
-/
namespace Go.Proofs.YtapgghciieloaaaGreat
set_option maxRecDepth 100000
open Go.RowKit Go.Sort

theorem set_same {α : Type} {l : List α} {k : Nat} {x : α} (h : l[k]? = some x) : l.set k x = l := by
  obtain ⟨h1, h2⟩ := List.getElem?_eq_some_iff.1 h
  subst h2
  exact List.set_getElem_self h1

section
variable {bs : List Nat} {w0 w : World} {l e : List (Nat × List Value)} {B C P : Nat} {c : Um.Cf} {m : Um.Mm}

theorem new_x (hS : Sx bs w0 w l e) (c : Um.Cf) (hr : c.r = true) : Calls Tryz.prog 32 #[(.agg #[.int .i64 (c.t), .int .i64 (c.s), .int .i64 (c.k), .int .i64 (c.g), .int .u64 (c.q : Int)])] w fun r w' => ∃ B C, r = .returned (.tuple #[.pointer (some ⟨B, 0, none⟩), .int .i64 0]) ∧ WordsOk c ⟨fun _ => 0, 0, Um.noT⟩ ∧ Sx bs w0 w' (l ++ [(B, memL c C ⟨fun _ => 0, 0, Um.noT⟩), (C, rowW (fun _ => 0) c.n)]) e := by
  refine (sNew_right c w hr).mono ?_
  rintro r w' ⟨B, C, rfl, h1, h2, hM, hb⟩
  refine ⟨B, C, rfl, hM.wd, hS.adds hb _ (fun p hp => ?_) (fun p hp => ?_) ?_⟩
  · rcases (by simpa using hp : p = (B, memL c C ⟨fun _ => 0, 0, Um.noT⟩) ∨ p = (C, rowW (fun _ => 0) c.n)) with rfl | rfl
    · exact hM.blkB
    · exact hM.blkC
  · rcases (by simpa using hp : p = (B, memL c C ⟨fun _ => 0, 0, Um.noT⟩) ∨ p = (C, rowW (fun _ => 0) c.n)) with rfl | rfl
    · exact h1
    · exact h2
  · simpa using hM.ne

end

theorem cells_x {bs : List Nat} {w0 w : World} {l e : List (Nat × List Value)} {B C : Nat} {c : Um.Cf} {m : Um.Mm} (hS : Sx bs w0 w l e) (i j : Nat) (hi : l[i]? = some (B, memL c C m)) (hj : l[j]? = some (C, rowW m.ws c.n)) (hij : i ≠ j) (hr : c.r = true) (hw : WordsOk c m) :
    Calls Tryz.prog 31 #[.pointer (some ⟨B, 0, none⟩)] w fun r w' => ∃ X, r = .returned (.slice (some ⟨X, 0, none⟩) c.n c.n) ∧ Sx bs w0 w' (l ++ [(X, rowW m.ws c.n)]) e := by
  refine (mCells_any (hS.mem i j hi hj hij hr hw)).mono ?_
  rintro r w' ⟨rfl, hg, hb⟩
  have := hS.add hb (blkAt_new hg) (Nat.le_refl _)
  rw [List.toList_toArray] at this
  exact ⟨_, rfl, this⟩

end Go.Proofs.YtapgghciieloaaaGreat

/-
  Blocks: what layers 8 and on ask for beside BlkX: loads from blocks that are only read, four blocks handed in, a new block beside turned ones; fields of structs; words of layer 1; a memory's world.
-/
namespace Go.Proofs.YtapgghciieloaaaGreat
set_option maxRecDepth 100000
open Go.RowKit Go.Sort

section
variable {P : Program} {ops : Array Oper} {rest : List Oper} {op : Oper} {a : Act} {bs : List Nat} {w w0 : World} {Q : Exit → Act → World → Prop} {l e : List (Nat × List Value)}

/-- a load from a block that is only read -/
theorem wpx_load1e (hS : Sx bs w0 w l e) (k : Nat) (hw : Region.wanted op (yielded ops a.tmps) = true) (ty : TypeId) (x : Operand) (ho : op.op = .load ty x) (b o : Nat) (hx : a.eval x = .pointer (some ⟨b, o, none⟩)) (cs : List Value) (hk : e[k]? = some (b, cs)) (hr : One P ty) (v : Value) (hv : cs[o]? = some v)
    (a' : Act) (ha : a.put op.dst v = a') (h : wpList P ops Q rest a' w) : wpList P ops Q (op :: rest) a w := by
  refine BigFrame.wpList_want hw fun K hK => ?_
  obtain ⟨d, hu, hd⟩ := hr
  subst ha
  have e : (execOp a.eval op).run P w = .ok (.value v) w := by
    unfold execOp
    rw [ho]
    simp [hx, run_load1_st (P := P) (hS.getE k hk) o ty v hv d hu hd]
  unfold Oper.wp
  rw [e]
  exact hK _ _ h

end

theorem Sx.read1 {w : World} {g : Nat} {cs : List Value} (hB : BlkAt w g cs) : Sx [] w w [] [(g, cs)] :=
  Sx.read w [(g, cs)] (fun p hp => by
    obtain rfl : p = _ := by simpa using hp
    exact hB)

section
variable {bs : List Nat} {w0 w w' : World} {l e : List (Nat × List Value)} {b1 b2 b3 b4 : Nat} {c1 c2 c3 c4 d1 d2 d3 d4 : List Value}

end

theorem field_cfgS (a b c d e : Value) (w : World) : (Instr.field 24 (.agg #[a, b, c, d, e]) 1).run Tryz.prog w = .ok b w := by simp [Instr.field, go_sem, asAgg]

section
variable {bs : List Nat} {w0 w : World} {l e : List (Nat × List Value)} {B C : Nat} {c : Um.Cf} {m : Um.Mm}

theorem config9_x (hS : Sx bs w0 w l e) (i j : Nat) (hi : l[i]? = some (B, memL c C m)) (hj : l[j]? = some (C, rowW m.ws c.n)) (hij : i ≠ j) (hr : c.r = true) (hw : WordsOk c m) : Calls Tryz.prog 123 #[.pointer (some ⟨B, 0, none⟩)] w fun r w' => r = .returned (.agg #[.int .i64 (c.t), .int .i64 (c.s), .int .i64 (c.k), .int .i64 (c.g), .int .u64 (c.q : Int)]) ∧ Below w.heap.size w w' :=
  mConfig_any (hS.mem i j hi hj hij hr hw)

end

set_option maxHeartbeats 1000000 in
theorem rGen_x {bs : List Nat} {w0 w : World} {l e : List (Nat × List Value)} (hS : Sx bs w0 w l e) (x : Nat) (hx : Um.Word x) :
    Calls Tryz.prog 37 #[.int .u64 (x : Nat)] w fun r w' => r = .returned (.int .i64 (Um.gnN x : Int)) ∧ Sx bs w0 w' l e := by
  have HC := hide (number_any x 30 32 w hx (by decide) (by decide) (by decide) (by decide))
  have HS := hide hS
  clear hS hx
  go_enter Tryz.func37, Tryz.ntmps37
  go_wp2_with fail
  refine (unhide HC).mono ?_
  rintro r u ⟨rfl, n, rfl⟩
  go_wp2
  go_ret
  exact ⟨rfl, (unhide HS).drewN n⟩

theorem rGen_b (x : Nat) (w : World) (hx : Um.Word x) : Calls Tryz.prog 37 #[.int .u64 (x : Nat)] w fun r w' => r = .returned (.int .i64 (Um.gnN x : Int)) ∧ Below w.heap.size w w' :=
  (rGen_x (Sx.new w) x hx).mono fun _ _ ⟨h1, h2⟩ => ⟨h1, h2.bel⟩

theorem rState_b (x : Nat) (w : World) (hx : Um.Word x) : Calls Tryz.prog 58 #[.int .u64 (x : Nat)] w fun r w' => r = .returned (.int .i64 (Um.stN x : Int)) ∧ Below w.heap.size w w' :=
  (rState_x (Sx.new w) x hx).mono fun _ _ ⟨h1, h2⟩ => ⟨h1, h2.bel⟩

theorem lst1_eq {a a' : Value} (h : a = a') : [a] = [a'] := by rw [h]

end Go.Proofs.YtapgghciieloaaaGreat

/-
  A region that draws its order: one obligation an operation; the frame as a list, its own slots written over. No program in sight.
-/
namespace Go.Proofs.YtapgghciieloaaaGreat
set_option maxRecDepth 100000
open Go.RowKit

theorem wp_region_ogt {P : Program} {ops : Array Oper} {Q : Exit → Act → World → Prop} {id : Nat} {ts : List Value} {w : World} (J : List Value → (Nat → Bool) → List Value → World → Prop) (hm : P.follows .mixedOrders = true)
    (hac : acycB .any ops = true)
    (h0 : J ts (fun _ => false) ts w.drew)
    (hst : ∀ (i : Nat) (o : Oper), ops[i]? = some o → ∀ D ts' w, D i = false → (∀ e ∈ o.after, Region.binds .any e = true → D e.on = true) → J ts D ts' w → wpOp P ops Q i (fun a' w' => ∃ ts'', a' = ⟨List.toArray ts'', []⟩ ∧ J ts (fun j => j == i || D j) ts'' w') ⟨List.toArray ts', []⟩ w)
    (hen : ∀ D ts' w, (∀ i, i < ops.size → D i = true) → J ts D ts' w → Q .normal ⟨List.toArray ts', []⟩ w) : (Code.region id ops true).wp P Q ⟨List.toArray ts, []⟩ w := by
  refine wp_region_og (fun D a' w' => ∃ ts', a' = ⟨List.toArray ts', []⟩ ∧ J ts D ts' w') hm (fun i o hi e he hb => og_acyc hac hi he hb) ⟨ts, rfl, h0⟩ ?_ ?_
  · rintro i o hi D a w hD hp ⟨ts', rfl, hJ⟩
    exact hst i o hi D ts' w hD hp hJ
  · rintro D a w hall ⟨ts', rfl, hJ⟩
    exact hen D ts' w hall hJ

theorem list4_eq {a a' b b' c c' d d' : Value} (h1 : a = a') (h2 : b = b') (h3 : c = c') (h4 : d = d') : [a, b, c, d] = [a', b', c', d'] := by rw [h1, h2, h3, h4]
theorem list3_eq {a a' b b' c c' : Value} (h1 : a = a') (h2 : b = b') (h3 : c = c') : [a, b, c] = [a', b', c'] := by rw [h1, h2, h3]

/-- a block's letter, to be named -/
theorem nameB {bs : List Nat} {w0 w : World} {l e : List (Nat × List Value)} (_ : Sx bs w0 w l e) (k : Nat) {b : Nat} {cs : List Value} (_ : l[k]? = some (b, cs)) : ∃ b', b' = b := ⟨b, rfl⟩

theorem nameW {bs : List Nat} {w0 w : World} {l e : List (Nat × List Value)} (_ : Sx bs w0 w l e) : ∃ u, u = w := ⟨w, rfl⟩

/-- slots written over -/
def putS (ts : List Value) : List (Nat × Value) → List Value
  | [] => ts
  | u :: r => putS (ts.set u.1 u.2) r

end Go.Proofs.YtapgghciieloaaaGreat
