/-
  Texts that the laws stand on, merged (WalkC, WalkE, HelpW, HelpN, HelpMath2, TicketMath, OpenMath, HelpMath5, OpenMath2, OpenMath3, OpenMath4, OpenMath5, OpenMath6, GateMath, GateMath2, StoreN).
-/
import Derived.Test.YtapgghciieloaaaGreatQ1
import Derived.Test.YtapgghciieloaaaGreatQ3
import Derived.Test.YtapgghciieloaaaGreatQ9
import Derived.Deep.RegionWith
import Derived.WalkSmall

namespace Go.Proofs.YtapgghciieloaaaGreat
section
set_option maxRecDepth 100000
open Go.RowKit
attribute [local go_sem] alloc_drewN setCell_drewN
theorem div_word {x k : Nat} (h : Um.Word x) : Um.Word (x / k) := Nat.lt_of_le_of_lt (Nat.div_le_self _ _) h
theorem and_part (y n : Nat) (hy : Um.Word y) (hn : n < 63) : wrap64 (bits .and .u64 (y : Int) ((2 ^ n - 1 : Nat) : Int)) = (Um.part y 0 n : Int) := by
  have h1 : Um.Word (2 ^ n - 1) := Nat.lt_of_le_of_lt (Nat.sub_le _ _) (pow_word (by omega))
  have e : Um.part y 0 n = y % 2 ^ n := by unfold Um.part; simp
  rw [u64_and_nat _ _ hy h1, Um.and_mask, e]
  apply wrap64_small
  have h2 := Nat.mod_lt y (Nat.two_pow_pos n)
  have h3 : 2 ^ n < 2 ^ 63 := Nat.pow_lt_pow_right (by decide) hn
  rw [show (2:Nat) ^ 63 = 9223372036854775808 by decide] at h3
  omega
set_option maxHeartbeats 400000 in
theorem take_any (y : Nat) (a : Int) (B : Nat) (w : World) (hy : Um.Word y) (h0 : 0 ≤ a) (h1 : a < 63)
    (hc : w.cell? ⟨B, 0, none⟩ = some (.int .u64 y)) (hf : w.frozen? ⟨B, 0, none⟩ = false) :
    Calls Tryz.prog 129 #[.int .i64 a, .pointer (some ⟨B, 0, none⟩)] w fun e w' =>
      e = .returned (.int .i64 (Um.part y 0 a.toNat)) ∧ ∃ n, w' = (w.setCell ⟨B, 0, none⟩ (.int .u64 (y / 2 ^ a.toNat : Nat))).drewN n := by
  go_enter Tryz.func129, Tryz.ntmps129
  go_wp2
  go_quiet ((go_at_call 130; exact Calls.quiet_of_same (ones_any _ _ (by omega) (by omega))))
  go_wp2
  go_ret
  refine ⟨ret_i64 (and_part _ _ hy (by omega)), nq, ?_⟩
  rw [show ((y : Int) / 2 ^ a.toNat) = ((y / 2 ^ a.toNat : Nat) : Int) by simp]
set_option maxHeartbeats 4000000 in
theorem unpack_any (x : Nat) (w : World) (hx : Um.Word x) :
    Calls Tryz.prog 120 #[.int .u64 x] w fun e w' => e = .returned (.agg #[.int .i64 (Um.part x 30 32), .int .i64 (Um.part x 27 3), .bool (x.testBit 26), .bool (x.testBit 25), .bool (x.testBit 24), .int .i64 (Um.part x 12 12), .int .i64 (Um.part x 0 12)]) ∧ Below w.heap.size w w' := by
  go_enter Tryz.func120, Tryz.ntmps120
  go_wp2_with fail
  refine (take_any (x) _ _ _ (by repeat (first | exact hx | apply div_word)) (by omega) (by omega) (by go_simp) (by go_simp)).mono ?_
  rintro e w' ⟨rfl, n0, rfl⟩
  go_wp2_with fail
  refine (take_any (x / 2 ^ 12) _ _ _ (by repeat (first | exact hx | apply div_word)) (by omega) (by omega) (by go_simp) (by go_simp)).mono ?_
  rintro e w' ⟨rfl, n1, rfl⟩
  go_wp2_with fail
  refine (take_any (x / 2 ^ 12 / 2 ^ 12) _ _ _ (by repeat (first | exact hx | apply div_word)) (by omega) (by omega) (by go_simp) (by go_simp)).mono ?_
  rintro e w' ⟨rfl, n2, rfl⟩
  go_wp2_with fail
  refine (take_any (x / 2 ^ 12 / 2 ^ 12 / 2 ^ 1) _ _ _ (by repeat (first | exact hx | apply div_word)) (by omega) (by omega) (by go_simp) (by go_simp)).mono ?_
  rintro e w' ⟨rfl, n3, rfl⟩
  go_wp2_with fail
  refine (take_any (x / 2 ^ 12 / 2 ^ 12 / 2 ^ 1 / 2 ^ 1) _ _ _ (by repeat (first | exact hx | apply div_word)) (by omega) (by omega) (by go_simp) (by go_simp)).mono ?_
  rintro e w' ⟨rfl, n4, rfl⟩
  go_wp2_with fail
  refine (take_any (x / 2 ^ 12 / 2 ^ 12 / 2 ^ 1 / 2 ^ 1 / 2 ^ 1) _ _ _ (by repeat (first | exact hx | apply div_word)) (by omega) (by omega) (by go_simp) (by go_simp)).mono ?_
  rintro e w' ⟨rfl, n5, rfl⟩
  go_wp2_with fail
  refine (take_any (x / 2 ^ 12 / 2 ^ 12 / 2 ^ 1 / 2 ^ 1 / 2 ^ 1 / 2 ^ 3) _ _ _ (by repeat (first | exact hx | apply div_word)) (by omega) (by omega) (by go_simp) (by go_simp)).mono ?_
  rintro e w' ⟨rfl, n6, rfl⟩
  go_wp2
  simp only [Um.un12, Um.un24, Um.un25, Um.un26, Um.un27, Um.un30]
  refine bodyPost_ret (v := .agg #[.int .i64 (Um.part x 30 32), .int .i64 (Um.part x 27 3), .bool (x.testBit 26), .bool (x.testBit 25), .bool (x.testBit 24), .int .i64 (Um.part x 12 12), .int .i64 (Um.part x 0 12)]) (by simp [results, Tryz.results120, go_sem]) rfl ⟨rfl, ?_⟩
  apply below_drewN
  exact (((Below.refl _ _).alloc (Nat.le_refl _) _).alloc (by simp) _).alloc (by simp; omega) _
end
section
set_option maxRecDepth 100000
open Go.RowKit
attribute [local go_sem] alloc_drewN setCell_drewN
theorem mask2 : bits .or .u64 67108864 939524096 = ((1006632960 : Nat) : Int) := by kernel_rfl
theorem move_law (x : Nat) (s : Int) (b : Bool) (hx : Um.Word x) :
    bits .or .u64 (bits .or .u64 (bits .andNot .u64 (x : Int) (bits .or .u64 67108864 939524096)) (IntKind.u64.wrap ((b.toNat : Int) * 67108864))) (IntKind.u64.wrap (bits .and .u64 (IntKind.u64.wrap s) 7 * 134217728))
      = (Um.moveN x (s % 8).toNat b : Int) := by
  have hm : Um.Word 1006632960 := Um.word_iff.2 (by decide)
  have hs : (s % 8).toNat < 8 := by omega
  have hb := Um.bool_le b
  have e1 : IntKind.u64.wrap ((b.toNat : Int) * 67108864) = ((b.toNat * 2 ^ 26 : Nat) : Int) := by rw [IntKind.wrap_u64]; omega
  have e2 : IntKind.u64.wrap s = ((s % 18446744073709551616).toNat : Int) := by rw [IntKind.wrap_u64]; omega
  have hk : Um.Word (s % 18446744073709551616).toNat := by unfold Um.Word; omega
  have e3 : bits .and .u64 (IntKind.u64.wrap s) 7 = ((s % 8).toNat : Int) := by
    rw [e2, show (7 : Int) = ((2 ^ 3 - 1 : Nat) : Int) by decide, u64_and_nat _ _ hk (by decide), Um.and_mask]
    omega
  have e4 : IntKind.u64.wrap (((s % 8).toNat : Int) * 134217728) = (((s % 8).toNat * 2 ^ 27 : Nat) : Int) := by rw [IntKind.wrap_u64]; omega
  have w1 : Um.Word (b.toNat * 2 ^ 26) := by unfold Um.Word; omega
  have w2 : Um.Word ((s % 8).toNat * 2 ^ 27) := by unfold Um.Word; omega
  have w3 : Um.Word (x &&& (18446744073709551615 - 1006632960)) := Um.Word.of fun j hj => by rw [Um.andNot_testBit x _ j hx hm, hx.bits j hj]; rfl
  rw [mask2, e3, e4, e1, u64_andNot_nat _ _ hx hm, u64_or_nat _ _ w3 w1, u64_or_nat _ _ (or_word w3 w1) w2, Um.move_eq _ _ _ hx hs]
set_option maxHeartbeats 400000 in
theorem move_any (x : Nat) (s : Int) (b : Bool) (w : World) (hx : Um.Word x) :
    Calls Tryz.prog 131 #[.int .u64 x, .int .i64 s, .bool b] w fun e w' => e = .returned (.int .u64 (Um.moveN x (s % 8).toNat b)) ∧ w' = w := by
  go_enter Tryz.func131, Tryz.ntmps131
  go_wp2_with (first
    | (go_at_call 130; refine (ones_any _ _ (by decide) (by decide)).mono ?_; rintro e w' ⟨rfl, rfl⟩)
    | (go_at_call 138; refine (flag_any _ _).mono ?_; rintro e w' ⟨rfl, rfl⟩))
  go_ret
  refine ⟨ret_u64 ?_, rfl⟩
  exact move_law _ _ _ hx
theorem tmod8 (s : Int) : (0 ≤ s.tmod 8 → s.tmod 8 = s % 8) ∧ (s.tmod 8 < 0 → s.tmod 8 + 8 = s % 8) := by
  rw [Int.tmod_eq_emod]
  split <;> (constructor <;> intro h <;> simp at h ⊢ <;> omega)
theorem state_law (x : Nat) (s L : Int) (hx : Um.Word x) (hL : L = s % 8) :
    IntKind.u64.wrap (IntKind.u64.wrap ((x : Int) - IntKind.u64.wrap (134217728 * IntKind.u64.wrap (Um.part x 27 3 : Int))) + IntKind.u64.wrap (134217728 * IntKind.u64.wrap L)) = (Um.stateN x (s % 8).toNat : Int) := by
  subst hL
  have h1 : Um.part x 27 3 < 8 := Um.part_lt x 27 3
  have h2 : 134217728 * Um.part x 27 3 ≤ x := by unfold Um.part; omega
  have h3 := Um.state_word hx (show (s % 8).toNat < 8 by omega)
  unfold Um.Word at hx h3
  simp only [IntKind.wrap_u64]
  unfold Um.stateN at h3 ⊢
  generalize Um.part x 27 3 = k at *
  omega
theorem put_int (X : Int) (x : Nat) (hX : X = x) (a : Int) (b : Bool) (w : World) (hx : Um.Word x) (h0 : 0 ≤ a) (h1 : a < 64) :
    Calls Tryz.prog 64 #[.int .u64 X, .int .i64 a, .bool b] w fun e w' => e = .returned (.int .u64 (Um.setN x a.toNat b)) ∧ w' = w := by
  subst hX
  exact put_any x a b w hx h0 h1
theorem wrap64_id (n : Int) (h0 : -9223372036854775808 ≤ n) (h1 : n ≤ 9223372036854775807) : wrap64 n = n := by
  unfold wrap64
  omega
set_option maxHeartbeats 400000 in
theorem refMove_any (x : Nat) (s : Int) (b : Bool) (w : World) (hx : Um.Word x) :
    Calls Tryz.prog 29 #[.int .u64 x, .int .i64 s, .bool b] w fun e w' => e = .returned (.int .u64 (Um.moveN x (s % 8).toNat b)) ∧ ∃ n, w' = w.drewN n := by
  have hw := Um.state_word hx (show (s % 8).toNat < 8 by omega)
  have ht := tmod8 s
  have HT := hide ht
  clear ht
  go_enter Tryz.func29, Tryz.ntmps29
  go_wp2_with (first
    | (go_at_call 68; refine (power_any _ _ (by omega) (by omega)).mono ?_; rintro e w' ⟨rfl, rfl⟩)
    | (go_at_call 69; refine (number_any _ _ _ _ hx (by omega) (by omega) (by omega) (by omega)).mono ?_; rintro e w' ⟨rfl, nq, rfl⟩))
  · have hl := (unhide HT).2 ‹s.tmod 8 < 0›
    have he : wrap64 (s.tmod 8 + 8) = s % 8 := by rw [hl]; exact wrap64_id _ (by omega) (by omega)
    have HE := hide he
    clear hl he
    refine (put_int _ _ (state_law x s _ hx (unhide HE)) _ _ _ hw (by omega) (by omega)).mono ?_
    rintro e w' ⟨rfl, rfl⟩
    go_wp2
    go_ret
    exact ⟨rfl, ⟨_, rfl⟩⟩
  · have hl := (unhide HT).1 ‹0 ≤ s.tmod 8›
    have HE := hide hl
    clear hl
    refine (put_int _ _ (state_law x s _ hx (unhide HE)) _ _ _ hw (by omega) (by omega)).mono ?_
    rintro e w' ⟨rfl, rfl⟩
    go_wp2
    go_ret
    exact ⟨rfl, ⟨_, rfl⟩⟩
set_option maxHeartbeats 1000000 in
theorem refPack_any (g st : Int) (b i o : Bool) (n t : Int) (w : World) :
    Calls Tryz.prog 74 #[.agg #[.int .i64 g, .int .i64 st, .bool b, .bool i, .bool o, .int .i64 n, .int .i64 t]] w fun e w' =>
      e = .returned (.tuple #[.int .u64 (Um.packV g st b i o n t : Int), .bool (Um.okSt g st n t)]) ∧ Below w.heap.size w w' := by
  cases hok : Um.okSt g st n t
  · rw [Um.packV_no hok]
    have hno : ¬ (0 ≤ t ∧ t ≤ 4095 ∧ 0 ≤ n ∧ n ≤ 4095 ∧ 0 ≤ st ∧ st ≤ 7 ∧ 0 ≤ g ∧ g ≤ 1073741824) := by
      intro h
      rw [Um.okSt_iff.2 h] at hok
      cases hok
    have HN := hide hno
    clear hno hok
    go_enter Tryz.func74, Tryz.ntmps74
    go_wp2
    all_goals first
      | (go_ret2; exact ⟨rfl, (Below.refl _ _).alloc (Nat.le_refl _) _⟩)
      | (exfalso; have h := unhide HN; omega)
  · rw [Um.packV_yes hok]
    obtain ⟨t0, t1, n0, n1, s0, s1, g0, g1⟩ := Um.okSt_iff.1 hok
    go_enter Tryz.func74, Tryz.ntmps74
    go_wp2
    go_quiet ((go_at_call 68; exact Calls.quiet_of_same (power_any _ _ (by omega) (by omega))))
    go_wp2_with fail
    have hbw := Um.base_word hok
    refine (put_int _ (Um.baseN g st n t) ?_ _ _ _ hbw (by omega) (by omega)).mono ?_
    · unfold Um.baseN
      omega
    rintro e w' ⟨rfl, rfl⟩
    go_wp2_with fail
    refine (put_int _ _ rfl _ _ _ (hbw.setN (by decide)) (by omega) (by omega)).mono ?_
    rintro e w' ⟨rfl, rfl⟩
    go_wp2_with fail
    refine (put_int _ _ rfl _ _ _ ((hbw.setN (by decide)).setN (by decide)) (by omega) (by omega)).mono ?_
    rintro e w' ⟨rfl, rfl⟩
    go_wp2
    go_ret2
    refine ⟨?_, ?_⟩
    · rw [← Um.base_put hok]
      rfl
    · repeat (first | exact (Below.refl _ _).alloc (Nat.le_refl _) _ | apply below_drewN)
end
section
set_option maxRecDepth 100000
open Go.RowKit Go.Sort
theorem Sx.drewN {bs : List Nat} {w0 w : World} {l e : List (Nat × List Value)} (h : Sx bs w0 w l e) (n : Nat) : Sx bs w0 (w.drewN n) l e := h.call (below_drewN (Below.refl _ _) n)
set_option maxHeartbeats 1000000 in
theorem rState_x {bs : List Nat} {w0 w : World} {l e : List (Nat × List Value)} (hS : Sx bs w0 w l e) (x : Nat) (hx : Um.Word x) :
    Calls Tryz.prog 58 #[.int .u64 (x : Nat)] w fun r w' => r = .returned (.int .i64 (Um.stN x : Int)) ∧ Sx bs w0 w' l e := by
  have HC := hide (number_any x 27 3 w hx (by decide) (by decide) (by decide) (by decide))
  have HS := hide hS
  clear hS hx
  go_enter Tryz.func58, Tryz.ntmps58
  go_wp2_with fail
  refine (unhide HC).mono ?_
  rintro r u ⟨rfl, n, rfl⟩
  go_wp2
  go_ret
  exact ⟨rfl, (unhide HS).drewN n⟩
set_option maxHeartbeats 1000000 in
theorem rBusy_x {bs : List Nat} {w0 w : World} {l e : List (Nat × List Value)} (hS : Sx bs w0 w l e) (x : Nat) (hx : Um.Word x) :
    Calls Tryz.prog 59 #[.int .u64 (x : Nat)] w fun r w' => r = .returned (.bool (x.testBit 26)) ∧ Sx bs w0 w' l e := by
  have HC := hide (bit_any x 26 w hx (by decide) (by decide))
  have HS := hide hS
  clear hS hx
  go_enter Tryz.func59, Tryz.ntmps59
  go_wp2_with fail
  refine (unhide HC).mono ?_
  rintro r u ⟨rfl, rfl⟩
  go_wp2
  go_ret
  exact ⟨rfl, unhide HS⟩
end
section
set_option maxRecDepth 100000
open Go.RowKit Go.Sort
set_option maxHeartbeats 1000000 in
theorem rNew01_any (st : Int) (w : World) : Calls Tryz.prog 34 #[.int .i64 st, .int .i64 0] w fun r w' => r = .returned (.int .u64 (Um.packV 0 st false false false 0 0 : Int)) ∧ Below w.heap.size w w' := by
  go_enter Tryz.func34, Tryz.ntmps34
  go_wp2_with fail
  refine (refPack_any 0 st false false false 0 0 _).mono ?_
  rintro r u ⟨rfl, hb⟩
  go_wp2
  go_ret
  exact ⟨rfl, hb⟩
end
end Go.Proofs.YtapgghciieloaaaGreat
namespace Um
set_option maxRecDepth 100000
def iS (c : Cf) (w : Nat) : Int := c.cl 4 (penN w)
def iN (c : Cf) (w : Nat) : Int := c.cl 6 (penN w)
def hgN (c : Cf) (w : Nat) (ws : Nat → Nat) (i : Nat) : Nat :=
  if i = 0 then (if ws 0 = w then setlN w else ws 0)
  else if (i : Int) = iN c w then (if ws i = 0 then seqN w else ws i)
  else if (i : Int) = iS c w then (if stN (ws i) = 3 then comN (ws i) else ws i)
  else ws i
def Mix (c : Cf) (w : Nat) (ws0 ws : Nat → Nat) : Prop := ∀ i, ws i = ws0 i ∨ ws i = hgN c w ws0 i
structure Knows (c : Cf) (w : Nat) (ws0 ws : Nat → Nat) (h : Hs) : Prop where
  nx : h.nx ≤ 4
  num : 1 ≤ h.nx → 0 ≤ iN c w → ws (iN c w).toNat = hgN c w ws0 (iN c w).toNat
  lay : h.nx = 2 → 0 ≤ iS c w ∧ h.s = ws0 (iS c w).toNat ∧ stN (ws0 (iS c w).toNat) = 3
  set : 3 ≤ h.nx → 0 ≤ iS c w → ws (iS c w).toNat = hgN c w ws0 (iS c w).toNat
  tal : h.nx = 4 → ws 0 = hgN c w ws0 0
def left (c : Cf) (w : Nat) (ws0 : Nat → Nat) (h : Hs) : Nat :=
  if h.nx = 0 then 6 else if h.nx = 1 then (if 0 ≤ iS c w ∧ h.m.ws (iS c w).toNat ≠ hgN c w ws0 (iS c w).toNat then 4 else 2) else if h.nx = 2 then 3 else if h.nx = 3 then 1 else 0
end Um
namespace Um
set_option maxRecDepth 100000
def nearS (a : Int) : Int := min (max a 0) 11
def nearG (a : Int) : Int := min (max a 0) 1073741823
def tsN (x : Nat) : Int := (x % 16 : Nat) - 1
def tgN (x : Nat) : Int := (min (x / 16) 1073741824 : Nat)
def mok (s g : Int) : Bool := decide (0 ≤ s ∧ s ≤ 11 ∧ 0 ≤ g ∧ g ≤ 1073741823)
def mkN (s g : Int) : Nat := if mok s g then (16 * g + s + 1).toNat else 0
def sok (x : Nat) : Bool := decide (0 ≤ tsN x ∧ tsN x ≤ 11)
def svN (x : Nat) : Int := if sok x then tsN x else 0
def ook (x : Nat) (n : Int) : Bool := decide (0 ≤ tsN x ∧ tsN x ≤ 11 ∧ tgN x ≤ 1073741823 ∧ tsN x < n)
def osN (x : Nat) (n : Int) : Int := if ook x n then tsN x else 0
def ogN (x : Nat) (n : Int) : Int := if ook x n then tgN x else 0
theorem tg_bd (x : Nat) : 0 ≤ tgN x ∧ tgN x ≤ 1073741824 := by unfold tgN; omega
theorem sok_iff {x : Nat} : sok x = true ↔ 0 ≤ tsN x ∧ tsN x ≤ 11 := by unfold sok; simp
theorem sok_no {x : Nat} : sok x = false ↔ ¬ (0 ≤ tsN x ∧ tsN x ≤ 11) := by unfold sok; simp
theorem sv_yes {x : Nat} (h : sok x = true) : svN x = tsN x := by unfold svN; rw [if_pos h]
theorem sv_no {x : Nat} (h : sok x = false) : svN x = 0 := by unfold svN; rw [h]; rfl
theorem ook_iff {x : Nat} {n : Int} : ook x n = true ↔ 0 ≤ tsN x ∧ tsN x ≤ 11 ∧ tgN x ≤ 1073741823 ∧ tsN x < n := by unfold ook; simp
theorem ook_no {x : Nat} {n : Int} : ook x n = false ↔ ¬ (0 ≤ tsN x ∧ tsN x ≤ 11 ∧ tgN x ≤ 1073741823 ∧ tsN x < n) := by unfold ook; simp
theorem os_yes {x : Nat} {n : Int} (h : ook x n = true) : osN x n = tsN x := by unfold osN; rw [if_pos h]
theorem os_no {x : Nat} {n : Int} (h : ook x n = false) : osN x n = 0 := by unfold osN; rw [h]; rfl
theorem og_yes {x : Nat} {n : Int} (h : ook x n = true) : ogN x n = tgN x := by unfold ogN; rw [if_pos h]
theorem og_no {x : Nat} {n : Int} (h : ook x n = false) : ogN x n = 0 := by unfold ogN; rw [h]; rfl
theorem near_sok {x : Nat} : decide (tsN x = nearS (tsN x) ∧ (0 : Int) = nearG 0) = sok x := by
  unfold sok nearS nearG
  rw [Bool.eq_iff_iff, decide_eq_true_iff, decide_eq_true_iff]
  omega
theorem near_ook {x : Nat} : decide (tsN x = nearS (tsN x) ∧ tgN x = nearG (tgN x)) = decide (0 ≤ tsN x ∧ tsN x ≤ 11 ∧ tgN x ≤ 1073741823) := by
  have := tg_bd x
  unfold nearS nearG
  rw [Bool.eq_iff_iff, decide_eq_true_iff, decide_eq_true_iff]
  omega
end Um
namespace Um
set_option maxRecDepth 100000
def gnN (x : Nat) : Nat := part x 30 32
structure Os where
  m : Mm
  sl : Int
  nx : Nat
  s : Nat
  q : Nat
  w : Nat
  hn : Nat
  hs : Nat
  te : Int
  th : Nat
  tn : Nat
def frN (c : Cf) (x : Nat) : Bool := decide (stN x = 0 ∧ ((gnN x : Nat) : Int) ≤ c.g)
structure Ook (c : Cf) (o : Os) : Prop where
  wd : ∀ i, i < c.n → Word (o.m.ws i)
  s : Word o.s
  q : Word o.q
  w : Word o.w
  hs : Word o.hs
  hn : o.hn ≤ 4
  nx : o.nx ≤ 6
  sl0 : 0 ≤ o.sl
  sl1 : o.sl ≤ c.s
  th : Word o.th
  tn : Word o.tn
  sl : o.nx < 6 → o.sl < c.s
theorem zero_word : Word 0 := by unfold Word; decide
end Um
namespace Um
set_option maxRecDepth 100000
theorem put_ws (c : Cf) (m : Mm) (a b : Int) (v i : Nat) : (mtouch c m 2 a b 0 v).ws i = if (i : Int) = c.cl a b then v else m.ws i := by
  unfold mtouch
  split
  · rename_i h
    show putW m.ws (c.cl a b).toNat (trn 2 0 v (m.ws (c.cl a b).toNat)) i = _
    by_cases e : i = (c.cl a b).toNat
    · subst e
      rw [putW_same, if_pos (by omega)]
      rfl
    · rw [putW_other e, if_neg (by omega)]
  · rename_i h
    rw [if_neg (by omega)]
    rfl
theorem with_bits (x : Nat) (a b : Int) (j : Nat) (hj : 24 ≤ j) : (withN x a b).testBit j = x.testBit j := by
  unfold withN
  split
  · rename_i h
    have := bitAt_lt h
    rw [testBit_setN, if_neg (by omega)]
  · rfl
theorem st_with (x : Nat) (a b : Int) : stN (withN x a b) = stN x := by
  apply Nat.eq_of_testBit_eq
  intro j
  unfold stN
  rw [testBit_part, testBit_part, with_bits _ _ _ _ (by omega)]
theorem with_ok (x : Nat) {a b : Int} (ho : okS a b = true) : withN x a b = setN x (bitAt a b) true := by
  unfold withN
  exact if_pos ho
theorem com_with (x : Nat) (a b : Int) : comN (withN x a b) = withN (comN x) a b := by
  unfold comN
  rw [with_bits x a b 26 (by decide)]
  cases ho : okS a b with
  | false => rw [with_bad x a b ho, with_bad _ a b ho]
  | true =>
    have hlt := bitAt_lt ho
    rw [with_ok _ ho, with_ok _ ho]
    generalize x.testBit 26 = q
    generalize bitAt a b = k at *
    apply Nat.eq_of_testBit_eq
    intro j
    rw [move_bits (by decide), testBit_setN, testBit_setN, move_bits (by decide)]
    by_cases h : k = j
    · subst h
      rw [if_pos rfl, if_pos rfl, if_neg (show ¬ k = 26 by omega), if_neg (show ¬ (27 ≤ k ∧ k < 30) by omega)]
    · rw [if_neg h, if_neg h]
structure Sid (c : Cf) (x W : Nat) (m : Mm) (nx s : Nat) : Prop where
  le : nx ≤ 4
  low : nx ≤ 2 → stN (m.ws (iS c x).toNat) = 3 ∧ comN (m.ws (iS c x).toNat) = W
  high : 3 ≤ nx → m.ws (iS c x).toNat = W
  n0 : nx = 0 → m.ws (iN c x).toNat = 0
  n1 : 1 ≤ nx → m.ws (iN c x).toNat = seqN x
theorem Sid.ws {c : Cf} {x W : Nat} {m m' : Mm} {nx s : Nat} (h : Sid c x W m nx s) (e : m'.ws = m.ws) : Sid c x W m' nx s :=
  ⟨h.le, fun q => by rw [e]; exact h.low q, fun q => by rw [e]; exact h.high q, fun q => by rw [e]; exact h.n0 q, fun q => by rw [e]; exact h.n1 q⟩
theorem Sid.lay {c : Cf} {x W : Nat} {m : Mm} {nx s : Nat} (hi : 0 < iS c x ∧ iN c x = iS c x + 2) {sl : Int} (hpen : penN x = sl) (h : Sid c x W m nx s) (a b : Int) (S : Nat) (hS : S = m.ws (iS c x).toNat) (m' : Mm) (hm : m' = mtouch c m 2 4 sl 0 (withN S a b)) : Sid c x (withN W a b) m' nx s := by
  have e1 : m'.ws (iS c x).toNat = withN S a b := by
    rw [hm, put_ws, if_pos]
    show _ = c.cl 4 sl
    rw [← hpen]
    show _ = iS c x
    omega
  have e2 : m'.ws (iN c x).toNat = m.ws (iN c x).toNat := by
    rw [hm, put_ws, if_neg]
    show ¬ _ = c.cl 4 sl
    rw [← hpen]
    show ¬ _ = iS c x
    omega
  refine ⟨h.le, fun q => ?_, fun q => ?_, fun q => ?_, fun q => ?_⟩
  · rw [e1, st_with, com_with, hS, (h.low q).2]
    exact ⟨(h.low q).1, rfl⟩
  · rw [e1, hS, h.high q]
  · rw [e2]; exact h.n0 q
  · rw [e2]; exact h.n1 q
end Um
namespace Um
set_option maxRecDepth 100000
structure Got (c : Cf) (ws : Nat → Nat) (f : Int) : Prop where
  lo : 0 ≤ f
  hi : f < c.s
  fr : frN c (ws (c.cl 4 f).toNat) = true
  least : ∀ i : Int, 0 ≤ i → i < f → frN c (ws (c.cl 4 i).toNat) = false
def Full (c : Cf) (ws : Nat → Nat) : Prop := ∀ i : Int, 0 ≤ i → i < c.s → frN c (ws (c.cl 4 i).toNat) = false
def ws1 (c : Cf) (ws : Nat → Nat) (f : Int) (i : Nat) : Nat := if (i : Int) = c.cl 4 f then moveN (ws i) 1 false else ws i
def ws2 (c : Cf) (ws : Nat → Nat) (f : Int) (i : Nat) : Nat := hgN c (ws 0) (ws1 c ws f) i
def ws3 (c : Cf) (ws : Nat → Nat) (f : Int) (i : Nat) : Nat := if (i : Int) = c.cl 4 f then moveN (ws i) 2 false else if (i : Int) = c.cl 5 f then seqN (ws 0) else ws2 c ws f i
structure Al (c : Cf) (ws : Nat → Nat) (o : Os) : Prop where
  nx : o.nx ≤ 6
  lo : o.nx = 0 → 0 ≤ o.sl ∧ o.sl < c.s ∧ (∀ i, o.m.ws i = ws i) ∧ ∀ i : Int, 0 ≤ i → i < o.sl → frN c (ws (c.cl 4 i).toNat) = false
  tk : 1 ≤ o.nx → o.nx ≤ 5 → Got c ws o.sl ∧ o.s = ws (c.cl 4 o.sl).toNat
  t1 : o.nx = 1 → ∀ i, o.m.ws i = ws i
  t2 : o.nx = 2 → (∀ i, o.m.ws i = ws1 c ws o.sl i) ∨ (0 ≤ penN (ws 0) ∧ ∀ i, o.m.ws i = ws2 c ws o.sl i)
  t3 : o.nx = 3 → o.w = ws 0 ∧ 0 ≤ penN (ws 0) ∧ Mix c (ws 0) (ws1 c ws o.sl) o.m.ws ∧ Knows c (ws 0) (ws1 c ws o.sl) o.m.ws ⟨o.m, o.hn, o.hs⟩ ∧ o.hn ≠ 4
  t4 : o.nx = 4 → (∀ i, o.m.ws i = ws2 c ws o.sl i) ∧ o.q = seqN (ws 0)
  t5 : o.nx = 5 → (∀ i, o.m.ws i = if (i : Int) = c.cl 5 o.sl then seqN (ws 0) else ws2 c ws o.sl i) ∧ o.q = seqN (ws 0)
  t6 : o.nx = 6 → (Full c ws ∧ (∀ i, o.m.ws i = ws i) ∧ o.te = 6 ∧ o.th = 0 ∧ o.tn = 0) ∨ ∃ f, Got c ws f ∧ (∀ i, o.m.ws i = ws3 c ws f i) ∧ o.te = 0 ∧ o.th = mkN f ((gnN (ws (c.cl 4 f).toNat) : Nat) : Int) ∧ o.tn = seqN (ws 0)
end Um
namespace Um
set_option maxRecDepth 100000
def Owns (o : Os) (i : Int) : Prop := 2 ≤ o.nx ∧ (o.nx = 6 → o.te = 0) ∧ o.sl = i
structure Side9 (c : Cf) (m : Mm) (a b : Os) : Prop where
  nx : a.nx ≤ 6
  n3 : a.nx ≠ 3
  lo : 0 ≤ a.sl
  lt : a.nx ≤ 5 → a.sl < c.s
  s : 1 ≤ a.nx → a.nx ≤ 5 → a.s = 0
  pass : ∀ i : Int, 0 ≤ i → i < a.sl → Owns b i
  mine : Owns a a.sl → stN (m.ws (c.cl 4 a.sl).toNat) ≠ 0 ∧ a.sl < c.s
  end6 : a.nx = 6 → (a.te = 0 ∧ a.th = mkN a.sl 0) ∨ (a.te = 6 ∧ a.sl = c.s)
structure Duo9 (c : Cf) (m : Mm) (a b : Os) : Prop where
  tal : m.ws 0 = 0
  A : Side9 c m a b
  B : Side9 c m b a
  apart : ∀ i, Owns a i → ¬ Owns b i
  all : ∀ i : Int, 0 ≤ i → i < c.s → m.ws (c.cl 4 i).toNat = 0 ∨ Owns a i ∨ Owns b i
theorem Duo9.swap {c : Cf} {m : Mm} {a b : Os} (h : Duo9 c m a b) : Duo9 c m b a :=
  ⟨h.tal, h.B, h.A, fun i q r => h.apart i r q, fun i i0 i1 => (h.all i i0 i1).imp id Or.symm⟩
end Um
namespace Um
set_option maxRecDepth 100000
structure Seen (c : Cf) (m : Mm) (o : Os) (sq now : Nat) : Prop where
  nx : o.nx ≤ 6
  n3 : o.nx ≠ 3
  sl : o.sl = 0
  tal : m.ws 0 = 16 * now
  le : sq ≤ now
  fr : o.nx ≤ 1 → m.ws (c.cl 4 0).toNat = 0
  s : o.nx = 1 → o.s = 0
  q : 4 ≤ o.nx → sq ≤ o.q ∧ o.q ≤ now
  sn : 5 ≤ o.nx → m.ws (c.cl 5 0).toNat = o.q
  t6 : o.nx = 6 → o.te = 0 ∧ o.tn = o.q
end Um
namespace Um
set_option maxRecDepth 100000
structure Fu (c : Cf) (ws : Nat → Nat) (i : Int) : Prop where
  tal : ws 0 = 0
  low : ∀ j : Int, 0 ≤ j → j < i → stN (ws (c.cl 4 j).toNat) ≠ 0
  high : ∀ j : Int, i ≤ j → j < c.s → ws (c.cl 4 j).toNat = 0
end Um
namespace Um
set_option maxRecDepth 100000
structure Lo9 (c : Cf) (ws : Nat → Nat) (k f : Int) : Prop where
  none : f < 0 → f = -1 ∧ ∀ i : Int, k ≤ i → i < c.s → frN c (ws (c.cl 4 i).toNat) = false
  one : 0 ≤ f → k ≤ f ∧ f < c.s ∧ frN c (ws (c.cl 4 f).toNat) = true ∧ ∀ i : Int, k ≤ i → i < f → frN c (ws (c.cl 4 i).toNat) = false
theorem Lo9.no {c : Cf} {ws : Nat → Nat} {k f : Int} (h : Lo9 c ws (k + 1) f) (hf : frN c (ws (c.cl 4 k).toNat) = false) : Lo9 c ws k f := by
  refine ⟨fun q => ⟨(h.none q).1, fun i i0 i1 => ?_⟩, fun q => ?_⟩
  · by_cases e : i = k
    · rw [e]; exact hf
    · exact (h.none q).2 i (by omega) i1
  · obtain ⟨a, b, d, e⟩ := h.one q
    refine ⟨by omega, b, d, fun i i0 i1 => ?_⟩
    by_cases e2 : i = k
    · rw [e2]; exact hf
    · exact e i (by omega) i1
def setM (m : Mm) (o : Os) : Os := ⟨m, o.sl, o.nx, o.s, o.q, o.w, o.hn, o.hs, o.te, o.th, o.tn⟩
def OkW (c : Cf) (o : Os) : Prop := ∀ m : Mm, (∀ i, i < c.n → Word (m.ws i)) → Ook c (setM m o)
theorem Ook.okw {c : Cf} {o : Os} (h : Ook c o) : OkW c o := fun _ hm => ⟨hm, h.s, h.q, h.w, h.hs, h.hn, h.nx, h.sl0, h.sl1, h.th, h.tn, h.sl⟩
theorem Duo9.at {c : Cf} {m : Mm} {a b : Os} (h : Duo9 c m a b) (m' : Mm) : Duo9 c m (setM m' a) b :=
  ⟨h.tal, ⟨h.A.nx, h.A.n3, h.A.lo, h.A.lt, h.A.s, h.A.pass, h.A.mine, h.A.end6⟩, ⟨h.B.nx, h.B.n3, h.B.lo, h.B.lt, h.B.s, h.B.pass, h.B.mine, h.B.end6⟩, h.apart, h.all⟩
theorem Seen.at {c : Cf} {m : Mm} {o : Os} {sq now : Nat} (h : Seen c m o sq now) (m' : Mm) : Seen c m (setM m' o) sq now :=
  ⟨h.nx, h.n3, h.sl, h.tal, h.le, h.fr, h.s, h.q, h.sn, h.t6⟩
end Um
namespace Um
set_option maxRecDepth 100000
def bzN (s : Nat) : Nat := setN s 26 true
def flN (h : Nat) (inn : Nat → Bool) (s : Nat) : Int :=
  if ((gnN s : Nat) : Int) ≠ tgN h ∨ stN s = 0 ∨ stN s = 1 then 2 else if s.testBit 26 then 3 else if inn (stN s) then 0 else 4
structure Es where
  m : Mm
  tk : Bool
  s : Nat
  w : Nat
  e : Int
  en : Bool
def edn (c : Cf) (h : Nat) (o : Es) : Bool := o.en || !ook h c.s
def eer (c : Cf) (h : Nat) (o : Es) : Int := if ook h c.s then o.e else 2
def estep (c : Cf) (h : Nat) (inn : Nat → Bool) (o : Es) : Es :=
  if edn c h o = true then o
  else if o.tk = true then
    ⟨mtouch c o.m 3 4 (svN h) o.s (bzN o.s), false, o.s, if (mtouch c o.m 3 4 (svN h) o.s (bzN o.s)).l.done then bzN o.s else o.w, o.e, (mtouch c o.m 3 4 (svN h) o.s (bzN o.s)).l.done⟩
  else
    ⟨mtouch c o.m 1 4 (svN h) 0 0, decide (flN h inn (mtouch c o.m 1 4 (svN h) 0 0).l.old = 0), (mtouch c o.m 1 4 (svN h) 0 0).l.old, o.w, flN h inn (mtouch c o.m 1 4 (svN h) 0 0).l.old, !decide (flN h inn (mtouch c o.m 1 4 (svN h) 0 0).l.old = 0)⟩
def enew (m : Mm) : Es := ⟨m, false, 0, 0, 0, false⟩
structure Eok (c : Cf) (o : Es) : Prop where
  wd : ∀ i, i < c.n → Word (o.m.ws i)
  s : Word o.s
  w : Word o.w
  en : o.en = true → o.tk = false
theorem bz_word {s : Nat} (h : Word s) : Word (bzN s) := h.setN (by decide)
theorem enew_ok {c : Cf} {m : Mm} (h : ∀ i, i < c.n → Word (m.ws i)) : Eok c (enew m) := ⟨h, zero_word, zero_word, fun _ => rfl⟩
theorem estep_ok {c : Cf} {h : Nat} {inn : Nat → Bool} {o : Es} (ho : Eok c o) : Eok c (estep c h inn o) := by
  unfold estep
  split
  · exact ho
  split
  · refine ⟨word_touch ho.wd (bz_word ho.s), ho.s, ?_, fun _ => rfl⟩
    show Word (if _ then _ else _)
    split
    · exact bz_word ho.s
    · exact ho.w
  · refine ⟨word_touch ho.wd zero_word, old_word ho.wd, ho.w, fun q => ?_⟩
    have q' : (!decide (flN h inn (mtouch c o.m 1 4 (svN h) 0 0).l.old = 0)) = true := q
    show decide _ = false
    cases hd : decide (flN h inn (mtouch c o.m 1 4 (svN h) 0 0).l.old = 0)
    · rfl
    · rw [hd] at q'; cases q'
theorem estep_done {c : Cf} {h : Nat} {inn : Nat → Bool} {o : Es} (hd : edn c h o = true) : estep c h inn o = o := by
  unfold estep
  rw [if_pos hd]
theorem ook_facts {h : Nat} {n : Int} (ho : ook h n = true) : 0 ≤ svN h ∧ svN h < n ∧ svN h = tsN h := by
  have hq := of_decide_eq_true ho
  have hs : sok h = true := decide_eq_true ⟨hq.1, hq.2.1⟩
  rw [sv_yes hs]
  exact ⟨hq.1, hq.2.2.2, rfl⟩
theorem sv_range (h : Nat) : 0 ≤ svN h ∧ svN h ≤ 11 := by
  unfold svN
  split
  · rename_i e
    have := of_decide_eq_true e
    omega
  · omega
structure Ls where
  m : Mm
  lk : Bool
  s : Nat
  dn : Bool
def lst (st : Int) (s : Nat) : Nat := if st < 0 ∨ 7 < st then stN s else st.toNat
def lstep (c : Cf) (sl st : Int) (o : Ls) : Ls :=
  if o.dn = true then o
  else if o.lk = false then ⟨mtouch c o.m 1 4 sl 0 0, true, (mtouch c o.m 1 4 sl 0 0).l.old, false⟩
  else ⟨mtouch c o.m 3 4 sl o.s (moveN o.s (lst st o.s) false), false, o.s, (mtouch c o.m 3 4 sl o.s (moveN o.s (lst st o.s) false)).l.done⟩
def lnew (m : Mm) : Ls := ⟨m, false, 0, false⟩
structure Lok (c : Cf) (o : Ls) : Prop where
  wd : ∀ i, i < c.n → Word (o.m.ws i)
  s : Word o.s
theorem lst_lt (st : Int) (s : Nat) : lst st s < 8 := by
  unfold lst
  split
  · exact part_lt s 27 3
  · omega
theorem lnew_ok {c : Cf} {m : Mm} (h : ∀ i, i < c.n → Word (m.ws i)) : Lok c (lnew m) := ⟨h, zero_word⟩
theorem lstep_ok {c : Cf} {sl st : Int} {o : Ls} (ho : Lok c o) : Lok c (lstep c sl st o) := by
  unfold lstep
  split
  · exact ho
  split
  · exact ⟨word_touch ho.wd zero_word, old_word ho.wd⟩
  · exact ⟨word_touch ho.wd (move_word ho.s (lst_lt _ _)), ho.s⟩
theorem lstep_done {c : Cf} {sl st : Int} {o : Ls} (hd : o.dn = true) : lstep c sl st o = o := by
  unfold lstep
  rw [if_pos hd]
end Um
namespace Um
set_option maxRecDepth 100000
def setE (m : Mm) (o : Es) : Es := ⟨m, o.tk, o.s, o.w, o.e, o.en⟩
def setLs (m : Mm) (o : Ls) : Ls := ⟨m, o.lk, o.s, o.dn⟩
def EokW (c : Cf) (o : Es) : Prop := ∀ m : Mm, (∀ i, i < c.n → Word (m.ws i)) → Eok c (setE m o)
def LokW (c : Cf) (o : Ls) : Prop := ∀ m : Mm, (∀ i, i < c.n → Word (m.ws i)) → Lok c (setLs m o)
theorem Eok.okw {c : Cf} {o : Es} (h : Eok c o) : EokW c o := fun _ hm => ⟨hm, h.s, h.w, h.en⟩
theorem Lok.okw {c : Cf} {o : Ls} (h : Lok c o) : LokW c o := fun _ hm => ⟨hm, h.s⟩
def actW : Nat := 268435456
def busW : Nat := bzN actW
def won (a : Es) : Prop := a.en = true ∧ a.e = 0
structure Side10 (W : Nat) (a : Es) : Prop where
  fin : a.en = true → (a.e = 0 ∨ a.e = 3) ∧ W = busW
  tk : a.tk = true → a.s = actW ∧ a.en = false ∧ a.e = 0
structure Duo10 (W : Nat) (a b : Es) : Prop where
  wd : W = actW ∨ W = busW
  A : Side10 W a
  B : Side10 W b
  one : W = busW → (won a ∧ ¬ won b) ∨ (won b ∧ ¬ won a)
theorem Duo10.swap {W : Nat} {a b : Es} (h : Duo10 W a b) : Duo10 W b a := ⟨h.wd, h.B, h.A, fun q => (h.one q).symm⟩
theorem Duo10.at {W : Nat} {a b : Es} (h : Duo10 W a b) (m : Mm) : Duo10 W (setE m a) b := ⟨h.wd, ⟨h.A.fin, h.A.tk⟩, ⟨h.B.fin, h.B.tk⟩, h.one⟩
theorem move_with (x : Nat) (a b : Int) {st : Nat} (hs : st < 8) (bz : Bool) : moveN (withN x a b) st bz = withN (moveN x st bz) a b := by
  cases ho : okS a b with
  | false => rw [with_bad x a b ho, with_bad _ a b ho]
  | true =>
    have hlt := bitAt_lt ho
    rw [with_ok _ ho, with_ok _ ho]
    generalize bitAt a b = k at *
    apply Nat.eq_of_testBit_eq
    intro j
    rw [move_bits hs, testBit_setN, testBit_setN, move_bits hs]
    by_cases h : k = j
    · subst h
      rw [if_pos rfl, if_pos rfl, if_neg (show ¬ k = 26 by omega), if_neg (show ¬ (27 ≤ k ∧ k < 30) by omega)]
    · rw [if_neg h, if_neg h]
theorem move_bz (x : Nat) : moveN x (stN x) true = bzN x := by
  have hs : stN x < 8 := part_lt x 27 3
  unfold bzN
  apply Nat.eq_of_testBit_eq
  intro j
  rw [testBit_setN, move_bits hs]
  by_cases e : 26 = j
  · rw [if_pos e, if_pos e.symm]
  · have e' : ¬ j = 26 := fun q => e q.symm
    rw [if_neg e, if_neg e']
    by_cases e2 : 27 ≤ j ∧ j < 30
    · rw [if_pos e2]
      unfold stN
      rw [testBit_part, show j - 27 + 27 = j by omega, decide_eq_true (show j - 27 < 3 by omega)]
      simp
    · rw [if_neg e2]
theorem gn_with (x : Nat) (a b : Int) : gnN (withN x a b) = gnN x := by
  apply Nat.eq_of_testBit_eq
  intro j
  unfold gnN
  rw [testBit_part, testBit_part, with_bits _ _ _ _ (by omega)]
structure Sid10 (W V : Nat) (e : Es) (l : Ls) : Prop where
  v : stN V = 5 ∧ V.testBit 26 = false ∧ gnN V = 0
  a : e.en = false → W = moveN V 2 false ∧ l.dn = false ∧ l.lk = false
  tk : e.tk = true → e.en = false
  b : e.en = true → l.dn = false → W = moveN V 2 true
  d : l.dn = true → W = V
theorem Sid10.lay {W V : Nat} {e : Es} {l : Ls} (h : Sid10 W V e l) (x y : Int) : Sid10 (withN W x y) (withN V x y) e l := by
  obtain ⟨v1, v2, v3⟩ := h.v
  refine ⟨⟨by rw [st_with]; exact v1, by rw [with_bits _ _ _ _ (by decide)]; exact v2, by rw [gn_with]; exact v3⟩, fun q => ⟨?_, (h.a q).2⟩, h.tk, fun q r => ?_, fun q => by rw [h.d q]⟩
  · rw [(h.a q).1, move_with _ _ _ (by decide)]
  · rw [h.b q r, move_with _ _ _ (by decide)]
theorem Sid10.at {W V : Nat} {e : Es} {l : Ls} (h : Sid10 W V e l) (m m' : Mm) : Sid10 W V (setE m e) (setLs m' l) := ⟨h.v, h.a, h.tk, h.b, h.d⟩
end Um
namespace Go.Proofs.YtapgghciieloaaaGreat
section
set_option maxRecDepth 100000
open Go.RowKit Go.Sort
theorem zero_words (w : World) (m : Nat) (hp : 0 < m) (hn : m ≤ 1000) : IsWords (w.alloc (.cells (rowW (fun _ => 0) m).toArray 22)) (.slice (some ⟨w.heap.size, 0, none⟩) m m) m (fun _ => 0) :=
  (LowWords.of_row hp hn (heap_alloc_new w _) (fun _ _ => by unfold Um.Word; omega)).is (by simp)
set_option maxHeartbeats 2000000 in
theorem sNew_right (c : Um.Cf) (w : World) (h : c.r = true) :
    Calls Tryz.prog 32 #[(.agg #[.int .i64 (c.t), .int .i64 (c.s), .int .i64 (c.k), .int .i64 (c.g), .int .u64 (c.q : Int)])] w fun e w' => ∃ B C, e = .returned (.tuple #[.pointer (some ⟨B, 0, none⟩), .int .i64 0]) ∧ w.heap.size ≤ B ∧ w.heap.size ≤ C ∧ MemAt w' B C c ⟨fun _ => 0, 0, Um.noT⟩ ∧ Below w.heap.size w w' := by
  have hL := cLen_any c.t c.s c.k c.g c.q
  rw [Cf_len] at hL
  have hp := Um.Cf.n_pos h
  have hO := fun v w => sOf_right c v (fun _ => 0) w h
  have hk := run_makeW c.n (by have := c.n_le; omega)
  have hm := c.n_le
  have HO := hide hO
  clear h hO
  generalize c.n = m at *
  go_enter Tryz.func32, Tryz.ntmps32
  go_wp2_with fail
  have K := cfAt_alloc w c 24
  have hB : Below w.heap.size w (w.alloc (.cells #[.int .i64 c.t, .int .i64 c.s, .int .i64 c.k, .int .i64 c.g, .int .u64 c.q] 24)) := (Below.refl _ _).alloc (Nat.le_refl _) _
  generalize w.alloc _ = W at *
  obtain ⟨_, a0, a1, a2, a3, a4⟩ := id K
  go_region_with (first | (go_at_call 71; refine (hL _).mono ?_; rintro e w3 ⟨rfl, hb3⟩; obtain ⟨_, b0, b1, b2, b3, b4⟩ := K.below (below_undrew hb3)) | (go_at_call 41; refine ((unhide HO) _ _ (zero_words _ m (by omega) (by omega))).mono ?_; rintro e w4 ⟨B, C, rfl, hl1, hl2, hM, hb4⟩))
  all_goals
    have hB3 := hB.trans ((below_undrew hb3).mono hB.size)
    have hs3 := hB3.size
    have hB4 := (hB3.alloc hB3.size _).trans (hb4.mono (by simp; exact Nat.le_succ_of_le hB3.size))
    have HM := hide hM
    simp at hl1 hl2
    clear hb3 hb4 b0 b1 b2 b3 b4 a0 a1 a2 a3 a4 K hk HO hL hM
    go_wp2
    go_ret2
    exact ⟨B, C, rfl, by omega, by omega, unhide HM, hB4⟩
end
end Go.Proofs.YtapgghciieloaaaGreat
