/-
  Texts that the laws stand on, merged (WalkE, HelpW, StoreN, StoreE, StoreM, StoreF).
-/
import Derived.Test.YticaieghapjpkaaM1
import Derived.Test.YticaieghapjpkaaM3
import Derived.Test.YticaieghapjpkaaM4
import Derived.Test.YticaieghapjpkaaM5
import Derived.Laws.EntriesVeiled

/-
  The walks of moving a word, and of the document's answers for moving, packing and unpacking.
-/
namespace Go.Proofs.Yticaieghapjpkaa
set_option maxRecDepth 100000
open Go.RowKit
attribute [local go_sem] alloc_drewN setCell_drewN

theorem mask2 : bits .or .u64 67108864 939524096 = ((1006632960 : Nat) : Int) := by kernel_rfl

theorem move_law (x : Nat) (s : Int) (b : Bool) (hx : Um.Word x) :
    bits .or .u64 (bits .or .u64 (bits .andNot .u64 (x : Int) (bits .or .u64 67108864 939524096)) (IntKind.u64.wrap ((b.toNat : Int) * 67108864))) (IntKind.u64.wrap (bits .and .u64 (IntKind.u64.wrap s) 7 * 134217728))
      = (Um.moveN x (s % 8).toNat b : Int) := by
  have hm : Um.Word 1006632960 := Um.word_iff.2 (by decide)
  have hs : (s % 8).toNat < 8 := by omega
  have hb := Um.bool_le b
  have e1 : IntKind.u64.wrap ((b.toNat : Int) * 67108864) = ((b.toNat * 2 ^ 26 : Nat) : Int) := by rw [IntKind.wrap_u64]; omega
  have e2 : IntKind.u64.wrap s = ((s % 18446744073709551616).toNat : Int) := by rw [IntKind.wrap_u64]; omega
  have hk : Um.Word (s % 18446744073709551616).toNat := by unfold Um.Word; omega
  have e3 : bits .and .u64 (IntKind.u64.wrap s) 7 = ((s % 8).toNat : Int) := by
    rw [e2, show (7 : Int) = ((2 ^ 3 - 1 : Nat) : Int) by decide, u64_and_nat _ _ hk (by decide), Um.and_mask]
    omega
  have e4 : IntKind.u64.wrap (((s % 8).toNat : Int) * 134217728) = (((s % 8).toNat * 2 ^ 27 : Nat) : Int) := by rw [IntKind.wrap_u64]; omega
  have w1 : Um.Word (b.toNat * 2 ^ 26) := by unfold Um.Word; omega
  have w2 : Um.Word ((s % 8).toNat * 2 ^ 27) := by unfold Um.Word; omega
  have w3 : Um.Word (x &&& (18446744073709551615 - 1006632960)) := Um.Word.of fun j hj => by rw [Um.andNot_testBit x _ j hx hm, hx.bits j hj]; rfl
  rw [mask2, e3, e4, e1, u64_andNot_nat _ _ hx hm, u64_or_nat _ _ w3 w1, u64_or_nat _ _ (or_word w3 w1) w2, Um.move_eq _ _ _ hx hs]

set_option maxHeartbeats 400000 in
theorem move_any (x : Nat) (s : Int) (b : Bool) (w : World) (hx : Um.Word x) :
    Calls Try.prog 110 #[.int .u64 x, .int .i64 s, .bool b] w fun e w' => e = .returned (.int .u64 (Um.moveN x (s % 8).toNat b)) ∧ w' = w := by
  go_enter Try.func110, Try.ntmps110
  go_wp2_with (first
    | (go_at_call 109; refine (ones_any _ _ (by decide) (by decide)).mono ?_; rintro e w' ⟨rfl, rfl⟩)
    | (go_at_call 112; refine (flag_any _ _).mono ?_; rintro e w' ⟨rfl, rfl⟩))
  go_ret
  refine ⟨ret_u64 ?_, rfl⟩
  exact move_law _ _ _ hx

theorem tmod8 (s : Int) : (0 ≤ s.tmod 8 → s.tmod 8 = s % 8) ∧ (s.tmod 8 < 0 → s.tmod 8 + 8 = s % 8) := by
  rw [Int.tmod_eq_emod]
  split <;> (constructor <;> intro h <;> simp at h ⊢ <;> omega)

theorem state_law (x : Nat) (s L : Int) (hx : Um.Word x) (hL : L = s % 8) :
    IntKind.u64.wrap (IntKind.u64.wrap ((x : Int) - IntKind.u64.wrap (134217728 * IntKind.u64.wrap (Um.part x 27 3 : Int))) + IntKind.u64.wrap (134217728 * IntKind.u64.wrap L)) = (Um.stateN x (s % 8).toNat : Int) := by
  subst hL
  have h1 : Um.part x 27 3 < 8 := Um.part_lt x 27 3
  have h2 : 134217728 * Um.part x 27 3 ≤ x := by unfold Um.part; omega
  have h3 := Um.state_word hx (show (s % 8).toNat < 8 by omega)
  unfold Um.Word at hx h3
  simp only [IntKind.wrap_u64]
  unfold Um.stateN at h3 ⊢
  generalize Um.part x 27 3 = k at *
  omega

theorem put_int (X : Int) (x : Nat) (hX : X = x) (a : Int) (b : Bool) (w : World) (hx : Um.Word x) (h0 : 0 ≤ a) (h1 : a < 64) :
    Calls Try.prog 33 #[.int .u64 X, .int .i64 a, .bool b] w fun e w' => e = .returned (.int .u64 (Um.setN x a.toNat b)) ∧ w' = w := by
  subst hX
  exact put_any x a b w hx h0 h1

theorem wrap64_id (n : Int) (h0 : -9223372036854775808 ≤ n) (h1 : n ≤ 9223372036854775807) : wrap64 n = n := by
  unfold wrap64
  omega

set_option maxHeartbeats 400000 in
theorem refMove_any (x : Nat) (s : Int) (b : Bool) (w : World) (hx : Um.Word x) :
    Calls Try.prog 61 #[.int .u64 x, .int .i64 s, .bool b] w fun e w' => e = .returned (.int .u64 (Um.moveN x (s % 8).toNat b)) ∧ ∃ n, w' = w.drewN n := by
  have hw := Um.state_word hx (show (s % 8).toNat < 8 by omega)
  have ht := tmod8 s
  have HT := hide ht
  clear ht
  go_enter Try.func61, Try.ntmps61
  go_wp2_with (first
    | (go_at_call 66; refine (power_any _ _ (by omega) (by omega)).mono ?_; rintro e w' ⟨rfl, rfl⟩)
    | (go_at_call 88; refine (number_any _ _ _ _ hx (by omega) (by omega) (by omega) (by omega)).mono ?_; rintro e w' ⟨rfl, nq, rfl⟩))
  · have hl := (unhide HT).2 ‹s.tmod 8 < 0›
    have he : wrap64 (s.tmod 8 + 8) = s % 8 := by rw [hl]; exact wrap64_id _ (by omega) (by omega)
    have HE := hide he
    clear hl he
    refine (put_int _ _ (state_law x s _ hx (unhide HE)) _ _ _ hw (by omega) (by omega)).mono ?_
    rintro e w' ⟨rfl, rfl⟩
    go_wp2
    go_ret
    exact ⟨rfl, ⟨_, rfl⟩⟩
  · have hl := (unhide HT).1 ‹0 ≤ s.tmod 8›
    have HE := hide hl
    clear hl
    refine (put_int _ _ (state_law x s _ hx (unhide HE)) _ _ _ hw (by omega) (by omega)).mono ?_
    rintro e w' ⟨rfl, rfl⟩
    go_wp2
    go_ret
    exact ⟨rfl, ⟨_, rfl⟩⟩

set_option maxHeartbeats 1000000 in
theorem refPack_any (g st : Int) (b i o : Bool) (n t : Int) (w : World) :
    Calls Try.prog 41 #[.agg #[.int .i64 g, .int .i64 st, .bool b, .bool i, .bool o, .int .i64 n, .int .i64 t]] w fun e w' =>
      e = .returned (.tuple #[.int .u64 (Um.packV g st b i o n t : Int), .bool (Um.okSt g st n t)]) ∧ Below w.heap.size w w' := by
  cases hok : Um.okSt g st n t
  · rw [Um.packV_no hok]
    have hno : ¬ (0 ≤ t ∧ t ≤ 4095 ∧ 0 ≤ n ∧ n ≤ 4095 ∧ 0 ≤ st ∧ st ≤ 7 ∧ 0 ≤ g ∧ g ≤ 1073741824) := by
      intro h
      rw [Um.okSt_iff.2 h] at hok
      cases hok
    have HN := hide hno
    clear hno hok
    go_enter Try.func41, Try.ntmps41
    go_wp2
    all_goals first
      | (go_ret2; exact ⟨rfl, (Below.refl _ _).alloc (Nat.le_refl _) _⟩)
      | (exfalso; have h := unhide HN; omega)
  · rw [Um.packV_yes hok]
    obtain ⟨t0, t1, n0, n1, s0, s1, g0, g1⟩ := Um.okSt_iff.1 hok
    go_enter Try.func41, Try.ntmps41
    go_wp2
    go_quiet ((go_at_call 66; exact Calls.quiet_of_same (power_any _ _ (by omega) (by omega))))
    go_wp2_with fail
    have hbw := Um.base_word hok
    refine (put_int _ (Um.baseN g st n t) ?_ _ _ _ hbw (by omega) (by omega)).mono ?_
    · unfold Um.baseN
      omega
    rintro e w' ⟨rfl, rfl⟩
    go_wp2_with fail
    refine (put_int _ _ rfl _ _ _ (hbw.setN (by decide)) (by omega) (by omega)).mono ?_
    rintro e w' ⟨rfl, rfl⟩
    go_wp2_with fail
    refine (put_int _ _ rfl _ _ _ ((hbw.setN (by decide)).setN (by decide)) (by omega) (by omega)).mono ?_
    rintro e w' ⟨rfl, rfl⟩
    go_wp2
    go_ret2
    refine ⟨?_, ?_⟩
    · rw [← Um.base_put hok]
      rfl
    · repeat (first | exact (Below.refl _ _).alloc (Nat.le_refl _) _ | apply below_drewN)

end Go.Proofs.Yticaieghapjpkaa

/-
  Words of layers 1 and 3, as layer 8 asks for them: over blocks of two lists.
-/
namespace Go.Proofs.Yticaieghapjpkaa
set_option maxRecDepth 100000
open Go.RowKit Go.Sort

theorem Sx.drewN {bs : List Nat} {w0 w : World} {l e : List (Nat × List Value)} (h : Sx bs w0 w l e) (n : Nat) : Sx bs w0 (w.drewN n) l e := h.call (below_drewN (Below.refl _ _) n)

set_option maxHeartbeats 1000000 in
theorem rState_x {bs : List Nat} {w0 w : World} {l e : List (Nat × List Value)} (hS : Sx bs w0 w l e) (x : Nat) (hx : Um.Word x) :
    Calls Try.prog 60 #[.int .u64 (x : Nat)] w fun r w' => r = .returned (.int .i64 (Um.stN x : Int)) ∧ Sx bs w0 w' l e := by
  have HC := hide (number_any x 27 3 w hx (by decide) (by decide) (by decide) (by decide))
  have HS := hide hS
  clear hS hx
  go_enter Try.func60, Try.ntmps60
  go_wp2_with fail
  refine (unhide HC).mono ?_
  rintro r u ⟨rfl, n, rfl⟩
  go_wp2
  go_ret
  exact ⟨rfl, (unhide HS).drewN n⟩

set_option maxHeartbeats 1000000 in
theorem rBusy_x {bs : List Nat} {w0 w : World} {l e : List (Nat × List Value)} (hS : Sx bs w0 w l e) (x : Nat) (hx : Um.Word x) :
    Calls Try.prog 85 #[.int .u64 (x : Nat)] w fun r w' => r = .returned (.bool (x.testBit 26)) ∧ Sx bs w0 w' l e := by
  have HC := hide (bit_any x 26 w hx (by decide) (by decide))
  have HS := hide hS
  clear hS hx
  go_enter Try.func85, Try.ntmps85
  go_wp2_with fail
  refine (unhide HC).mono ?_
  rintro r u ⟨rfl, rfl⟩
  go_wp2
  go_ret
  exact ⟨rfl, unhide HS⟩

theorem rMove_x {bs : List Nat} {w0 w : World} {l e : List (Nat × List Value)} (hS : Sx bs w0 w l e) (x : Nat) (b : Bool) (hx : Um.Word x) :
    Calls Try.prog 61 #[.int .u64 (x : Nat), .int .i64 4, .bool b] w fun r w' => r = .returned (.int .u64 (Um.moveN x 4 b : Int)) ∧ Sx bs w0 w' l e :=
  (refMove_any x 4 b w hx).mono fun _ _ ⟨h1, n, h2⟩ => ⟨h1, h2 ▸ hS.drewN n⟩

end Go.Proofs.Yticaieghapjpkaa

/-
  The walks of layer 6's maker of a new memory.
-/
namespace Go.Proofs.Yticaieghapjpkaa
set_option maxRecDepth 100000
open Go.RowKit Go.Sort

set_option maxHeartbeats 2000000 in
theorem sNew_wrong (c : Um.Cf) (w : World) (h : c.r = false) :
    Calls Try.prog 34 #[(.agg #[.int .i64 (c.t), .int .i64 (c.s), .int .i64 (c.k), .int .i64 (c.g), .int .u64 (c.q : Int)])] w fun e w' => e = .returned (.tuple #[.pointer none, .int .i64 1]) ∧ Below w.heap.size w w' := by
  have hL := cLen_any c.t c.s c.k c.g c.q
  rw [Cf_len] at hL
  have hO := fun v w => sOf_wrong c v w h
  have hk := run_makeW c.n (by have := c.n_le; omega)
  clear h
  generalize c.n = m at *
  go_enter Try.func34, Try.ntmps34
  go_wp2_with fail
  have K := cfAt_alloc w c 24
  have hB : Below w.heap.size w (w.alloc (.cells #[.int .i64 c.t, .int .i64 c.s, .int .i64 c.k, .int .i64 c.g, .int .u64 c.q] 24)) := (Below.refl _ _).alloc (Nat.le_refl _) _
  generalize w.alloc _ = W at *
  obtain ⟨_, a0, a1, a2, a3, a4⟩ := id K
  go_region_with (first | (go_at_call 67; refine (hL _).mono ?_; rintro e w3 ⟨rfl, hb3⟩; obtain ⟨_, b0, b1, b2, b3, b4⟩ := K.below (below_undrew hb3)) | (go_at_call 45; refine (hO _ _).mono ?_; rintro e w4 ⟨rfl, hb4⟩))
  all_goals
    have hB3 := hB.trans ((below_undrew hb3).mono hB.size)
    have hB4 := (hB3.alloc hB3.size _).trans (hb4.mono (by simp; exact Nat.le_succ_of_le hB3.size))
    clear hb3 hb4 b0 b1 b2 b3 b4 a0 a1 a2 a3 a4 K hk hO hL
    go_wp2
    go_ret2
    exact ⟨rfl, hB4⟩

theorem zero_words (w : World) (m : Nat) (hp : 0 < m) (hn : m ≤ 1000) : IsWords (w.alloc (.cells (rowW (fun _ => 0) m).toArray 22)) (.slice (some ⟨w.heap.size, 0, none⟩) m m) m (fun _ => 0) :=
  (LowWords.of_row hp hn (heap_alloc_new w _) (fun _ _ => by unfold Um.Word; omega)).is (by simp)

set_option maxHeartbeats 2000000 in
theorem sNew_right (c : Um.Cf) (w : World) (h : c.r = true) :
    Calls Try.prog 34 #[(.agg #[.int .i64 (c.t), .int .i64 (c.s), .int .i64 (c.k), .int .i64 (c.g), .int .u64 (c.q : Int)])] w fun e w' => ∃ B C, e = .returned (.tuple #[.pointer (some ⟨B, 0, none⟩), .int .i64 0]) ∧ w.heap.size ≤ B ∧ w.heap.size ≤ C ∧ MemAt w' B C c ⟨fun _ => 0, 0, Um.noT⟩ ∧ Below w.heap.size w w' := by
  have hL := cLen_any c.t c.s c.k c.g c.q
  rw [Cf_len] at hL
  have hp := Um.Cf.n_pos h
  have hO := fun v w => sOf_right c v (fun _ => 0) w h
  have hk := run_makeW c.n (by have := c.n_le; omega)
  have hm := c.n_le
  have HO := hide hO
  clear h hO
  generalize c.n = m at *
  go_enter Try.func34, Try.ntmps34
  go_wp2_with fail
  have K := cfAt_alloc w c 24
  have hB : Below w.heap.size w (w.alloc (.cells #[.int .i64 c.t, .int .i64 c.s, .int .i64 c.k, .int .i64 c.g, .int .u64 c.q] 24)) := (Below.refl _ _).alloc (Nat.le_refl _) _
  generalize w.alloc _ = W at *
  obtain ⟨_, a0, a1, a2, a3, a4⟩ := id K
  go_region_with (first | (go_at_call 67; refine (hL _).mono ?_; rintro e w3 ⟨rfl, hb3⟩; obtain ⟨_, b0, b1, b2, b3, b4⟩ := K.below (below_undrew hb3)) | (go_at_call 45; refine ((unhide HO) _ _ (zero_words _ m (by omega) (by omega))).mono ?_; rintro e w4 ⟨B, C, rfl, hl1, hl2, hM, hb4⟩))
  all_goals
    have hB3 := hB.trans ((below_undrew hb3).mono hB.size)
    have hs3 := hB3.size
    have hB4 := (hB3.alloc hB3.size _).trans (hb4.mono (by simp; exact Nat.le_succ_of_le hB3.size))
    have HM := hide hM
    simp at hl1 hl2
    clear hb3 hb4 b0 b1 b2 b3 b4 a0 a1 a2 a3 a4 K hk HO hL hM
    go_wp2
    go_ret2
    exact ⟨B, C, rfl, by omega, by omega, unhide HM, hB4⟩

end Go.Proofs.Yticaieghapjpkaa

/-
  The walk of an access of a memory.
-/
namespace Go.Proofs.Yticaieghapjpkaa
set_option maxRecDepth 100000
open Go.RowKit Go.Sort

theorem nextI_wrap (z : Int) : IntKind.i64.wrap (z + 1) = Um.nextI z := by
  rw [IntKind.wrap_i64]
  rfl

theorem egL (args : Array Value) (w : World) : (callFunc 71 args).run Try.prog w = .ok (.enter 71 args) w := by go_simp

theorem egS (args : Array Value) (w : World) : (callFunc 69 args).run Try.prog w = .ok (.enter 69 args) w := by go_simp

theorem egW (args : Array Value) (w : World) : (callFunc 113 args).run Try.prog w = .ok (.enter 113 args) w := by go_simp

set_option maxHeartbeats 2000000 in
theorem mAccess_hit {W : World} {B C : Nat} {c : Um.Cf} {m : Um.Mm} (h : MemAt W B C c m) (kind a b : Int) (o v : Nat) (F : FuncId) (eg : ∀ args w, (callFunc F args).run Try.prog w = .ok (.enter F args) w)
    (hF : ∀ x w, Calls Try.prog F #[.agg #[.int .u64 o, .int .u64 v], .int .u64 (x : Nat)] w fun e w' => e = .returned (.tuple #[.int .u64 (Um.trn kind o v x : Nat), .bool (Um.trd kind o x)]) ∧ Below w.heap.size w w')
    (hb0 : -9223372036854775808 ≤ b) (hb1 : b ≤ 9223372036854775807) (hv : Um.Word v) (p : Nat) (hp : c.cl a b = p) :
    Calls Try.prog 68 #[.pointer (some ⟨B, 0, none⟩), .int .i64 kind, (.agg #[.int .i64 a, .int .i64 b]), .func (.func F) #[.agg #[.int .u64 o, .int .u64 v]] #[]] W fun e W' =>
      e = .returned (.agg #[.int .i64 kind, .int .i64 a, .int .i64 b, .int .u64 (m.ws p : Nat), .int .u64 ((Um.trn kind o v (m.ws p) : Nat)), .bool (Um.trd kind o (m.ws p))]) ∧ MemAt W' B C c (Um.mhit m p kind a b o v) ∧ Off B C W W' := by
  have hcl := fun w => cCell_any c.t c.s c.k c.g c.q a b w hb0 hb1
  rw [show Um.cellN (Um.rt c.t c.s c.k c.g c.q) c.t c.s c.k a b = p from hp] at hcl
  have hpn : p < c.n := by have := Um.Cf.cl_lt (c := c) (a := a) (b := b) (by omega); rw [hp] at this; simpa using this
  have hW := hide (h.wd p hpn)
  have hBn : B ≠ W.heap.size ∧ B ≠ W.heap.size + 1 ∧ B ≠ W.heap.size + 1 + 1 := by have := h.hB; omega
  have hCn : C ≠ W.heap.size ∧ C ≠ W.heap.size + 1 ∧ C ≠ W.heap.size + 1 + 1 := by have := h.hC; omega
  clear hp hb0 hb1
  have hne := h.ne
  go_enter Try.func68, Try.ntmps68
  go_wp2_with fail
  generalize hw1 : ((W.alloc (.cells #[.int .i64 a, .int .i64 b] 68)).alloc (.cells #[.int .i64 0, .int .i64 0, .int .i64 0, .int .u64 0, .int .u64 0, .bool false] 110)).alloc (.cells #[.int .i64 kind, .int .i64 a, .int .i64 b, .int .u64 0, .int .u64 0, .bool false] 110) = w1
  obtain ⟨hS1, hR1, hT1⟩ : SpAt w1 W.heap.size a b ∧ TchAt w1 (W.heap.size + 1) ⟨0, 0, 0, 0, 0, false⟩ ∧ TchAt w1 (W.heap.size + 1 + 1) ⟨kind, a, b, 0, 0, false⟩ := by
    subst hw1
    obtain ⟨h1, h2, h3⟩ := alloc3_at W (.cells #[.int .i64 a, .int .i64 b] 68) (.cells #[.int .i64 0, .int .i64 0, .int .i64 0, .int .u64 0, .int .u64 0, .bool false] 110) (.cells #[.int .i64 kind, .int .i64 a, .int .i64 b, .int .u64 0, .int .u64 0, .bool false] 110)
    exact ⟨spAt_new h1, tchAt_new _ h2, tchAt_new _ h3⟩
  have hO1 : Off B C W w1 := by
    subst hw1
    exact (((Off.refl B C W).alloc _).alloc _).alloc _
  have hM1 : MemAt w1 B C c m := by
    subst hw1
    exact h.below ((((Below.refl W.heap.size W).alloc (Nat.le_refl _) _).alloc (by simp) _).alloc (by simp; omega) _) h.hB h.hC
  clear hw1 h
  obtain ⟨_, a0, a1⟩ := id hS1
  obtain ⟨_, _, _, _, f0, f1, f2, f3, f4, _⟩ := id hM1
  have k0 : ∀ d os, (grow (redrawn w1 d) os).cell? ⟨B, 0, none⟩ = some (.int .i64 c.t) := fun d os => cell_regrown f0 d os
  have k1 : ∀ d os, (grow (redrawn w1 d) os).cell? ⟨B, 1, none⟩ = some (.int .i64 c.s) := fun d os => cell_regrown f1 d os
  have k2 : ∀ d os, (grow (redrawn w1 d) os).cell? ⟨B, 2, none⟩ = some (.int .i64 c.k) := fun d os => cell_regrown f2 d os
  have k3 : ∀ d os, (grow (redrawn w1 d) os).cell? ⟨B, 3, none⟩ = some (.int .i64 c.g) := fun d os => cell_regrown f3 d os
  have k4 : ∀ d os, (grow (redrawn w1 d) os).cell? ⟨B, 4, none⟩ = some (.int .u64 c.q) := fun d os => cell_regrown f4 d os
  have k5 : ∀ d os, (grow (redrawn w1 d) os).cell? ⟨W.heap.size, 0, none⟩ = some (.int .i64 a) := fun d os => cell_regrown a0 d os
  have k6 : ∀ d os, (grow (redrawn w1 d) os).cell? ⟨W.heap.size, 1, none⟩ = some (.int .i64 b) := fun d os => cell_regrown a1 d os
  refine wp_region_quiet_below (by kernel_rfl) (by kernel_rfl) ?_
  repeat (go_big_quiet_step (first
    | (go_at_call 89; exact Calls.regrown_of (hcl _))))
  refine wpQuiet_nil ?_
  intro w2 hw2
  have hb2 : Below w1.heap.size w1 w2 := by
    obtain ⟨⟨dq, osq⟩, hw3⟩ := hw2
    subst hw3
    exact below_regrown w1 dq osq
  have hR2 := hR1.below hb2
  have hT2 := hT1.below hb2
  have hM2 := hM1.below hb2 hM1.hB hM1.hC
  have hO2 := hO1.then hb2
  clear hb2 hw2 hR1 hT1 hM1 hO1 hS1 a0 a1 f0 f1 f2 f3 f4 k0 k1 k2 k3 k4 k5 k6 hcl
  have hTl : W.heap.size ≤ W.heap.size + 1 + 1 := by omega
  have hRl : W.heap.size ≤ W.heap.size + 1 := by omega
  have hTR : W.heap.size + 1 + 1 ≠ W.heap.size + 1 := by omega
  obtain ⟨_, hBR, hBT⟩ := hBn
  obtain ⟨_, hCR, hCT⟩ := hCn
  generalize W.heap.size + 1 + 1 = T at *
  generalize W.heap.size + 1 = R at *
  obtain ⟨_, _, _, _, _, _, _, _, _, e5, _⟩ := id hM2
  have e6 := hM2.ws p hpn
  obtain ⟨_, _, _, _, t3, _, _, tz⟩ := id hT2
  have tz3 := tz 3
  have hpi : (p : Int) < (c.n : Int) := by omega
  have hx0 : Um.Word (m.ws p) := unhide hW
  have HX := hide hx0
  clear hx0 hW tz
  go_wp2_with fail
  refine (hF _ _).mono ?_
  rintro e w4 ⟨rfl, hb4⟩
  have hT3 : TchAt (w2.setCell ⟨T, 3, none⟩ (.int .u64 (m.ws p : Nat))) T ⟨kind, a, b, m.ws p, 0, false⟩ := hT2.set3 (m.ws p)
  have hR3 := hR2.set (p := ⟨T, 3, none⟩) (u := .int .u64 (m.ws p : Nat)) hTR
  have hM3 := hM2.set (p := ⟨T, 3, none⟩) (u := .int .u64 (m.ws p : Nat)) (Ne.symm hBT) (Ne.symm hCT)
  have hO3 := hO2.set (p := ⟨T, 3, none⟩) (.inr (.inr hTl)) (.int .u64 (m.ws p : Nat))
  generalize w2.setCell ⟨T, 3, none⟩ (.int .u64 (m.ws p : Nat)) = w3 at *
  have hT4 := hT3.below hb4
  have hR4 := hR3.below hb4
  have hM4 := hM3.below hb4 hM3.hB hM3.hC
  have hO4 := hO3.then hb4
  clear hb4 hT3 hR3 hM3 hO3 hT2 hR2 hM2 hO2 hF eg e5 e6 t3 tz3
  obtain ⟨_, _, _, _, _, t4, t5, tz⟩ := id hT4
  have tz4 := tz 4
  have tz5 := tz 5
  clear tz
  go_wp2_with fail
  have hT5 : TchAt ((w4.setCell ⟨T, 4, none⟩ (.int .u64 (Um.trn kind o v (m.ws p) : Nat))).setCell ⟨T, 5, none⟩ (.bool (Um.trd kind o (m.ws p)))) T ⟨kind, a, b, m.ws p, Um.trn kind o v (m.ws p), Um.trd kind o (m.ws p)⟩ := (hT4.set4 (Um.trn kind o v (m.ws p))).set5 _
  have hR5 := (hR4.set (p := ⟨T, 4, none⟩) (u := .int .u64 (Um.trn kind o v (m.ws p) : Nat)) hTR).set (p := ⟨T, 5, none⟩) (u := .bool (Um.trd kind o (m.ws p))) hTR
  have hM5 := (hM4.set (p := ⟨T, 4, none⟩) (u := .int .u64 (Um.trn kind o v (m.ws p) : Nat)) (Ne.symm hBT) (Ne.symm hCT)).set (p := ⟨T, 5, none⟩) (u := .bool (Um.trd kind o (m.ws p))) (Ne.symm hBT) (Ne.symm hCT)
  have hO5 := (hO4.set (p := ⟨T, 4, none⟩) (.inr (.inr hTl)) (.int .u64 (Um.trn kind o v (m.ws p) : Nat))).set (p := ⟨T, 5, none⟩) (.inr (.inr hTl)) (.bool (Um.trd kind o (m.ws p)))
  generalize World.setCell (w4.setCell ⟨T, 4, none⟩ (.int .u64 (Um.trn kind o v (m.ws p) : Nat))) ⟨T, 5, none⟩ (.bool (Um.trd kind o (m.ws p))) = w5 at *
  clear hT4 hR4 hM4 hO4 t4 t5 tz4 tz5
  have hy := hide (Um.word_trn (kind := kind) (old := o) hv (unhide HX))
  generalize hye : Um.trn kind o v (m.ws p) = y at *
  generalize hde : Um.trd kind o (m.ws p) = dn at *
  have HYE := hide hye
  have HDE := hide hde
  clear hye hde
  have HT := hide hT5
  have HR := hide hR5
  have HM := hide hM5
  have HO := hide hO5
  have e6 := hM5.ws p hpn
  obtain ⟨_, t0, t1, t2, t3, t4, t5, tz⟩ := hT5
  obtain ⟨_, r0, r1, r2, r3, r4, r5, rz⟩ := hR5
  obtain ⟨_, _, _, _, _, _, _, _, _, m5, m6, m7, m8, m9, m10, m11, m12, mz, mc, _, _⟩ := hM5
  have rz0 := rz 0
  have rz1 := rz 1
  have rz2 := rz 2
  have rz3 := rz 3
  have rz4 := rz 4
  have rz5 := rz 5
  have mz6 := mz 6
  have mz7 := mz 7
  have mz8 := mz 8
  have mz9 := mz 9
  have mz10 := mz 10
  have mz11 := mz 11
  have mz12 := mz 12
  have mcp := mc p
  clear tz rz mz mc hO5
  go_region
  go_wp2
  have hM := unhide HM
  have hR := unhide HR
  have hO := unhide HO
  have hY := unhide hy
  have hm := (((((((((((((hM.setWord hpn hY).setCnt (wrap64 (m.cnt + 1))).setL0 kind).setL1 a).setL2 b).setL3 (m.ws p)).setL4 y).setL5 dn).set (p := ⟨R, 0, none⟩) (u := .int .i64 kind) (Ne.symm hBR) (Ne.symm hCR)).set (p := ⟨R, 1, none⟩) (u := .int .i64 a) (Ne.symm hBR) (Ne.symm hCR)).set (p := ⟨R, 2, none⟩) (u := .int .i64 b) (Ne.symm hBR) (Ne.symm hCR)).set (p := ⟨R, 3, none⟩) (u := .int .u64 (m.ws p : Nat)) (Ne.symm hBR) (Ne.symm hCR)).set (p := ⟨R, 4, none⟩) (u := .int .u64 (y : Nat)) (Ne.symm hBR) (Ne.symm hCR)).set (p := ⟨R, 5, none⟩) (u := .bool dn) (Ne.symm hBR) (Ne.symm hCR)
  have hr := (((((((((((((hR.set (p := ⟨C, p, none⟩) (u := .int .u64 (y : Nat)) hCR).set (p := ⟨B, 6, none⟩) (u := .int .i64 (wrap64 (m.cnt + 1))) hBR).set (p := ⟨B, 7, none⟩) (u := .int .i64 kind) hBR).set (p := ⟨B, 8, none⟩) (u := .int .i64 a) hBR).set (p := ⟨B, 9, none⟩) (u := .int .i64 b) hBR).set (p := ⟨B, 10, none⟩) (u := .int .u64 (m.ws p : Nat)) hBR).set (p := ⟨B, 11, none⟩) (u := .int .u64 (y : Nat)) hBR).set (p := ⟨B, 12, none⟩) (u := .bool dn) hBR).set0 kind).set1 a).set2 b).set3 (m.ws p)).set4 y).set5 dn
  have ho := (((((((((((((hO.set (p := ⟨C, p, none⟩) (.inr (.inl rfl)) (.int .u64 (y : Nat))).set (p := ⟨B, 6, none⟩) (.inl rfl) (.int .i64 (wrap64 (m.cnt + 1)))).set (p := ⟨B, 7, none⟩) (.inl rfl) (.int .i64 kind)).set (p := ⟨B, 8, none⟩) (.inl rfl) (.int .i64 a)).set (p := ⟨B, 9, none⟩) (.inl rfl) (.int .i64 b)).set (p := ⟨B, 10, none⟩) (.inl rfl) (.int .u64 (m.ws p : Nat))).set (p := ⟨B, 11, none⟩) (.inl rfl) (.int .u64 (y : Nat))).set (p := ⟨B, 12, none⟩) (.inl rfl) (.bool dn)).set (p := ⟨R, 0, none⟩) (.inr (.inr hRl)) (.int .i64 kind)).set (p := ⟨R, 1, none⟩) (.inr (.inr hRl)) (.int .i64 a)).set (p := ⟨R, 2, none⟩) (.inr (.inr hRl)) (.int .i64 b)).set (p := ⟨R, 3, none⟩) (.inr (.inr hRl)) (.int .u64 (m.ws p : Nat))).set (p := ⟨R, 4, none⟩) (.inr (.inr hRl)) (.int .u64 (y : Nat))).set (p := ⟨R, 5, none⟩) (.inr (.inr hRl)) (.bool dn)
  have hm' := hm.drew
  have hr' := hr.drew
  have ho' := ho.drew
  generalize hWf : World.drew _ = Wf at hm' hr' ho' ⊢
  obtain ⟨_, q0, q1, q2, q3, q4, q5, _⟩ := hr'
  refine bodyPost_ret (v := (.agg #[.int .i64 kind, .int .i64 a, .int .i64 b, .int .u64 (m.ws p : Nat), .int .u64 (y : Nat), .bool dn])) (by simp [results, Try.results68, go_sem, q0, q1, q2, q3, q4, q5]) rfl ⟨by rw [unhide HYE, unhide HDE], ?_, ho'⟩
  unfold Um.mhit
  rw [unhide HYE, unhide HDE]
  dsimp only at hm'
  rw [next_eq] at hm'
  exact hm'

end Go.Proofs.Yticaieghapjpkaa

/-
  The walk of an access of a spot that stands nowhere.
-/
namespace Go.Proofs.Yticaieghapjpkaa
set_option maxRecDepth 100000
open Go.RowKit Go.Sort

set_option maxHeartbeats 2000000 in
theorem mAccess_miss {W : World} {B C : Nat} {c : Um.Cf} {m : Um.Mm} (h : MemAt W B C c m) (kind a b : Int) (fv : Value)
    (hb0 : -9223372036854775808 ≤ b) (hb1 : b ≤ 9223372036854775807) (hp : c.cl a b = -1) :
    Calls Try.prog 68 #[.pointer (some ⟨B, 0, none⟩), .int .i64 kind, (.agg #[.int .i64 a, .int .i64 b]), fv] W fun e W' =>
      e = .returned (.agg #[.int .i64 kind, .int .i64 a, .int .i64 b, .int .u64 0, .int .u64 0, .bool false]) ∧ MemAt W' B C c (Um.mmiss m kind a b) ∧ Off B C W W' := by
  have hcl := fun w => cCell_any c.t c.s c.k c.g c.q a b w hb0 hb1
  rw [show Um.cellN (Um.rt c.t c.s c.k c.g c.q) c.t c.s c.k a b = -1 from hp] at hcl
  have hBn : B ≠ W.heap.size ∧ B ≠ W.heap.size + 1 ∧ B ≠ W.heap.size + 1 + 1 := by have := h.hB; omega
  have hCn : C ≠ W.heap.size ∧ C ≠ W.heap.size + 1 ∧ C ≠ W.heap.size + 1 + 1 := by have := h.hC; omega
  clear hp hb0 hb1
  have hne := h.ne
  go_enter Try.func68, Try.ntmps68
  go_wp2_with fail
  generalize hw1 : ((W.alloc (.cells #[.int .i64 a, .int .i64 b] 68)).alloc (.cells #[.int .i64 0, .int .i64 0, .int .i64 0, .int .u64 0, .int .u64 0, .bool false] 110)).alloc (.cells #[.int .i64 kind, .int .i64 a, .int .i64 b, .int .u64 0, .int .u64 0, .bool false] 110) = w1
  obtain ⟨hS1, hR1, hT1⟩ : SpAt w1 W.heap.size a b ∧ TchAt w1 (W.heap.size + 1) ⟨0, 0, 0, 0, 0, false⟩ ∧ TchAt w1 (W.heap.size + 1 + 1) ⟨kind, a, b, 0, 0, false⟩ := by
    subst hw1
    obtain ⟨h1, h2, h3⟩ := alloc3_at W (.cells #[.int .i64 a, .int .i64 b] 68) (.cells #[.int .i64 0, .int .i64 0, .int .i64 0, .int .u64 0, .int .u64 0, .bool false] 110) (.cells #[.int .i64 kind, .int .i64 a, .int .i64 b, .int .u64 0, .int .u64 0, .bool false] 110)
    exact ⟨spAt_new h1, tchAt_new _ h2, tchAt_new _ h3⟩
  have hO1 : Off B C W w1 := by
    subst hw1
    exact (((Off.refl B C W).alloc _).alloc _).alloc _
  have hM1 : MemAt w1 B C c m := by
    subst hw1
    exact h.below ((((Below.refl W.heap.size W).alloc (Nat.le_refl _) _).alloc (by simp) _).alloc (by simp; omega) _) h.hB h.hC
  clear hw1 h
  obtain ⟨_, a0, a1⟩ := id hS1
  obtain ⟨_, _, _, _, f0, f1, f2, f3, f4, _⟩ := id hM1
  have k0 : ∀ d os, (grow (redrawn w1 d) os).cell? ⟨B, 0, none⟩ = some (.int .i64 c.t) := fun d os => cell_regrown f0 d os
  have k1 : ∀ d os, (grow (redrawn w1 d) os).cell? ⟨B, 1, none⟩ = some (.int .i64 c.s) := fun d os => cell_regrown f1 d os
  have k2 : ∀ d os, (grow (redrawn w1 d) os).cell? ⟨B, 2, none⟩ = some (.int .i64 c.k) := fun d os => cell_regrown f2 d os
  have k3 : ∀ d os, (grow (redrawn w1 d) os).cell? ⟨B, 3, none⟩ = some (.int .i64 c.g) := fun d os => cell_regrown f3 d os
  have k4 : ∀ d os, (grow (redrawn w1 d) os).cell? ⟨B, 4, none⟩ = some (.int .u64 c.q) := fun d os => cell_regrown f4 d os
  have k5 : ∀ d os, (grow (redrawn w1 d) os).cell? ⟨W.heap.size, 0, none⟩ = some (.int .i64 a) := fun d os => cell_regrown a0 d os
  have k6 : ∀ d os, (grow (redrawn w1 d) os).cell? ⟨W.heap.size, 1, none⟩ = some (.int .i64 b) := fun d os => cell_regrown a1 d os
  refine wp_region_quiet_below (by kernel_rfl) (by kernel_rfl) ?_
  repeat (go_big_quiet_step (first
    | (go_at_call 89; exact Calls.regrown_of (hcl _))))
  refine wpQuiet_nil ?_
  intro w2 hw2
  have hb2 : Below w1.heap.size w1 w2 := by
    obtain ⟨⟨dq, osq⟩, hw3⟩ := hw2
    subst hw3
    exact below_regrown w1 dq osq
  have hR2 := hR1.below hb2
  have hT2 := hT1.below hb2
  have hM2 := hM1.below hb2 hM1.hB hM1.hC
  have hO2 := hO1.then hb2
  clear hb2 hw2 hR1 hT1 hM1 hO1 hS1 a0 a1 f0 f1 f2 f3 f4 k0 k1 k2 k3 k4 k5 k6 hcl
  have hTl : W.heap.size ≤ W.heap.size + 1 + 1 := by omega
  have hRl : W.heap.size ≤ W.heap.size + 1 := by omega
  have hTR : W.heap.size + 1 + 1 ≠ W.heap.size + 1 := by omega
  obtain ⟨_, hBR, hBT⟩ := hBn
  obtain ⟨_, hCR, hCT⟩ := hCn
  generalize W.heap.size + 1 + 1 = T at *
  generalize W.heap.size + 1 = R at *
  have HT := hide hT2
  have HR := hide hR2
  have HM := hide hM2
  have HO := hide hO2
  obtain ⟨_, t0, t1, t2, t3, t4, t5, tz⟩ := hT2
  obtain ⟨_, r0, r1, r2, r3, r4, r5, rz⟩ := hR2
  obtain ⟨_, _, _, _, _, _, _, _, _, m5, m6, m7, m8, m9, m10, m11, m12, mz, mc, _, _⟩ := hM2
  have rz0 := rz 0
  have rz1 := rz 1
  have rz2 := rz 2
  have rz3 := rz 3
  have rz4 := rz 4
  have rz5 := rz 5
  have mz6 := mz 6
  have mz7 := mz 7
  have mz8 := mz 8
  have mz9 := mz 9
  have mz10 := mz 10
  have mz11 := mz 11
  have mz12 := mz 12
  clear tz rz mz mc hO2
  go_wp2
  have hM := unhide HM
  have hR := unhide HR
  have hO := unhide HO
  have hm := ((((((((((((hM.setCnt (wrap64 (m.cnt + 1))).setL0 kind).setL1 a).setL2 b).setL3 0).setL4 0).setL5 false).set (p := ⟨R, 0, none⟩) (u := .int .i64 kind) (Ne.symm hBR) (Ne.symm hCR)).set (p := ⟨R, 1, none⟩) (u := .int .i64 a) (Ne.symm hBR) (Ne.symm hCR)).set (p := ⟨R, 2, none⟩) (u := .int .i64 b) (Ne.symm hBR) (Ne.symm hCR)).set (p := ⟨R, 3, none⟩) (u := .int .u64 0) (Ne.symm hBR) (Ne.symm hCR)).set (p := ⟨R, 4, none⟩) (u := .int .u64 0) (Ne.symm hBR) (Ne.symm hCR)).set (p := ⟨R, 5, none⟩) (u := .bool false) (Ne.symm hBR) (Ne.symm hCR)
  have hr := ((((((((((((hR.set (p := ⟨B, 6, none⟩) (u := .int .i64 (wrap64 (m.cnt + 1))) hBR).set (p := ⟨B, 7, none⟩) (u := .int .i64 kind) hBR).set (p := ⟨B, 8, none⟩) (u := .int .i64 a) hBR).set (p := ⟨B, 9, none⟩) (u := .int .i64 b) hBR).set (p := ⟨B, 10, none⟩) (u := .int .u64 0) hBR).set (p := ⟨B, 11, none⟩) (u := .int .u64 0) hBR).set (p := ⟨B, 12, none⟩) (u := .bool false) hBR).set0 kind).set1 a).set2 b).set3 0).set4 0).set5 false
  have ho := ((((((((((((hO.set (p := ⟨B, 6, none⟩) (.inl rfl) (.int .i64 (wrap64 (m.cnt + 1)))).set (p := ⟨B, 7, none⟩) (.inl rfl) (.int .i64 kind)).set (p := ⟨B, 8, none⟩) (.inl rfl) (.int .i64 a)).set (p := ⟨B, 9, none⟩) (.inl rfl) (.int .i64 b)).set (p := ⟨B, 10, none⟩) (.inl rfl) (.int .u64 0)).set (p := ⟨B, 11, none⟩) (.inl rfl) (.int .u64 0)).set (p := ⟨B, 12, none⟩) (.inl rfl) (.bool false)).set (p := ⟨R, 0, none⟩) (.inr (.inr hRl)) (.int .i64 kind)).set (p := ⟨R, 1, none⟩) (.inr (.inr hRl)) (.int .i64 a)).set (p := ⟨R, 2, none⟩) (.inr (.inr hRl)) (.int .i64 b)).set (p := ⟨R, 3, none⟩) (.inr (.inr hRl)) (.int .u64 0)).set (p := ⟨R, 4, none⟩) (.inr (.inr hRl)) (.int .u64 0)).set (p := ⟨R, 5, none⟩) (.inr (.inr hRl)) (.bool false)
  dsimp only at hm
  rw [next_eq] at hm
  simp only [next_eq] at hr ho
  clear HM HR HO hM hR hO HT
  have ez : ((0 : Nat) : Int) = 0 := rfl
  rw [ez] at hm hr
  rw [next_eq]
  generalize World.setCell _ _ _ = Wf at hm hr ho ⊢
  obtain ⟨_, q0, q1, q2, q3, q4, q5, _⟩ := hr
  exact bodyPost_ret (v := (.agg #[.int .i64 kind, .int .i64 a, .int .i64 b, .int .u64 0, .int .u64 0, .bool false])) (by simp [results, Try.results68, go_sem, q0, q1, q2, q3, q4, q5]) rfl ⟨rfl, hm, ho⟩

theorem field_old (k a b o n : Int) (d : Bool) (w : World) : (Instr.field 110 (.agg #[.int .i64 k, .int .i64 a, .int .i64 b, .int .u64 o, .int .u64 n, .bool d]) 2).run Try.prog w = .ok (.int .u64 o) w := by
  simp [Instr.field, go_sem, asAgg]

theorem field_done (k a b o n : Int) (d : Bool) (w : World) : (Instr.field 110 (.agg #[.int .i64 k, .int .i64 a, .int .i64 b, .int .u64 o, .int .u64 n, .bool d]) 4).run Try.prog w = .ok (.bool d) w := by
  simp [Instr.field, go_sem, asAgg]

/-- an access of any spot -/
theorem mAccess_any {W : World} {B C : Nat} {c : Um.Cf} {m : Um.Mm} (h : MemAt W B C c m) (kind a b : Int) (o v : Nat) (F : FuncId) (eg : ∀ args w, (callFunc F args).run Try.prog w = .ok (.enter F args) w)
    (hF : ∀ x w, Calls Try.prog F #[.agg #[.int .u64 o, .int .u64 v], .int .u64 (x : Nat)] w fun e w' => e = .returned (.tuple #[.int .u64 (Um.trn kind o v x : Nat), .bool (Um.trd kind o x)]) ∧ Below w.heap.size w w')
    (hb0 : -9223372036854775808 ≤ b) (hb1 : b ≤ 9223372036854775807) (hv : Um.Word v) (M : Um.Mm) (hM : M = Um.mtouch c m kind a b o v) :
    Calls Try.prog 68 #[.pointer (some ⟨B, 0, none⟩), .int .i64 kind, (.agg #[.int .i64 a, .int .i64 b]), .func (.func F) #[.agg #[.int .u64 o, .int .u64 v]] #[]] W fun e W' =>
      e = .returned (.agg #[.int .i64 (M.l.kind), .int .i64 (M.l.a), .int .i64 (M.l.b), .int .u64 (M.l.old : Nat), .int .u64 (M.l.new : Nat), .bool (M.l.done)]) ∧ MemAt W' B C c M ∧ Off B C W W' := by
  subst hM
  unfold Um.mtouch
  by_cases hp : 0 ≤ c.cl a b
  · rw [if_pos hp]
    exact mAccess_hit h kind a b o v F eg hF hb0 hb1 hv _ (Int.toNat_of_nonneg hp).symm
  · rw [if_neg hp]
    exact mAccess_miss h kind a b _ hb0 hb1 (by have := c.cl_ge a b; omega)

end Go.Proofs.Yticaieghapjpkaa

/-
  The walks of a memory's loads, stores, swaps and adds.
-/
namespace Go.Proofs.Yticaieghapjpkaa
set_option maxRecDepth 100000
open Go.RowKit Go.Sort

attribute [local go_sem] field_old field_done

set_option maxHeartbeats 1000000 in
theorem mLoad_any {W : World} {B C : Nat} {c : Um.Cf} {m : Um.Mm} (h : MemAt W B C c m) (a b : Int) (hb0 : -9223372036854775808 ≤ b) (hb1 : b ≤ 9223372036854775807) (M : Um.Mm) (hM : M = Um.mtouch c m 1 a b 0 0) :
    Calls Try.prog 39 #[.pointer (some ⟨B, 0, none⟩), (.agg #[.int .i64 a, .int .i64 b])] W fun e W' => e = .returned (.int .u64 (M.l.old : Nat)) ∧ MemAt W' B C c M ∧ Off B C W W' := by
  have hS : Off B C W (W.alloc (.cells #[.int .i64 a, .int .i64 b] 68)) := (Off.refl B C W).alloc _
  have hM1 : MemAt (W.alloc (.cells #[.int .i64 a, .int .i64 b] 68)) B C c m := h.below ((Below.refl _ _).alloc (Nat.le_refl _) _) h.hB h.hC
  have hA := mAccess_any hM1 1 a b 0 0 71 egL (wLoad_any 0 0) hb0 hb1 (by unfold Um.Word; omega) M hM
  clear hM h hM1 hb0 hb1
  go_enter Try.func39, Try.ntmps39
  go_wp2_with fail
  refine hA.mono ?_
  rintro e w1 ⟨rfl, hM1, hO1⟩
  have HM := hide hM1
  have HO := hide (hS.trans hO1)
  clear hM1 hO1 hA hS
  go_wp2
  go_ret
  exact ⟨rfl, unhide HM, unhide HO⟩

set_option maxHeartbeats 1000000 in
theorem mStore_any {W : World} {B C : Nat} {c : Um.Cf} {m : Um.Mm} (h : MemAt W B C c m) (a b : Int) (v : Nat) (hv : Um.Word v) (hb0 : -9223372036854775808 ≤ b) (hb1 : b ≤ 9223372036854775807) (M : Um.Mm) (hM : M = Um.mtouch c m 2 a b 0 v) :
    Calls Try.prog 36 #[.pointer (some ⟨B, 0, none⟩), (.agg #[.int .i64 a, .int .i64 b]), .int .u64 (v : Nat)] W fun e W' => e = .returned (.tuple #[]) ∧ MemAt W' B C c M ∧ Off B C W W' := by
  have hS : Off B C W (W.alloc (.cells #[.int .i64 a, .int .i64 b] 68)) := (Off.refl B C W).alloc _
  have hM1 : MemAt (W.alloc (.cells #[.int .i64 a, .int .i64 b] 68)) B C c m := h.below ((Below.refl _ _).alloc (Nat.le_refl _) _) h.hB h.hC
  have hA := mAccess_any hM1 2 a b 0 v 69 egS (wStore_any 0 v) hb0 hb1 hv M hM
  clear hM h hM1 hb0 hb1
  go_enter Try.func36, Try.ntmps36
  go_wp2_with fail
  refine hA.mono ?_
  rintro e w1 ⟨rfl, hM1, hO1⟩
  have HM := hide hM1
  have HO := hide (hS.trans hO1)
  clear hM1 hO1 hA hS
  go_wp2
  go_end0
  exact ⟨rfl, unhide HM, unhide HO⟩

set_option maxHeartbeats 1000000 in
theorem mSwap_any {W : World} {B C : Nat} {c : Um.Cf} {m : Um.Mm} (h : MemAt W B C c m) (a b : Int) (o v : Nat) (hv : Um.Word v) (hb0 : -9223372036854775808 ≤ b) (hb1 : b ≤ 9223372036854775807) (M : Um.Mm) (hM : M = Um.mtouch c m 3 a b o v) :
    Calls Try.prog 111 #[.pointer (some ⟨B, 0, none⟩), (.agg #[.int .i64 a, .int .i64 b]), .int .u64 (o : Nat), .int .u64 (v : Nat)] W fun e W' => e = .returned (.bool M.l.done) ∧ MemAt W' B C c M ∧ Off B C W W' := by
  have hS : Off B C W (W.alloc (.cells #[.int .i64 a, .int .i64 b] 68)) := (Off.refl B C W).alloc _
  have hM1 : MemAt (W.alloc (.cells #[.int .i64 a, .int .i64 b] 68)) B C c m := h.below ((Below.refl _ _).alloc (Nat.le_refl _) _) h.hB h.hC
  have hA := mAccess_any hM1 3 a b o v 113 egW (wSwap_any o v) hb0 hb1 hv M hM
  clear hM h hM1 hb0 hb1
  go_enter Try.func111, Try.ntmps111
  go_wp2_with fail
  refine hA.mono ?_
  rintro e w1 ⟨rfl, hM1, hO1⟩
  have HM := hide hM1
  have HO := hide (hS.trans hO1)
  clear hM1 hO1 hA hS
  go_wp2
  go_ret
  exact ⟨rfl, unhide HM, unhide HO⟩

end Go.Proofs.Yticaieghapjpkaa
