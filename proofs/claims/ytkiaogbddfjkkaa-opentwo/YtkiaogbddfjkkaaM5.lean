/-
  Texts that the laws stand on, merged (WalkE, HelpW, HelpN, BlkE, Og, Og2, StoreE, StoreM, StoreF).
-/
import Derived.Test.YtkiaogbddfjkkaaM1
import Derived.Test.YtkiaogbddfjkkaaM3
import Derived.Test.YtkiaogbddfjkkaaM4
import Derived.Laws.EntriesVeiled
import Derived.Orders
import Derived.WalkKit

/-
  The walks of moving a word, and of the document's answers for moving, packing and unpacking.
-/
namespace Go.Proofs.Ytkiaogbddfjkkaa
set_option maxRecDepth 100000
open Go.RowKit
attribute [local go_sem] alloc_drewN setCell_drewN

theorem mask2 : bits .or .u64 67108864 939524096 = ((1006632960 : Nat) : Int) := by kernel_rfl

theorem move_law (x : Nat) (s : Int) (b : Bool) (hx : Um.Word x) :
    bits .or .u64 (bits .or .u64 (bits .andNot .u64 (x : Int) (bits .or .u64 67108864 939524096)) (IntKind.u64.wrap ((b.toNat : Int) * 67108864))) (IntKind.u64.wrap (bits .and .u64 (IntKind.u64.wrap s) 7 * 134217728))
      = (Um.moveN x (s % 8).toNat b : Int) := by
  have hm : Um.Word 1006632960 := Um.word_iff.2 (by decide)
  have hs : (s % 8).toNat < 8 := by omega
  have hb := Um.bool_le b
  have e1 : IntKind.u64.wrap ((b.toNat : Int) * 67108864) = ((b.toNat * 2 ^ 26 : Nat) : Int) := by rw [IntKind.wrap_u64]; omega
  have e2 : IntKind.u64.wrap s = ((s % 18446744073709551616).toNat : Int) := by rw [IntKind.wrap_u64]; omega
  have hk : Um.Word (s % 18446744073709551616).toNat := by unfold Um.Word; omega
  have e3 : bits .and .u64 (IntKind.u64.wrap s) 7 = ((s % 8).toNat : Int) := by
    rw [e2, show (7 : Int) = ((2 ^ 3 - 1 : Nat) : Int) by decide, u64_and_nat _ _ hk (by decide), Um.and_mask]
    omega
  have e4 : IntKind.u64.wrap (((s % 8).toNat : Int) * 134217728) = (((s % 8).toNat * 2 ^ 27 : Nat) : Int) := by rw [IntKind.wrap_u64]; omega
  have w1 : Um.Word (b.toNat * 2 ^ 26) := by unfold Um.Word; omega
  have w2 : Um.Word ((s % 8).toNat * 2 ^ 27) := by unfold Um.Word; omega
  have w3 : Um.Word (x &&& (18446744073709551615 - 1006632960)) := Um.Word.of fun j hj => by rw [Um.andNot_testBit x _ j hx hm, hx.bits j hj]; rfl
  rw [mask2, e3, e4, e1, u64_andNot_nat _ _ hx hm, u64_or_nat _ _ w3 w1, u64_or_nat _ _ (or_word w3 w1) w2, Um.move_eq _ _ _ hx hs]

set_option maxHeartbeats 400000 in
theorem move_any (x : Nat) (s : Int) (b : Bool) (w : World) (hx : Um.Word x) :
    Calls Try.prog 77 #[.int .u64 x, .int .i64 s, .bool b] w fun e w' => e = .returned (.int .u64 (Um.moveN x (s % 8).toNat b)) ∧ w' = w := by
  go_enter Try.func77, Try.ntmps77
  go_wp2_with (first
    | (go_at_call 75; refine (ones_any _ _ (by decide) (by decide)).mono ?_; rintro e w' ⟨rfl, rfl⟩)
    | (go_at_call 83; refine (flag_any _ _).mono ?_; rintro e w' ⟨rfl, rfl⟩))
  go_ret
  refine ⟨ret_u64 ?_, rfl⟩
  exact move_law _ _ _ hx

theorem tmod8 (s : Int) : (0 ≤ s.tmod 8 → s.tmod 8 = s % 8) ∧ (s.tmod 8 < 0 → s.tmod 8 + 8 = s % 8) := by
  rw [Int.tmod_eq_emod]
  split <;> (constructor <;> intro h <;> simp at h ⊢ <;> omega)

theorem state_law (x : Nat) (s L : Int) (hx : Um.Word x) (hL : L = s % 8) :
    IntKind.u64.wrap (IntKind.u64.wrap ((x : Int) - IntKind.u64.wrap (134217728 * IntKind.u64.wrap (Um.part x 27 3 : Int))) + IntKind.u64.wrap (134217728 * IntKind.u64.wrap L)) = (Um.stateN x (s % 8).toNat : Int) := by
  subst hL
  have h1 : Um.part x 27 3 < 8 := Um.part_lt x 27 3
  have h2 : 134217728 * Um.part x 27 3 ≤ x := by unfold Um.part; omega
  have h3 := Um.state_word hx (show (s % 8).toNat < 8 by omega)
  unfold Um.Word at hx h3
  simp only [IntKind.wrap_u64]
  unfold Um.stateN at h3 ⊢
  generalize Um.part x 27 3 = k at *
  omega

theorem put_int (X : Int) (x : Nat) (hX : X = x) (a : Int) (b : Bool) (w : World) (hx : Um.Word x) (h0 : 0 ≤ a) (h1 : a < 64) :
    Calls Try.prog 70 #[.int .u64 X, .int .i64 a, .bool b] w fun e w' => e = .returned (.int .u64 (Um.setN x a.toNat b)) ∧ w' = w := by
  subst hX
  exact put_any x a b w hx h0 h1

theorem wrap64_id (n : Int) (h0 : -9223372036854775808 ≤ n) (h1 : n ≤ 9223372036854775807) : wrap64 n = n := by
  unfold wrap64
  omega

set_option maxHeartbeats 400000 in
theorem refMove_any (x : Nat) (s : Int) (b : Bool) (w : World) (hx : Um.Word x) :
    Calls Try.prog 42 #[.int .u64 x, .int .i64 s, .bool b] w fun e w' => e = .returned (.int .u64 (Um.moveN x (s % 8).toNat b)) ∧ ∃ n, w' = w.drewN n := by
  have hw := Um.state_word hx (show (s % 8).toNat < 8 by omega)
  have ht := tmod8 s
  have HT := hide ht
  clear ht
  go_enter Try.func42, Try.ntmps42
  go_wp2_with (first
    | (go_at_call 69; refine (power_any _ _ (by omega) (by omega)).mono ?_; rintro e w' ⟨rfl, rfl⟩)
    | (go_at_call 50; refine (number_any _ _ _ _ hx (by omega) (by omega) (by omega) (by omega)).mono ?_; rintro e w' ⟨rfl, nq, rfl⟩))
  · have hl := (unhide HT).2 ‹s.tmod 8 < 0›
    have he : wrap64 (s.tmod 8 + 8) = s % 8 := by rw [hl]; exact wrap64_id _ (by omega) (by omega)
    have HE := hide he
    clear hl he
    refine (put_int _ _ (state_law x s _ hx (unhide HE)) _ _ _ hw (by omega) (by omega)).mono ?_
    rintro e w' ⟨rfl, rfl⟩
    go_wp2
    go_ret
    exact ⟨rfl, ⟨_, rfl⟩⟩
  · have hl := (unhide HT).1 ‹0 ≤ s.tmod 8›
    have HE := hide hl
    clear hl
    refine (put_int _ _ (state_law x s _ hx (unhide HE)) _ _ _ hw (by omega) (by omega)).mono ?_
    rintro e w' ⟨rfl, rfl⟩
    go_wp2
    go_ret
    exact ⟨rfl, ⟨_, rfl⟩⟩

set_option maxHeartbeats 1000000 in
theorem refPack_any (g st : Int) (b i o : Bool) (n t : Int) (w : World) :
    Calls Try.prog 56 #[.agg #[.int .i64 g, .int .i64 st, .bool b, .bool i, .bool o, .int .i64 n, .int .i64 t]] w fun e w' =>
      e = .returned (.tuple #[.int .u64 (Um.packV g st b i o n t : Int), .bool (Um.okSt g st n t)]) ∧ Below w.heap.size w w' := by
  cases hok : Um.okSt g st n t
  · rw [Um.packV_no hok]
    have hno : ¬ (0 ≤ t ∧ t ≤ 4095 ∧ 0 ≤ n ∧ n ≤ 4095 ∧ 0 ≤ st ∧ st ≤ 7 ∧ 0 ≤ g ∧ g ≤ 1073741824) := by
      intro h
      rw [Um.okSt_iff.2 h] at hok
      cases hok
    have HN := hide hno
    clear hno hok
    go_enter Try.func56, Try.ntmps56
    go_wp2
    all_goals first
      | (go_ret2; exact ⟨rfl, (Below.refl _ _).alloc (Nat.le_refl _) _⟩)
      | (exfalso; have h := unhide HN; omega)
  · rw [Um.packV_yes hok]
    obtain ⟨t0, t1, n0, n1, s0, s1, g0, g1⟩ := Um.okSt_iff.1 hok
    go_enter Try.func56, Try.ntmps56
    go_wp2
    go_quiet ((go_at_call 69; exact Calls.quiet_of_same (power_any _ _ (by omega) (by omega))))
    go_wp2_with fail
    have hbw := Um.base_word hok
    refine (put_int _ (Um.baseN g st n t) ?_ _ _ _ hbw (by omega) (by omega)).mono ?_
    · unfold Um.baseN
      omega
    rintro e w' ⟨rfl, rfl⟩
    go_wp2_with fail
    refine (put_int _ _ rfl _ _ _ (hbw.setN (by decide)) (by omega) (by omega)).mono ?_
    rintro e w' ⟨rfl, rfl⟩
    go_wp2_with fail
    refine (put_int _ _ rfl _ _ _ ((hbw.setN (by decide)).setN (by decide)) (by omega) (by omega)).mono ?_
    rintro e w' ⟨rfl, rfl⟩
    go_wp2
    go_ret2
    refine ⟨?_, ?_⟩
    · rw [← Um.base_put hok]
      rfl
    · repeat (first | exact (Below.refl _ _).alloc (Nat.le_refl _) _ | apply below_drewN)

end Go.Proofs.Ytkiaogbddfjkkaa

/-
  Words of layers 1 and 3, as layer 8 asks for them: over blocks of two lists.
-/
namespace Go.Proofs.Ytkiaogbddfjkkaa
set_option maxRecDepth 100000
open Go.RowKit Go.Sort

theorem Sx.drewN {bs : List Nat} {w0 w : World} {l e : List (Nat × List Value)} (h : Sx bs w0 w l e) (n : Nat) : Sx bs w0 (w.drewN n) l e := h.call (below_drewN (Below.refl _ _) n)

theorem trUnpack_x {bs : List Nat} {w0 w : World} {l e : List (Nat × List Value)} (hS : Sx bs w0 w l e) (x : Nat) (hx : Um.Word x) :
    Calls Try.prog 43 #[.int .u64 (x : Nat)] w fun r w' => r = .returned (.agg #[.int .u64 (Um.seqN x : Int), .int .i64 (Um.penN x)]) ∧ Sx bs w0 w' l e :=
  (trUnpack_any x w hx).mono fun _ _ ⟨h1, h2⟩ => ⟨h1, hS.call h2⟩

theorem trSettled_x {bs : List Nat} {w0 w : World} {l e : List (Nat × List Value)} (hS : Sx bs w0 w l e) (x : Nat) (hx : Um.Word x) :
    Calls Try.prog 72 #[.int .u64 (x : Nat)] w fun r w' => r = .returned (.int .u64 (Um.setlN x : Int)) ∧ Sx bs w0 w' l e :=
  (trSettled_any x w hx).mono fun _ _ ⟨h1, h2⟩ => ⟨h1, h2 ▸ hS⟩

set_option maxHeartbeats 1000000 in
theorem rState_x {bs : List Nat} {w0 w : World} {l e : List (Nat × List Value)} (hS : Sx bs w0 w l e) (x : Nat) (hx : Um.Word x) :
    Calls Try.prog 21 #[.int .u64 (x : Nat)] w fun r w' => r = .returned (.int .i64 (Um.stN x : Int)) ∧ Sx bs w0 w' l e := by
  have HC := hide (number_any x 27 3 w hx (by decide) (by decide) (by decide) (by decide))
  have HS := hide hS
  clear hS hx
  go_enter Try.func21, Try.ntmps21
  go_wp2_with fail
  refine (unhide HC).mono ?_
  rintro r u ⟨rfl, n, rfl⟩
  go_wp2
  go_ret
  exact ⟨rfl, (unhide HS).drewN n⟩

set_option maxHeartbeats 1000000 in
theorem rBusy_x {bs : List Nat} {w0 w : World} {l e : List (Nat × List Value)} (hS : Sx bs w0 w l e) (x : Nat) (hx : Um.Word x) :
    Calls Try.prog 71 #[.int .u64 (x : Nat)] w fun r w' => r = .returned (.bool (x.testBit 26)) ∧ Sx bs w0 w' l e := by
  have HC := hide (bit_any x 26 w hx (by decide) (by decide))
  have HS := hide hS
  clear hS hx
  go_enter Try.func71, Try.ntmps71
  go_wp2_with fail
  refine (unhide HC).mono ?_
  rintro r u ⟨rfl, rfl⟩
  go_wp2
  go_ret
  exact ⟨rfl, unhide HS⟩

theorem rMove_x {bs : List Nat} {w0 w : World} {l e : List (Nat × List Value)} (hS : Sx bs w0 w l e) (x : Nat) (b : Bool) (hx : Um.Word x) :
    Calls Try.prog 42 #[.int .u64 (x : Nat), .int .i64 4, .bool b] w fun r w' => r = .returned (.int .u64 (Um.moveN x 4 b : Int)) ∧ Sx bs w0 w' l e :=
  (refMove_any x 4 b w hx).mono fun _ _ ⟨h1, n, h2⟩ => ⟨h1, h2 ▸ hS.drewN n⟩

end Go.Proofs.Ytkiaogbddfjkkaa

/-
  The walks of the document's new help, and of a new status.
-/
namespace Go.Proofs.Ytkiaogbddfjkkaa
set_option maxRecDepth 100000
open Go.RowKit Go.Sort

set_option maxHeartbeats 1000000 in
theorem rNew01_any (st : Int) (w : World) : Calls Try.prog 29 #[.int .i64 st, .int .i64 0] w fun r w' => r = .returned (.int .u64 (Um.packV 0 st false false false 0 0 : Int)) ∧ Below w.heap.size w w' := by
  go_enter Try.func29, Try.ntmps29
  go_wp2_with fail
  refine (refPack_any 0 st false false false 0 0 _).mono ?_
  rintro r u ⟨rfl, hb⟩
  go_wp2
  go_ret
  exact ⟨rfl, hb⟩

theorem field_rtalP (s p : Value) (w : World) : (Instr.field 96 (.agg #[s, p]) 1).run Try.prog w = .ok p w := by simp [Instr.field, go_sem, asAgg]

set_option maxHeartbeats 1000000 in
theorem rNew8_any (x : Nat) (w : World) (hx : Um.Word x) : Calls Try.prog 44 #[.int .u64 (x : Nat)] w fun r w' => r = .returned (.agg #[.int .u64 (x : Nat), .int .i64 0, .int .u64 0, .bool (decide (Um.hfst x = 4))]) ∧ Below w.heap.size w w' := by
  have hS := Sx.new w
  have hf := field_rtalP
  have hE : decide (Um.hfst x = 4) = decide (Um.penN x < 0) := by
    unfold Um.hfst
    by_cases h : Um.penN x < 0 <;> simp [h]
  rw [hE]
  clear hE
  go_enter Try.func44, Try.ntmps44
  go_wp2_with (first | (refine wpx_box hS rfl _ _ rfl _ rfl _ (by intro _; simp only [Act.put, List.setIfInBounds_toArray, List.set_cons_zero, List.set_cons_succ]; first | done | exact rfl) ?_; clear hS; intro _ _ hS; dsimp only [blit, List.set, List.cons_append, List.nil_append, Value.cells, List.toList_toArray] at hS) | (refine wpx_alloc hS rfl _ rfl _ (zer_any2 rfl) _ (by intro _; simp only [Act.put, List.setIfInBounds_toArray, List.set_cons_zero, List.set_cons_succ]; first | done | exact rfl) ?_; clear hS; intro _ _ hS; dsimp only [blit, List.set, List.cons_append, List.nil_append, Value.cells, List.toList_toArray] at hS) | (refine wpx_ld hS rfl _ _ rfl _ _ rfl ?_; (first | refine ⟨0, _, rfl, ?_⟩ | refine ⟨1, _, rfl, ?_⟩ | refine ⟨2, _, rfl, ?_⟩ | refine ⟨3, _, rfl, ?_⟩ | refine ⟨4, _, rfl, ?_⟩ | refine ⟨5, _, rfl, ?_⟩ | refine ⟨6, _, rfl, ?_⟩ | refine ⟨7, _, rfl, ?_⟩ | refine ⟨8, _, rfl, ?_⟩ | refine ⟨9, _, rfl, ?_⟩); first | refine .inl ⟨_, one_any2 rfl, rfl, _, (by simp only [Act.put, List.setIfInBounds_toArray, List.set_cons_zero, List.set_cons_succ]; first | done | exact rfl), ?_⟩ | refine .inr ⟨_, _, row_any2 rfl, rfl, (by dsimp only [cutL, List.drop, List.take]; first | done | exact rfl), _, (by simp only [Act.put, List.setIfInBounds_toArray, List.set_cons_zero, List.set_cons_succ]; first | done | exact rfl), ?_⟩) | (refine wpx_st hS rfl _ _ _ rfl rfl _ _ rfl ?_; (first | refine ⟨0, _, rfl, ?_⟩ | refine ⟨1, _, rfl, ?_⟩ | refine ⟨2, _, rfl, ?_⟩ | refine ⟨3, _, rfl, ?_⟩ | refine ⟨4, _, rfl, ?_⟩ | refine ⟨5, _, rfl, ?_⟩ | refine ⟨6, _, rfl, ?_⟩ | refine ⟨7, _, rfl, ?_⟩ | refine ⟨8, _, rfl, ?_⟩ | refine ⟨9, _, rfl, ?_⟩); refine ⟨_, (by first | exact shA rfl | exact shI rfl | exact shB rfl | exact shS rfl | exact shP rfl | exact shF rfl | exact shN rfl), _, siz_any2 rfl, (by exact rfl), (by exact rfl), (by exact rfl), ?_⟩; clear hS; intro _ hS; dsimp only [blit, List.set, List.cons_append, List.nil_append, Value.cells, List.toList_toArray] at hS))
  refine (trUnpack_any x _ hx).mono ?_
  rintro r u ⟨rfl, hb⟩
  replace hS := hS.call hb
  clear hb
  go_wp2_with (first | (refine wpx_box hS rfl _ _ rfl _ rfl _ (by intro _; simp only [Act.put, List.setIfInBounds_toArray, List.set_cons_zero, List.set_cons_succ]; first | done | exact rfl) ?_; clear hS; intro _ _ hS; dsimp only [blit, List.set, List.cons_append, List.nil_append, Value.cells, List.toList_toArray] at hS) | (refine wpx_alloc hS rfl _ rfl _ (zer_any2 rfl) _ (by intro _; simp only [Act.put, List.setIfInBounds_toArray, List.set_cons_zero, List.set_cons_succ]; first | done | exact rfl) ?_; clear hS; intro _ _ hS; dsimp only [blit, List.set, List.cons_append, List.nil_append, Value.cells, List.toList_toArray] at hS) | (refine wpx_ld hS rfl _ _ rfl _ _ rfl ?_; (first | refine ⟨0, _, rfl, ?_⟩ | refine ⟨1, _, rfl, ?_⟩ | refine ⟨2, _, rfl, ?_⟩ | refine ⟨3, _, rfl, ?_⟩ | refine ⟨4, _, rfl, ?_⟩ | refine ⟨5, _, rfl, ?_⟩ | refine ⟨6, _, rfl, ?_⟩ | refine ⟨7, _, rfl, ?_⟩ | refine ⟨8, _, rfl, ?_⟩ | refine ⟨9, _, rfl, ?_⟩); first | refine .inl ⟨_, one_any2 rfl, rfl, _, (by simp only [Act.put, List.setIfInBounds_toArray, List.set_cons_zero, List.set_cons_succ]; first | done | exact rfl), ?_⟩ | refine .inr ⟨_, _, row_any2 rfl, rfl, (by dsimp only [cutL, List.drop, List.take]; first | done | exact rfl), _, (by simp only [Act.put, List.setIfInBounds_toArray, List.set_cons_zero, List.set_cons_succ]; first | done | exact rfl), ?_⟩) | (refine wpx_st hS rfl _ _ _ rfl rfl _ _ rfl ?_; (first | refine ⟨0, _, rfl, ?_⟩ | refine ⟨1, _, rfl, ?_⟩ | refine ⟨2, _, rfl, ?_⟩ | refine ⟨3, _, rfl, ?_⟩ | refine ⟨4, _, rfl, ?_⟩ | refine ⟨5, _, rfl, ?_⟩ | refine ⟨6, _, rfl, ?_⟩ | refine ⟨7, _, rfl, ?_⟩ | refine ⟨8, _, rfl, ?_⟩ | refine ⟨9, _, rfl, ?_⟩); refine ⟨_, (by first | exact shA rfl | exact shI rfl | exact shB rfl | exact shS rfl | exact shP rfl | exact shF rfl | exact shN rfl), _, siz_any2 rfl, (by exact rfl), (by exact rfl), (by exact rfl), ?_⟩; clear hS; intro _ hS; dsimp only [blit, List.set, List.cons_append, List.nil_append, Value.cells, List.toList_toArray] at hS))
  have hZ := hS.get 0 rfl
  exact bodyPost_ret (v := .agg #[.int .u64 (x : Nat), .int .i64 0, .int .u64 0, .bool (decide (Um.penN x < 0))]) (by simp [results, Try.results44, go_sem, hZ.cell 0 _ rfl, hZ.cell 1 _ rfl, hZ.cell 2 _ rfl, hZ.cell 3 _ rfl]) rfl ⟨rfl, hS.bel⟩

end Go.Proofs.Ytkiaogbddfjkkaa

/-
  Blocks that are handed to a method, and back: one, two or three of them.
-/
namespace Go.Proofs.Ytkiaogbddfjkkaa
set_option maxRecDepth 100000
open Go.RowKit Go.Sort

section
variable {bs : List Nat} {w0 w w' : World} {l e : List (Nat × List Value)} {b1 b2 b3 : Nat} {c1 c2 c3 d1 d2 d3 : List Value}

theorem Sx.enter3 (hS : Sx bs w0 w l e) (i j k : Nat) (hi : l[i]? = some (b1, c1)) (hj : l[j]? = some (b2, c2)) (hk : l[k]? = some (b3, c3)) (hij : i ≠ j) (hik : i ≠ k) (hjk : j ≠ k) : Sx [b1, b2, b3] w w [(b1, c1), (b2, c2), (b3, c3)] [] :=
  hS.enter [(b1, c1), (b2, c2), (b3, c3)] [] (fun p hp => by
      rcases (by simpa using hp : p = (b1, c1) ∨ p = (b2, c2) ∨ p = (b3, c3)) with rfl | rfl | rfl
      · exact List.mem_of_getElem? hi
      · exact List.mem_of_getElem? hj
      · exact List.mem_of_getElem? hk)
    (by
      have h1 := hS.ne i j hi hj hij
      have h2 := hS.ne i k hi hk hik
      have h3 := hS.ne j k hj hk hjk
      simp [h1, h2, h3]) (by simp)

theorem Sx.back3 {r e' : List (Nat × List Value)} (hS : Sx bs w0 w l e) (i j k : Nat) (hi : l[i]? = some (b1, c1)) (hj : l[j]? = some (b2, c2)) (hk : l[k]? = some (b3, c3)) (hL : Sx [b1, b2, b3] w w' ((b1, d1) :: (b2, d2) :: (b3, d3) :: r) e') : Sx bs w0 w' (putL l [(i, b1, d1), (j, b2, d2), (k, b3, d3)]) e := by
  refine hS.sets _ (fun u hu => ?_) hL.off (fun u hu => ?_)
  · rcases (by simpa using hu : u = (i, b1, d1) ∨ u = (j, b2, d2) ∨ u = (k, b3, d3)) with rfl | rfl | rfl
    · exact ⟨_, hi⟩
    · exact ⟨_, hj⟩
    · exact ⟨_, hk⟩
  · rcases (by simpa using hu : u = (i, b1, d1) ∨ u = (j, b2, d2) ∨ u = (k, b3, d3)) with rfl | rfl | rfl
    · exact hL.get 0 rfl
    · exact hL.get 1 rfl
    · exact hL.get 2 rfl

theorem Sx.enter1 (hS : Sx bs w0 w l e) (i : Nat) (hi : l[i]? = some (b1, c1)) : Sx [b1] w w [(b1, c1)] [] :=
  hS.enter [(b1, c1)] [] (fun p hp => by obtain rfl : p = _ := by simpa using hp
                                         exact List.mem_of_getElem? hi) (List.pairwise_singleton _ _) (by simp)

theorem Sx.back1 {r e' : List (Nat × List Value)} (hS : Sx bs w0 w l e) (i : Nat) (hi : l[i]? = some (b1, c1)) (hL : Sx [b1] w w' ((b1, d1) :: r) e') : Sx bs w0 w' (putL l [(i, b1, d1)]) e := by
  refine hS.sets _ (fun u hu => ?_) hL.off (fun u hu => ?_)
  · obtain rfl : u = _ := by simpa using hu
    exact ⟨_, hi⟩
  · obtain rfl : u = _ := by simpa using hu
    exact hL.get 0 rfl

theorem Sx.enter2 (hS : Sx bs w0 w l e) (i j : Nat) (hi : l[i]? = some (b1, c1)) (hj : l[j]? = some (b2, c2)) (hij : i ≠ j) : Sx [b1, b2] w w [(b1, c1), (b2, c2)] [] :=
  hS.enter [(b1, c1), (b2, c2)] [] (fun p hp => by
      rcases (by simpa using hp : p = (b1, c1) ∨ p = (b2, c2)) with rfl | rfl
      · exact List.mem_of_getElem? hi
      · exact List.mem_of_getElem? hj)
    (by
      have h1 := hS.ne i j hi hj hij
      simp [h1]) (by simp)

theorem Sx.back2 {r e' : List (Nat × List Value)} (hS : Sx bs w0 w l e) (i j : Nat) (hi : l[i]? = some (b1, c1)) (hj : l[j]? = some (b2, c2)) (hL : Sx [b1, b2] w w' ((b1, d1) :: (b2, d2) :: r) e') : Sx bs w0 w' (putL l [(i, b1, d1), (j, b2, d2)]) e := by
  refine hS.sets _ (fun u hu => ?_) hL.off (fun u hu => ?_)
  · rcases (by simpa using hu : u = (i, b1, d1) ∨ u = (j, b2, d2)) with rfl | rfl
    · exact ⟨_, hi⟩
    · exact ⟨_, hj⟩
  · rcases (by simpa using hu : u = (i, b1, d1) ∨ u = (j, b2, d2)) with rfl | rfl
    · exact hL.get 0 rfl
    · exact hL.get 1 rfl

end

end Go.Proofs.Ytkiaogbddfjkkaa

/-
  A region that draws its order: one obligation an operation, whatever has come up beside it. No program in sight.
-/
namespace Go.Proofs.Ytkiaogbddfjkkaa
set_option maxRecDepth 100000
open Go.RowKit

section
variable {P : Program} {ops : Array Oper} {Q : Exit → Act → World → Prop} {md : Region.Mode}

theorem count_set (l : List Bool) : ∀ (i : Nat), l[i]? = some false → (l.set i true).count true = l.count true + 1 := by
  induction l with
  | nil => intro i h; simp at h
  | cons x r ih =>
    intro i h
    cases i with
    | zero =>
      simp at h
      subst h
      simp
    | succ i =>
      simp at h
      have := ih i h
      simp only [List.set_cons_succ, List.count_cons, this]
      omega

theorem all_of_count (l : List Bool) (h : l.length ≤ l.count true) : ∀ i, i < l.length → l[i]? = some true := by
  induction l with
  | nil => intro i hi; simp at hi
  | cons x r ih =>
    have h1 := List.count_le_length (a := true) (l := r)
    intro i hi
    cases x with
    | false => simp at h; omega
    | true =>
      simp at h
      cases i with
      | zero => simp
      | succ i => simpa using ih (by omega) i (by simpa using hi)

theorem wpAny_og (I : (Nat → Bool) → Act → World → Prop)
    (hac : ∀ (i : Nat) (o : Oper), ops[i]? = some o → ∀ e ∈ o.after, Region.binds md e = true → e.on < i)
    (hst : ∀ (i : Nat) (o : Oper), ops[i]? = some o → ∀ D a w, D i = false → (∀ e ∈ o.after, Region.binds md e = true → D e.on = true) → I D a w → wpOp P ops Q i (fun a' w' => I (fun j => j == i || D j) a' w') a w)
    (hen : ∀ D a w, (∀ i, i < ops.size → D i = true) → I D a w → Q .normal a w) :
    ∀ (fuel : Nat) (listed : Array Bool) (a : Act) (w : World), listed.size = ops.size → ops.size ≤ fuel + listed.toList.count true → I (fun j => listed.getD j false) a w → wpAny P md ops Q fuel listed a w := by
  have hall : ∀ (listed : Array Bool), listed.size = ops.size → Region.ready md ops listed = [] → ∀ i, i < ops.size → listed.getD i false = true := by
    intro listed hs hr i
    induction i using Nat.strongRecOn with
    | ind i ih =>
      intro hi
      cases hb : listed.getD i false with
      | true => rfl
      | false =>
        have hil : i < listed.size := by omega
        have hin : i ∈ Region.ready md ops listed := by
          rw [mem_ready]
          refine ⟨by simpa [hil] using hb, ops[i], Array.getElem?_eq_getElem hi, fun e he hbd => ?_⟩
          have hlt := hac i ops[i] (Array.getElem?_eq_getElem hi) e he hbd
          exact ih e.on hlt (by omega)
        rw [hr] at hin
        cases hin
  have hat : ∀ (listed : Array Bool) (i : Nat), i ∈ Region.ready md ops listed → listed.getD i false = false ∧ listed.toList[i]? = some false ∧ ∃ o, ops[i]? = some o ∧ ∀ e ∈ o.after, Region.binds md e = true → listed.getD e.on false = true := by
    intro listed i hi
    obtain ⟨h0, o, ho, hp⟩ := mem_ready.1 hi
    have hil : i < listed.size := by
      rcases Nat.lt_or_ge i listed.size with h | h
      · exact h
      · simp [Array.getElem?_eq_none h] at h0
    have h1 : listed[i] = false := by simpa [hil] using h0
    exact ⟨by simp [hil, h1], by simp [hil, h1], o, ho, hp⟩
  intro fuel
  induction fuel with
  | zero =>
    intro listed a w hs hc hI
    have ht : ∀ i, i < ops.size → listed.getD i false = true := by
      intro i hi
      have hk := all_of_count listed.toList (by rw [Array.length_toList]; omega) i (by rw [Array.length_toList]; omega)
      have hil : i < listed.size := by omega
      simp [hil] at hk
      simp [hil, hk]
    refine ⟨?_, hen _ a w ht hI⟩
    apply List.eq_nil_iff_forall_not_mem.2
    intro i hi
    obtain ⟨h0, _, o, ho, _⟩ := hat listed i hi
    rw [ht i (Array.getElem?_eq_some_iff.1 ho).1] at h0
    cases h0
  | succ fuel ih =>
    intro listed a w hs hc hI
    refine ⟨fun hr => hen _ a w (hall listed hs hr) hI, fun i hi => ?_⟩
    obtain ⟨h0, h1, o, ho, hp⟩ := hat listed i hi
    refine wpOp_mono (fun a' w' hI' => ih (listed.setIfInBounds i true) a' w' (by simpa using hs) ?_ ?_) (hst i o ho _ a w h0 hp hI)
    · rw [Array.toList_setIfInBounds, count_set _ _ h1]
      omega
    · have e : (fun j => (listed.setIfInBounds i true).getD j false) = (fun j => j == i || listed.getD j false) := by
        funext j
        by_cases hj : j = i
        · subst hj
          have hil : j < listed.size := by
            rcases Nat.lt_or_ge j listed.size with h | h
            · exact h
            · simp [Array.getElem?_eq_none h] at h1
          simp [hil]
        · have : (j == i) = false := by simpa using hj
          rw [this, Bool.false_or]
          simp [Array.getD_eq_getD_getElem?, Ne.symm hj]
      rw [e]
      exact hI'

/-- edges that bind point to lower numbers, as a Bool -/
def acycB (md : Region.Mode) (ops : Array Oper) : Bool := (List.range ops.size).all fun i => (ops[i]?.map fun o => o.after.toList.all fun e => !Region.binds md e || decide (e.on < i)).getD true

theorem og_acyc (h : acycB md ops = true) {i : Nat} {o : Oper} (hi : ops[i]? = some o) {e : Edge} (he : e ∈ o.after) (hb : Region.binds md e = true) : e.on < i := by
  have h1 := List.all_eq_true.1 h i (List.mem_range.2 (Array.getElem?_eq_some_iff.1 hi).1)
  rw [hi] at h1
  simp only [Option.map_some, Option.getD_some] at h1
  have h2 := List.all_eq_true.1 h1 e (by simpa using he)
  simpa [hb] using h2

/-- one that comes ahead, as a Bool -/
def aheadB (md : Region.Mode) (o : Oper) (j : Nat) : Bool := o.after.toList.any fun e => Region.binds md e && e.on == j

theorem og_pre {o : Oper} {D : Nat → Bool} (hp : ∀ e ∈ o.after, Region.binds md e = true → D e.on = true) {j : Nat} (h : aheadB md o j = true) : D j = true := by
  obtain ⟨e, he, hb⟩ := List.any_eq_true.1 h
  simp only [Bool.and_eq_true, beq_iff_eq] at hb
  rw [← hb.2]
  exact hp e (by simpa using he) hb.1

/-- a region that draws: an assertion over what has come up, kept by each operation -/
theorem wp_region_og {id : Nat} {a : Act} {w : World} (I : (Nat → Bool) → Act → World → Prop) (hm : P.follows .mixedOrders = true)
    (hac : ∀ (i : Nat) (o : Oper), ops[i]? = some o → ∀ e ∈ o.after, Region.binds .any e = true → e.on < i)
    (h0 : I (fun _ => false) a w.drew)
    (hst : ∀ (i : Nat) (o : Oper), ops[i]? = some o → ∀ D a w, D i = false → (∀ e ∈ o.after, Region.binds .any e = true → D e.on = true) → I D a w → wpOp P ops Q i (fun a' w' => I (fun j => j == i || D j) a' w') a w)
    (hen : ∀ D a w, (∀ i, i < ops.size → D i = true) → I D a w → Q .normal a w) : (Code.region id ops true).wp P Q a w := by
  refine wp_region_any hm (wpAny_og I hac hst hen _ _ _ _ (by simp) (by simp) ?_)
  have e : (fun j => (Array.replicate ops.size false).getD j false) = (fun _ => false) := by
    funext j
    by_cases hj : j < ops.size <;> simp [Array.getD_eq_getD_getElem?, hj]
  rw [e]
  exact h0

end

end Go.Proofs.Ytkiaogbddfjkkaa

/-
  A region that draws its order: one obligation an operation; the frame as a list, its own slots written over. No program in sight.
-/
namespace Go.Proofs.Ytkiaogbddfjkkaa
set_option maxRecDepth 100000
open Go.RowKit

theorem wp_region_ogt {P : Program} {ops : Array Oper} {Q : Exit → Act → World → Prop} {id : Nat} {ts : List Value} {w : World} (J : List Value → (Nat → Bool) → List Value → World → Prop) (hm : P.follows .mixedOrders = true)
    (hac : acycB .any ops = true)
    (h0 : J ts (fun _ => false) ts w.drew)
    (hst : ∀ (i : Nat) (o : Oper), ops[i]? = some o → ∀ D ts' w, D i = false → (∀ e ∈ o.after, Region.binds .any e = true → D e.on = true) → J ts D ts' w → wpOp P ops Q i (fun a' w' => ∃ ts'', a' = ⟨List.toArray ts'', []⟩ ∧ J ts (fun j => j == i || D j) ts'' w') ⟨List.toArray ts', []⟩ w)
    (hen : ∀ D ts' w, (∀ i, i < ops.size → D i = true) → J ts D ts' w → Q .normal ⟨List.toArray ts', []⟩ w) : (Code.region id ops true).wp P Q ⟨List.toArray ts, []⟩ w := by
  refine wp_region_og (fun D a' w' => ∃ ts', a' = ⟨List.toArray ts', []⟩ ∧ J ts D ts' w') hm (fun i o hi e he hb => og_acyc hac hi he hb) ⟨ts, rfl, h0⟩ ?_ ?_
  · rintro i o hi D a w hD hp ⟨ts', rfl, hJ⟩
    exact hst i o hi D ts' w hD hp hJ
  · rintro D a w hall ⟨ts', rfl, hJ⟩
    exact hen D ts' w hall hJ

theorem list4_eq {a a' b b' c c' d d' : Value} (h1 : a = a') (h2 : b = b') (h3 : c = c') (h4 : d = d') : [a, b, c, d] = [a', b', c', d'] := by rw [h1, h2, h3, h4]
theorem list3_eq {a a' b b' c c' : Value} (h1 : a = a') (h2 : b = b') (h3 : c = c') : [a, b, c] = [a', b', c'] := by rw [h1, h2, h3]

/-- a block's letter, to be named -/
theorem nameB {bs : List Nat} {w0 w : World} {l e : List (Nat × List Value)} (_ : Sx bs w0 w l e) (k : Nat) {b : Nat} {cs : List Value} (_ : l[k]? = some (b, cs)) : ∃ b', b' = b := ⟨b, rfl⟩

theorem nameW {bs : List Nat} {w0 w : World} {l e : List (Nat × List Value)} (_ : Sx bs w0 w l e) : ∃ u, u = w := ⟨w, rfl⟩

/-- slots written over -/
def putS (ts : List Value) : List (Nat × Value) → List Value
  | [] => ts
  | u :: r => putS (ts.set u.1 u.2) r

end Go.Proofs.Ytkiaogbddfjkkaa

/-
  The walk of an access of a memory.
-/
namespace Go.Proofs.Ytkiaogbddfjkkaa
set_option maxRecDepth 100000
open Go.RowKit Go.Sort

theorem nextI_wrap (z : Int) : IntKind.i64.wrap (z + 1) = Um.nextI z := by
  rw [IntKind.wrap_i64]
  rfl

theorem egL (args : Array Value) (w : World) : (callFunc 52 args).run Try.prog w = .ok (.enter 52 args) w := by go_simp

theorem egS (args : Array Value) (w : World) : (callFunc 55 args).run Try.prog w = .ok (.enter 55 args) w := by go_simp

theorem egW (args : Array Value) (w : World) : (callFunc 82 args).run Try.prog w = .ok (.enter 82 args) w := by go_simp

set_option maxHeartbeats 2000000 in
theorem mAccess_hit {W : World} {B C : Nat} {c : Um.Cf} {m : Um.Mm} (h : MemAt W B C c m) (kind a b : Int) (o v : Nat) (F : FuncId) (eg : ∀ args w, (callFunc F args).run Try.prog w = .ok (.enter F args) w)
    (hF : ∀ x w, Calls Try.prog F #[.agg #[.int .u64 o, .int .u64 v], .int .u64 (x : Nat)] w fun e w' => e = .returned (.tuple #[.int .u64 (Um.trn kind o v x : Nat), .bool (Um.trd kind o x)]) ∧ Below w.heap.size w w')
    (hb0 : -9223372036854775808 ≤ b) (hb1 : b ≤ 9223372036854775807) (hv : Um.Word v) (p : Nat) (hp : c.cl a b = p) :
    Calls Try.prog 51 #[.pointer (some ⟨B, 0, none⟩), .int .i64 kind, (.agg #[.int .i64 a, .int .i64 b]), .func (.func F) #[.agg #[.int .u64 o, .int .u64 v]] #[]] W fun e W' =>
      e = .returned (.agg #[.int .i64 kind, .int .i64 a, .int .i64 b, .int .u64 (m.ws p : Nat), .int .u64 ((Um.trn kind o v (m.ws p) : Nat)), .bool (Um.trd kind o (m.ws p))]) ∧ MemAt W' B C c (Um.mhit m p kind a b o v) ∧ Off B C W W' := by
  have hcl := fun w => cCell_any c.t c.s c.k c.g c.q a b w hb0 hb1
  rw [show Um.cellN (Um.rt c.t c.s c.k c.g c.q) c.t c.s c.k a b = p from hp] at hcl
  have hpn : p < c.n := by have := Um.Cf.cl_lt (c := c) (a := a) (b := b) (by omega); rw [hp] at this; simpa using this
  have hW := hide (h.wd p hpn)
  have hBn : B ≠ W.heap.size ∧ B ≠ W.heap.size + 1 ∧ B ≠ W.heap.size + 1 + 1 := by have := h.hB; omega
  have hCn : C ≠ W.heap.size ∧ C ≠ W.heap.size + 1 ∧ C ≠ W.heap.size + 1 + 1 := by have := h.hC; omega
  clear hp hb0 hb1
  have hne := h.ne
  go_enter Try.func51, Try.ntmps51
  go_wp2_with fail
  generalize hw1 : ((W.alloc (.cells #[.int .i64 a, .int .i64 b] 56)).alloc (.cells #[.int .i64 0, .int .i64 0, .int .i64 0, .int .u64 0, .int .u64 0, .bool false] 102)).alloc (.cells #[.int .i64 kind, .int .i64 a, .int .i64 b, .int .u64 0, .int .u64 0, .bool false] 102) = w1
  obtain ⟨hS1, hR1, hT1⟩ : SpAt w1 W.heap.size a b ∧ TchAt w1 (W.heap.size + 1) ⟨0, 0, 0, 0, 0, false⟩ ∧ TchAt w1 (W.heap.size + 1 + 1) ⟨kind, a, b, 0, 0, false⟩ := by
    subst hw1
    obtain ⟨h1, h2, h3⟩ := alloc3_at W (.cells #[.int .i64 a, .int .i64 b] 56) (.cells #[.int .i64 0, .int .i64 0, .int .i64 0, .int .u64 0, .int .u64 0, .bool false] 102) (.cells #[.int .i64 kind, .int .i64 a, .int .i64 b, .int .u64 0, .int .u64 0, .bool false] 102)
    exact ⟨spAt_new h1, tchAt_new _ h2, tchAt_new _ h3⟩
  have hO1 : Off B C W w1 := by
    subst hw1
    exact (((Off.refl B C W).alloc _).alloc _).alloc _
  have hM1 : MemAt w1 B C c m := by
    subst hw1
    exact h.below ((((Below.refl W.heap.size W).alloc (Nat.le_refl _) _).alloc (by simp) _).alloc (by simp; omega) _) h.hB h.hC
  clear hw1 h
  obtain ⟨_, a0, a1⟩ := id hS1
  obtain ⟨_, _, _, _, f0, f1, f2, f3, f4, _⟩ := id hM1
  have k0 : ∀ d os, (grow (redrawn w1 d) os).cell? ⟨B, 0, none⟩ = some (.int .i64 c.t) := fun d os => cell_regrown f0 d os
  have k1 : ∀ d os, (grow (redrawn w1 d) os).cell? ⟨B, 1, none⟩ = some (.int .i64 c.s) := fun d os => cell_regrown f1 d os
  have k2 : ∀ d os, (grow (redrawn w1 d) os).cell? ⟨B, 2, none⟩ = some (.int .i64 c.k) := fun d os => cell_regrown f2 d os
  have k3 : ∀ d os, (grow (redrawn w1 d) os).cell? ⟨B, 3, none⟩ = some (.int .i64 c.g) := fun d os => cell_regrown f3 d os
  have k4 : ∀ d os, (grow (redrawn w1 d) os).cell? ⟨B, 4, none⟩ = some (.int .u64 c.q) := fun d os => cell_regrown f4 d os
  have k5 : ∀ d os, (grow (redrawn w1 d) os).cell? ⟨W.heap.size, 0, none⟩ = some (.int .i64 a) := fun d os => cell_regrown a0 d os
  have k6 : ∀ d os, (grow (redrawn w1 d) os).cell? ⟨W.heap.size, 1, none⟩ = some (.int .i64 b) := fun d os => cell_regrown a1 d os
  refine wp_region_quiet_below (by kernel_rfl) (by kernel_rfl) ?_
  repeat (go_big_quiet_step (first
    | (go_at_call 19; exact Calls.regrown_of (hcl _))))
  refine wpQuiet_nil ?_
  intro w2 hw2
  have hb2 : Below w1.heap.size w1 w2 := by
    obtain ⟨⟨dq, osq⟩, hw3⟩ := hw2
    subst hw3
    exact below_regrown w1 dq osq
  have hR2 := hR1.below hb2
  have hT2 := hT1.below hb2
  have hM2 := hM1.below hb2 hM1.hB hM1.hC
  have hO2 := hO1.then hb2
  clear hb2 hw2 hR1 hT1 hM1 hO1 hS1 a0 a1 f0 f1 f2 f3 f4 k0 k1 k2 k3 k4 k5 k6 hcl
  have hTl : W.heap.size ≤ W.heap.size + 1 + 1 := by omega
  have hRl : W.heap.size ≤ W.heap.size + 1 := by omega
  have hTR : W.heap.size + 1 + 1 ≠ W.heap.size + 1 := by omega
  obtain ⟨_, hBR, hBT⟩ := hBn
  obtain ⟨_, hCR, hCT⟩ := hCn
  generalize W.heap.size + 1 + 1 = T at *
  generalize W.heap.size + 1 = R at *
  obtain ⟨_, _, _, _, _, _, _, _, _, e5, _⟩ := id hM2
  have e6 := hM2.ws p hpn
  obtain ⟨_, _, _, _, t3, _, _, tz⟩ := id hT2
  have tz3 := tz 3
  have hpi : (p : Int) < (c.n : Int) := by omega
  have hx0 : Um.Word (m.ws p) := unhide hW
  have HX := hide hx0
  clear hx0 hW tz
  go_wp2_with fail
  refine (hF _ _).mono ?_
  rintro e w4 ⟨rfl, hb4⟩
  have hT3 : TchAt (w2.setCell ⟨T, 3, none⟩ (.int .u64 (m.ws p : Nat))) T ⟨kind, a, b, m.ws p, 0, false⟩ := hT2.set3 (m.ws p)
  have hR3 := hR2.set (p := ⟨T, 3, none⟩) (u := .int .u64 (m.ws p : Nat)) hTR
  have hM3 := hM2.set (p := ⟨T, 3, none⟩) (u := .int .u64 (m.ws p : Nat)) (Ne.symm hBT) (Ne.symm hCT)
  have hO3 := hO2.set (p := ⟨T, 3, none⟩) (.inr (.inr hTl)) (.int .u64 (m.ws p : Nat))
  generalize w2.setCell ⟨T, 3, none⟩ (.int .u64 (m.ws p : Nat)) = w3 at *
  have hT4 := hT3.below hb4
  have hR4 := hR3.below hb4
  have hM4 := hM3.below hb4 hM3.hB hM3.hC
  have hO4 := hO3.then hb4
  clear hb4 hT3 hR3 hM3 hO3 hT2 hR2 hM2 hO2 hF eg e5 e6 t3 tz3
  obtain ⟨_, _, _, _, _, t4, t5, tz⟩ := id hT4
  have tz4 := tz 4
  have tz5 := tz 5
  clear tz
  go_wp2_with fail
  have hT5 : TchAt ((w4.setCell ⟨T, 4, none⟩ (.int .u64 (Um.trn kind o v (m.ws p) : Nat))).setCell ⟨T, 5, none⟩ (.bool (Um.trd kind o (m.ws p)))) T ⟨kind, a, b, m.ws p, Um.trn kind o v (m.ws p), Um.trd kind o (m.ws p)⟩ := (hT4.set4 (Um.trn kind o v (m.ws p))).set5 _
  have hR5 := (hR4.set (p := ⟨T, 4, none⟩) (u := .int .u64 (Um.trn kind o v (m.ws p) : Nat)) hTR).set (p := ⟨T, 5, none⟩) (u := .bool (Um.trd kind o (m.ws p))) hTR
  have hM5 := (hM4.set (p := ⟨T, 4, none⟩) (u := .int .u64 (Um.trn kind o v (m.ws p) : Nat)) (Ne.symm hBT) (Ne.symm hCT)).set (p := ⟨T, 5, none⟩) (u := .bool (Um.trd kind o (m.ws p))) (Ne.symm hBT) (Ne.symm hCT)
  have hO5 := (hO4.set (p := ⟨T, 4, none⟩) (.inr (.inr hTl)) (.int .u64 (Um.trn kind o v (m.ws p) : Nat))).set (p := ⟨T, 5, none⟩) (.inr (.inr hTl)) (.bool (Um.trd kind o (m.ws p)))
  generalize World.setCell (w4.setCell ⟨T, 4, none⟩ (.int .u64 (Um.trn kind o v (m.ws p) : Nat))) ⟨T, 5, none⟩ (.bool (Um.trd kind o (m.ws p))) = w5 at *
  clear hT4 hR4 hM4 hO4 t4 t5 tz4 tz5
  have hy := hide (Um.word_trn (kind := kind) (old := o) hv (unhide HX))
  generalize hye : Um.trn kind o v (m.ws p) = y at *
  generalize hde : Um.trd kind o (m.ws p) = dn at *
  have HYE := hide hye
  have HDE := hide hde
  clear hye hde
  have HT := hide hT5
  have HR := hide hR5
  have HM := hide hM5
  have HO := hide hO5
  have e6 := hM5.ws p hpn
  obtain ⟨_, t0, t1, t2, t3, t4, t5, tz⟩ := hT5
  obtain ⟨_, r0, r1, r2, r3, r4, r5, rz⟩ := hR5
  obtain ⟨_, _, _, _, _, _, _, _, _, m5, m6, m7, m8, m9, m10, m11, m12, mz, mc, _, _⟩ := hM5
  have rz0 := rz 0
  have rz1 := rz 1
  have rz2 := rz 2
  have rz3 := rz 3
  have rz4 := rz 4
  have rz5 := rz 5
  have mz6 := mz 6
  have mz7 := mz 7
  have mz8 := mz 8
  have mz9 := mz 9
  have mz10 := mz 10
  have mz11 := mz 11
  have mz12 := mz 12
  have mcp := mc p
  clear tz rz mz mc hO5
  go_region
  go_wp2
  have hM := unhide HM
  have hR := unhide HR
  have hO := unhide HO
  have hY := unhide hy
  have hm := (((((((((((((hM.setWord hpn hY).setCnt (wrap64 (m.cnt + 1))).setL0 kind).setL1 a).setL2 b).setL3 (m.ws p)).setL4 y).setL5 dn).set (p := ⟨R, 0, none⟩) (u := .int .i64 kind) (Ne.symm hBR) (Ne.symm hCR)).set (p := ⟨R, 1, none⟩) (u := .int .i64 a) (Ne.symm hBR) (Ne.symm hCR)).set (p := ⟨R, 2, none⟩) (u := .int .i64 b) (Ne.symm hBR) (Ne.symm hCR)).set (p := ⟨R, 3, none⟩) (u := .int .u64 (m.ws p : Nat)) (Ne.symm hBR) (Ne.symm hCR)).set (p := ⟨R, 4, none⟩) (u := .int .u64 (y : Nat)) (Ne.symm hBR) (Ne.symm hCR)).set (p := ⟨R, 5, none⟩) (u := .bool dn) (Ne.symm hBR) (Ne.symm hCR)
  have hr := (((((((((((((hR.set (p := ⟨C, p, none⟩) (u := .int .u64 (y : Nat)) hCR).set (p := ⟨B, 6, none⟩) (u := .int .i64 (wrap64 (m.cnt + 1))) hBR).set (p := ⟨B, 7, none⟩) (u := .int .i64 kind) hBR).set (p := ⟨B, 8, none⟩) (u := .int .i64 a) hBR).set (p := ⟨B, 9, none⟩) (u := .int .i64 b) hBR).set (p := ⟨B, 10, none⟩) (u := .int .u64 (m.ws p : Nat)) hBR).set (p := ⟨B, 11, none⟩) (u := .int .u64 (y : Nat)) hBR).set (p := ⟨B, 12, none⟩) (u := .bool dn) hBR).set0 kind).set1 a).set2 b).set3 (m.ws p)).set4 y).set5 dn
  have ho := (((((((((((((hO.set (p := ⟨C, p, none⟩) (.inr (.inl rfl)) (.int .u64 (y : Nat))).set (p := ⟨B, 6, none⟩) (.inl rfl) (.int .i64 (wrap64 (m.cnt + 1)))).set (p := ⟨B, 7, none⟩) (.inl rfl) (.int .i64 kind)).set (p := ⟨B, 8, none⟩) (.inl rfl) (.int .i64 a)).set (p := ⟨B, 9, none⟩) (.inl rfl) (.int .i64 b)).set (p := ⟨B, 10, none⟩) (.inl rfl) (.int .u64 (m.ws p : Nat))).set (p := ⟨B, 11, none⟩) (.inl rfl) (.int .u64 (y : Nat))).set (p := ⟨B, 12, none⟩) (.inl rfl) (.bool dn)).set (p := ⟨R, 0, none⟩) (.inr (.inr hRl)) (.int .i64 kind)).set (p := ⟨R, 1, none⟩) (.inr (.inr hRl)) (.int .i64 a)).set (p := ⟨R, 2, none⟩) (.inr (.inr hRl)) (.int .i64 b)).set (p := ⟨R, 3, none⟩) (.inr (.inr hRl)) (.int .u64 (m.ws p : Nat))).set (p := ⟨R, 4, none⟩) (.inr (.inr hRl)) (.int .u64 (y : Nat))).set (p := ⟨R, 5, none⟩) (.inr (.inr hRl)) (.bool dn)
  have hm' := hm.drew
  have hr' := hr.drew
  have ho' := ho.drew
  generalize hWf : World.drew _ = Wf at hm' hr' ho' ⊢
  obtain ⟨_, q0, q1, q2, q3, q4, q5, _⟩ := hr'
  refine bodyPost_ret (v := (.agg #[.int .i64 kind, .int .i64 a, .int .i64 b, .int .u64 (m.ws p : Nat), .int .u64 (y : Nat), .bool dn])) (by simp [results, Try.results51, go_sem, q0, q1, q2, q3, q4, q5]) rfl ⟨by rw [unhide HYE, unhide HDE], ?_, ho'⟩
  unfold Um.mhit
  rw [unhide HYE, unhide HDE]
  dsimp only at hm'
  rw [next_eq] at hm'
  exact hm'

end Go.Proofs.Ytkiaogbddfjkkaa

/-
  The walk of an access of a spot that stands nowhere.
-/
namespace Go.Proofs.Ytkiaogbddfjkkaa
set_option maxRecDepth 100000
open Go.RowKit Go.Sort

set_option maxHeartbeats 2000000 in
theorem mAccess_miss {W : World} {B C : Nat} {c : Um.Cf} {m : Um.Mm} (h : MemAt W B C c m) (kind a b : Int) (fv : Value)
    (hb0 : -9223372036854775808 ≤ b) (hb1 : b ≤ 9223372036854775807) (hp : c.cl a b = -1) :
    Calls Try.prog 51 #[.pointer (some ⟨B, 0, none⟩), .int .i64 kind, (.agg #[.int .i64 a, .int .i64 b]), fv] W fun e W' =>
      e = .returned (.agg #[.int .i64 kind, .int .i64 a, .int .i64 b, .int .u64 0, .int .u64 0, .bool false]) ∧ MemAt W' B C c (Um.mmiss m kind a b) ∧ Off B C W W' := by
  have hcl := fun w => cCell_any c.t c.s c.k c.g c.q a b w hb0 hb1
  rw [show Um.cellN (Um.rt c.t c.s c.k c.g c.q) c.t c.s c.k a b = -1 from hp] at hcl
  have hBn : B ≠ W.heap.size ∧ B ≠ W.heap.size + 1 ∧ B ≠ W.heap.size + 1 + 1 := by have := h.hB; omega
  have hCn : C ≠ W.heap.size ∧ C ≠ W.heap.size + 1 ∧ C ≠ W.heap.size + 1 + 1 := by have := h.hC; omega
  clear hp hb0 hb1
  have hne := h.ne
  go_enter Try.func51, Try.ntmps51
  go_wp2_with fail
  generalize hw1 : ((W.alloc (.cells #[.int .i64 a, .int .i64 b] 56)).alloc (.cells #[.int .i64 0, .int .i64 0, .int .i64 0, .int .u64 0, .int .u64 0, .bool false] 102)).alloc (.cells #[.int .i64 kind, .int .i64 a, .int .i64 b, .int .u64 0, .int .u64 0, .bool false] 102) = w1
  obtain ⟨hS1, hR1, hT1⟩ : SpAt w1 W.heap.size a b ∧ TchAt w1 (W.heap.size + 1) ⟨0, 0, 0, 0, 0, false⟩ ∧ TchAt w1 (W.heap.size + 1 + 1) ⟨kind, a, b, 0, 0, false⟩ := by
    subst hw1
    obtain ⟨h1, h2, h3⟩ := alloc3_at W (.cells #[.int .i64 a, .int .i64 b] 56) (.cells #[.int .i64 0, .int .i64 0, .int .i64 0, .int .u64 0, .int .u64 0, .bool false] 102) (.cells #[.int .i64 kind, .int .i64 a, .int .i64 b, .int .u64 0, .int .u64 0, .bool false] 102)
    exact ⟨spAt_new h1, tchAt_new _ h2, tchAt_new _ h3⟩
  have hO1 : Off B C W w1 := by
    subst hw1
    exact (((Off.refl B C W).alloc _).alloc _).alloc _
  have hM1 : MemAt w1 B C c m := by
    subst hw1
    exact h.below ((((Below.refl W.heap.size W).alloc (Nat.le_refl _) _).alloc (by simp) _).alloc (by simp; omega) _) h.hB h.hC
  clear hw1 h
  obtain ⟨_, a0, a1⟩ := id hS1
  obtain ⟨_, _, _, _, f0, f1, f2, f3, f4, _⟩ := id hM1
  have k0 : ∀ d os, (grow (redrawn w1 d) os).cell? ⟨B, 0, none⟩ = some (.int .i64 c.t) := fun d os => cell_regrown f0 d os
  have k1 : ∀ d os, (grow (redrawn w1 d) os).cell? ⟨B, 1, none⟩ = some (.int .i64 c.s) := fun d os => cell_regrown f1 d os
  have k2 : ∀ d os, (grow (redrawn w1 d) os).cell? ⟨B, 2, none⟩ = some (.int .i64 c.k) := fun d os => cell_regrown f2 d os
  have k3 : ∀ d os, (grow (redrawn w1 d) os).cell? ⟨B, 3, none⟩ = some (.int .i64 c.g) := fun d os => cell_regrown f3 d os
  have k4 : ∀ d os, (grow (redrawn w1 d) os).cell? ⟨B, 4, none⟩ = some (.int .u64 c.q) := fun d os => cell_regrown f4 d os
  have k5 : ∀ d os, (grow (redrawn w1 d) os).cell? ⟨W.heap.size, 0, none⟩ = some (.int .i64 a) := fun d os => cell_regrown a0 d os
  have k6 : ∀ d os, (grow (redrawn w1 d) os).cell? ⟨W.heap.size, 1, none⟩ = some (.int .i64 b) := fun d os => cell_regrown a1 d os
  refine wp_region_quiet_below (by kernel_rfl) (by kernel_rfl) ?_
  repeat (go_big_quiet_step (first
    | (go_at_call 19; exact Calls.regrown_of (hcl _))))
  refine wpQuiet_nil ?_
  intro w2 hw2
  have hb2 : Below w1.heap.size w1 w2 := by
    obtain ⟨⟨dq, osq⟩, hw3⟩ := hw2
    subst hw3
    exact below_regrown w1 dq osq
  have hR2 := hR1.below hb2
  have hT2 := hT1.below hb2
  have hM2 := hM1.below hb2 hM1.hB hM1.hC
  have hO2 := hO1.then hb2
  clear hb2 hw2 hR1 hT1 hM1 hO1 hS1 a0 a1 f0 f1 f2 f3 f4 k0 k1 k2 k3 k4 k5 k6 hcl
  have hTl : W.heap.size ≤ W.heap.size + 1 + 1 := by omega
  have hRl : W.heap.size ≤ W.heap.size + 1 := by omega
  have hTR : W.heap.size + 1 + 1 ≠ W.heap.size + 1 := by omega
  obtain ⟨_, hBR, hBT⟩ := hBn
  obtain ⟨_, hCR, hCT⟩ := hCn
  generalize W.heap.size + 1 + 1 = T at *
  generalize W.heap.size + 1 = R at *
  have HT := hide hT2
  have HR := hide hR2
  have HM := hide hM2
  have HO := hide hO2
  obtain ⟨_, t0, t1, t2, t3, t4, t5, tz⟩ := hT2
  obtain ⟨_, r0, r1, r2, r3, r4, r5, rz⟩ := hR2
  obtain ⟨_, _, _, _, _, _, _, _, _, m5, m6, m7, m8, m9, m10, m11, m12, mz, mc, _, _⟩ := hM2
  have rz0 := rz 0
  have rz1 := rz 1
  have rz2 := rz 2
  have rz3 := rz 3
  have rz4 := rz 4
  have rz5 := rz 5
  have mz6 := mz 6
  have mz7 := mz 7
  have mz8 := mz 8
  have mz9 := mz 9
  have mz10 := mz 10
  have mz11 := mz 11
  have mz12 := mz 12
  clear tz rz mz mc hO2
  go_wp2
  have hM := unhide HM
  have hR := unhide HR
  have hO := unhide HO
  have hm := ((((((((((((hM.setCnt (wrap64 (m.cnt + 1))).setL0 kind).setL1 a).setL2 b).setL3 0).setL4 0).setL5 false).set (p := ⟨R, 0, none⟩) (u := .int .i64 kind) (Ne.symm hBR) (Ne.symm hCR)).set (p := ⟨R, 1, none⟩) (u := .int .i64 a) (Ne.symm hBR) (Ne.symm hCR)).set (p := ⟨R, 2, none⟩) (u := .int .i64 b) (Ne.symm hBR) (Ne.symm hCR)).set (p := ⟨R, 3, none⟩) (u := .int .u64 0) (Ne.symm hBR) (Ne.symm hCR)).set (p := ⟨R, 4, none⟩) (u := .int .u64 0) (Ne.symm hBR) (Ne.symm hCR)).set (p := ⟨R, 5, none⟩) (u := .bool false) (Ne.symm hBR) (Ne.symm hCR)
  have hr := ((((((((((((hR.set (p := ⟨B, 6, none⟩) (u := .int .i64 (wrap64 (m.cnt + 1))) hBR).set (p := ⟨B, 7, none⟩) (u := .int .i64 kind) hBR).set (p := ⟨B, 8, none⟩) (u := .int .i64 a) hBR).set (p := ⟨B, 9, none⟩) (u := .int .i64 b) hBR).set (p := ⟨B, 10, none⟩) (u := .int .u64 0) hBR).set (p := ⟨B, 11, none⟩) (u := .int .u64 0) hBR).set (p := ⟨B, 12, none⟩) (u := .bool false) hBR).set0 kind).set1 a).set2 b).set3 0).set4 0).set5 false
  have ho := ((((((((((((hO.set (p := ⟨B, 6, none⟩) (.inl rfl) (.int .i64 (wrap64 (m.cnt + 1)))).set (p := ⟨B, 7, none⟩) (.inl rfl) (.int .i64 kind)).set (p := ⟨B, 8, none⟩) (.inl rfl) (.int .i64 a)).set (p := ⟨B, 9, none⟩) (.inl rfl) (.int .i64 b)).set (p := ⟨B, 10, none⟩) (.inl rfl) (.int .u64 0)).set (p := ⟨B, 11, none⟩) (.inl rfl) (.int .u64 0)).set (p := ⟨B, 12, none⟩) (.inl rfl) (.bool false)).set (p := ⟨R, 0, none⟩) (.inr (.inr hRl)) (.int .i64 kind)).set (p := ⟨R, 1, none⟩) (.inr (.inr hRl)) (.int .i64 a)).set (p := ⟨R, 2, none⟩) (.inr (.inr hRl)) (.int .i64 b)).set (p := ⟨R, 3, none⟩) (.inr (.inr hRl)) (.int .u64 0)).set (p := ⟨R, 4, none⟩) (.inr (.inr hRl)) (.int .u64 0)).set (p := ⟨R, 5, none⟩) (.inr (.inr hRl)) (.bool false)
  dsimp only at hm
  rw [next_eq] at hm
  simp only [next_eq] at hr ho
  clear HM HR HO hM hR hO HT
  have ez : ((0 : Nat) : Int) = 0 := rfl
  rw [ez] at hm hr
  rw [next_eq]
  generalize World.setCell _ _ _ = Wf at hm hr ho ⊢
  obtain ⟨_, q0, q1, q2, q3, q4, q5, _⟩ := hr
  exact bodyPost_ret (v := (.agg #[.int .i64 kind, .int .i64 a, .int .i64 b, .int .u64 0, .int .u64 0, .bool false])) (by simp [results, Try.results51, go_sem, q0, q1, q2, q3, q4, q5]) rfl ⟨rfl, hm, ho⟩

theorem field_old (k a b o n : Int) (d : Bool) (w : World) : (Instr.field 102 (.agg #[.int .i64 k, .int .i64 a, .int .i64 b, .int .u64 o, .int .u64 n, .bool d]) 2).run Try.prog w = .ok (.int .u64 o) w := by
  simp [Instr.field, go_sem, asAgg]

theorem field_done (k a b o n : Int) (d : Bool) (w : World) : (Instr.field 102 (.agg #[.int .i64 k, .int .i64 a, .int .i64 b, .int .u64 o, .int .u64 n, .bool d]) 4).run Try.prog w = .ok (.bool d) w := by
  simp [Instr.field, go_sem, asAgg]

/-- an access of any spot -/
theorem mAccess_any {W : World} {B C : Nat} {c : Um.Cf} {m : Um.Mm} (h : MemAt W B C c m) (kind a b : Int) (o v : Nat) (F : FuncId) (eg : ∀ args w, (callFunc F args).run Try.prog w = .ok (.enter F args) w)
    (hF : ∀ x w, Calls Try.prog F #[.agg #[.int .u64 o, .int .u64 v], .int .u64 (x : Nat)] w fun e w' => e = .returned (.tuple #[.int .u64 (Um.trn kind o v x : Nat), .bool (Um.trd kind o x)]) ∧ Below w.heap.size w w')
    (hb0 : -9223372036854775808 ≤ b) (hb1 : b ≤ 9223372036854775807) (hv : Um.Word v) (M : Um.Mm) (hM : M = Um.mtouch c m kind a b o v) :
    Calls Try.prog 51 #[.pointer (some ⟨B, 0, none⟩), .int .i64 kind, (.agg #[.int .i64 a, .int .i64 b]), .func (.func F) #[.agg #[.int .u64 o, .int .u64 v]] #[]] W fun e W' =>
      e = .returned (.agg #[.int .i64 (M.l.kind), .int .i64 (M.l.a), .int .i64 (M.l.b), .int .u64 (M.l.old : Nat), .int .u64 (M.l.new : Nat), .bool (M.l.done)]) ∧ MemAt W' B C c M ∧ Off B C W W' := by
  subst hM
  unfold Um.mtouch
  by_cases hp : 0 ≤ c.cl a b
  · rw [if_pos hp]
    exact mAccess_hit h kind a b o v F eg hF hb0 hb1 hv _ (Int.toNat_of_nonneg hp).symm
  · rw [if_neg hp]
    exact mAccess_miss h kind a b _ hb0 hb1 (by have := c.cl_ge a b; omega)

end Go.Proofs.Ytkiaogbddfjkkaa

/-
  The walks of a memory's loads, stores, swaps and adds.
-/
namespace Go.Proofs.Ytkiaogbddfjkkaa
set_option maxRecDepth 100000
open Go.RowKit Go.Sort

attribute [local go_sem] field_old field_done

set_option maxHeartbeats 1000000 in
theorem mLoad_any {W : World} {B C : Nat} {c : Um.Cf} {m : Um.Mm} (h : MemAt W B C c m) (a b : Int) (hb0 : -9223372036854775808 ≤ b) (hb1 : b ≤ 9223372036854775807) (M : Um.Mm) (hM : M = Um.mtouch c m 1 a b 0 0) :
    Calls Try.prog 25 #[.pointer (some ⟨B, 0, none⟩), (.agg #[.int .i64 a, .int .i64 b])] W fun e W' => e = .returned (.int .u64 (M.l.old : Nat)) ∧ MemAt W' B C c M ∧ Off B C W W' := by
  have hS : Off B C W (W.alloc (.cells #[.int .i64 a, .int .i64 b] 56)) := (Off.refl B C W).alloc _
  have hM1 : MemAt (W.alloc (.cells #[.int .i64 a, .int .i64 b] 56)) B C c m := h.below ((Below.refl _ _).alloc (Nat.le_refl _) _) h.hB h.hC
  have hA := mAccess_any hM1 1 a b 0 0 52 egL (wLoad_any 0 0) hb0 hb1 (by unfold Um.Word; omega) M hM
  clear hM h hM1 hb0 hb1
  go_enter Try.func25, Try.ntmps25
  go_wp2_with fail
  refine hA.mono ?_
  rintro e w1 ⟨rfl, hM1, hO1⟩
  have HM := hide hM1
  have HO := hide (hS.trans hO1)
  clear hM1 hO1 hA hS
  go_wp2
  go_ret
  exact ⟨rfl, unhide HM, unhide HO⟩

set_option maxHeartbeats 1000000 in
theorem mStore_any {W : World} {B C : Nat} {c : Um.Cf} {m : Um.Mm} (h : MemAt W B C c m) (a b : Int) (v : Nat) (hv : Um.Word v) (hb0 : -9223372036854775808 ≤ b) (hb1 : b ≤ 9223372036854775807) (M : Um.Mm) (hM : M = Um.mtouch c m 2 a b 0 v) :
    Calls Try.prog 28 #[.pointer (some ⟨B, 0, none⟩), (.agg #[.int .i64 a, .int .i64 b]), .int .u64 (v : Nat)] W fun e W' => e = .returned (.tuple #[]) ∧ MemAt W' B C c M ∧ Off B C W W' := by
  have hS : Off B C W (W.alloc (.cells #[.int .i64 a, .int .i64 b] 56)) := (Off.refl B C W).alloc _
  have hM1 : MemAt (W.alloc (.cells #[.int .i64 a, .int .i64 b] 56)) B C c m := h.below ((Below.refl _ _).alloc (Nat.le_refl _) _) h.hB h.hC
  have hA := mAccess_any hM1 2 a b 0 v 55 egS (wStore_any 0 v) hb0 hb1 hv M hM
  clear hM h hM1 hb0 hb1
  go_enter Try.func28, Try.ntmps28
  go_wp2_with fail
  refine hA.mono ?_
  rintro e w1 ⟨rfl, hM1, hO1⟩
  have HM := hide hM1
  have HO := hide (hS.trans hO1)
  clear hM1 hO1 hA hS
  go_wp2
  go_end0
  exact ⟨rfl, unhide HM, unhide HO⟩

set_option maxHeartbeats 1000000 in
theorem mSwap_any {W : World} {B C : Nat} {c : Um.Cf} {m : Um.Mm} (h : MemAt W B C c m) (a b : Int) (o v : Nat) (hv : Um.Word v) (hb0 : -9223372036854775808 ≤ b) (hb1 : b ≤ 9223372036854775807) (M : Um.Mm) (hM : M = Um.mtouch c m 3 a b o v) :
    Calls Try.prog 76 #[.pointer (some ⟨B, 0, none⟩), (.agg #[.int .i64 a, .int .i64 b]), .int .u64 (o : Nat), .int .u64 (v : Nat)] W fun e W' => e = .returned (.bool M.l.done) ∧ MemAt W' B C c M ∧ Off B C W W' := by
  have hS : Off B C W (W.alloc (.cells #[.int .i64 a, .int .i64 b] 56)) := (Off.refl B C W).alloc _
  have hM1 : MemAt (W.alloc (.cells #[.int .i64 a, .int .i64 b] 56)) B C c m := h.below ((Below.refl _ _).alloc (Nat.le_refl _) _) h.hB h.hC
  have hA := mAccess_any hM1 3 a b o v 82 egW (wSwap_any o v) hb0 hb1 hv M hM
  clear hM h hM1 hb0 hb1
  go_enter Try.func76, Try.ntmps76
  go_wp2_with fail
  refine hA.mono ?_
  rintro e w1 ⟨rfl, hM1, hO1⟩
  have HM := hide hM1
  have HO := hide (hS.trans hO1)
  clear hM1 hO1 hA hS
  go_wp2
  go_ret
  exact ⟨rfl, unhide HM, unhide HO⟩

end Go.Proofs.Ytkiaogbddfjkkaa
