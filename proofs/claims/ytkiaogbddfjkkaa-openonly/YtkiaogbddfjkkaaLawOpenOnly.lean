/-
  For every world's size and words, the law OpenOnly answers true: a beginning changes nothing but the Status and the Snapshot of its slot, and what a help changes. Conditions: none.
-/
import Derived.Test.YtkiaogbddfjkkaaRows
import Derived.Test.YtkiaogbddfjkkaaM17
import Derived.Test.YtkiaogbddfjkkaaM7
import Derived.Test.YtkiaogbddfjkkaaM3
import Derived.WalkKit
import Derived.ProofKit
import Derived.OpenShut
import Derived.ShutString
import Derived.LoopTactic
import Derived.Lib.QuietBelow
namespace Go.Proofs.Ytkiaogbddfjkkaa.openOnly
set_option maxRecDepth 100000
open Go.ChangeShapes Go.WideShapes Go.ChangeAt Go.RowKit Go.Sort
set_option linter.unusedVariables false

theorem own : ownKnob Try.prog.godebug = none := by kernel_rfl
theorem laidOut : laidOutB Try.prog = true := by kernel_rfl

set_option maxHeartbeats 2000000 in
theorem walk_wrong (w : World) (c : Um.Cf) (a : Option Addr) (n cap : Nat)  (h : c.r = false) :
    Calls Try.prog 8 #[(.agg #[.int .i64 (c.t), .int .i64 (c.s), .int .i64 (c.k), .int .i64 (c.g), .int .u64 (c.q : Int)]), .slice a n cap] w fun e w' => e = .returned (.bool true) ∧ Below w.heap.size w w' := by
  have HL := hide (fun w => lOf_wrong c a n cap w h)
  clear h
  have hS := Sx.new w
  go_enter Try.func8, Try.ntmps8
  go_wp2_with (first | (refine wpx_box hS rfl _ _ rfl _ rfl _ (by intro _; simp only [Act.put, List.setIfInBounds_toArray, List.set_cons_zero, List.set_cons_succ]; first | done | exact rfl) ?_; clear hS; intro _ _ hS; dsimp only [blit, List.set, List.cons_append, List.nil_append, Value.cells, List.toList_toArray] at hS) | (refine wpx_alloc hS rfl _ rfl _ (zer_any2 rfl) _ (by intro _; simp only [Act.put, List.setIfInBounds_toArray, List.set_cons_zero, List.set_cons_succ]; first | done | exact rfl) ?_; clear hS; intro _ _ hS; dsimp only [blit, List.set, List.cons_append, List.nil_append, Value.cells, List.toList_toArray] at hS) | (refine wpx_ld hS rfl _ _ rfl _ _ rfl ?_; (first | refine ⟨0, _, rfl, ?_⟩ | refine ⟨1, _, rfl, ?_⟩ | refine ⟨2, _, rfl, ?_⟩ | refine ⟨3, _, rfl, ?_⟩ | refine ⟨4, _, rfl, ?_⟩ | refine ⟨5, _, rfl, ?_⟩ | refine ⟨6, _, rfl, ?_⟩ | refine ⟨7, _, rfl, ?_⟩ | refine ⟨8, _, rfl, ?_⟩ | refine ⟨9, _, rfl, ?_⟩); first | refine .inl ⟨_, one_any2 rfl, rfl, _, (by simp only [Act.put, List.setIfInBounds_toArray, List.set_cons_zero, List.set_cons_succ]; first | done | exact rfl), ?_⟩ | refine .inr ⟨_, _, row_any2 rfl, rfl, (by dsimp only [cutL, List.drop, List.take]; first | done | exact rfl), _, (by simp only [Act.put, List.setIfInBounds_toArray, List.set_cons_zero, List.set_cons_succ]; first | done | exact rfl), ?_⟩) | (refine wpx_st hS rfl _ _ _ rfl rfl _ _ rfl ?_; (first | refine ⟨0, _, rfl, ?_⟩ | refine ⟨1, _, rfl, ?_⟩ | refine ⟨2, _, rfl, ?_⟩ | refine ⟨3, _, rfl, ?_⟩ | refine ⟨4, _, rfl, ?_⟩ | refine ⟨5, _, rfl, ?_⟩ | refine ⟨6, _, rfl, ?_⟩ | refine ⟨7, _, rfl, ?_⟩ | refine ⟨8, _, rfl, ?_⟩ | refine ⟨9, _, rfl, ?_⟩); refine ⟨_, (by first | exact shA rfl | exact shI rfl | exact shB rfl | exact shS rfl | exact shP rfl | exact shF rfl | exact shN rfl), _, siz_any2 rfl, (by exact rfl), (by exact rfl), (by exact rfl), ?_⟩; clear hS; intro _ hS; dsimp only [blit, List.set, List.cons_append, List.nil_append, Value.cells, List.toList_toArray] at hS))
  refine ((unhide HL) _).mono ?_
  rintro r u ⟨rfl, hb⟩
  replace hS := hS.call hb
  clear hb HL
  go_wp2_with (first | (refine wpx_box hS rfl _ _ rfl _ rfl _ (by intro _; simp only [Act.put, List.setIfInBounds_toArray, List.set_cons_zero, List.set_cons_succ]; first | done | exact rfl) ?_; clear hS; intro _ _ hS; dsimp only [blit, List.set, List.cons_append, List.nil_append, Value.cells, List.toList_toArray] at hS) | (refine wpx_alloc hS rfl _ rfl _ (zer_any2 rfl) _ (by intro _; simp only [Act.put, List.setIfInBounds_toArray, List.set_cons_zero, List.set_cons_succ]; first | done | exact rfl) ?_; clear hS; intro _ _ hS; dsimp only [blit, List.set, List.cons_append, List.nil_append, Value.cells, List.toList_toArray] at hS) | (refine wpx_ld hS rfl _ _ rfl _ _ rfl ?_; (first | refine ⟨0, _, rfl, ?_⟩ | refine ⟨1, _, rfl, ?_⟩ | refine ⟨2, _, rfl, ?_⟩ | refine ⟨3, _, rfl, ?_⟩ | refine ⟨4, _, rfl, ?_⟩ | refine ⟨5, _, rfl, ?_⟩ | refine ⟨6, _, rfl, ?_⟩ | refine ⟨7, _, rfl, ?_⟩ | refine ⟨8, _, rfl, ?_⟩ | refine ⟨9, _, rfl, ?_⟩); first | refine .inl ⟨_, one_any2 rfl, rfl, _, (by simp only [Act.put, List.setIfInBounds_toArray, List.set_cons_zero, List.set_cons_succ]; first | done | exact rfl), ?_⟩ | refine .inr ⟨_, _, row_any2 rfl, rfl, (by dsimp only [cutL, List.drop, List.take]; first | done | exact rfl), _, (by simp only [Act.put, List.setIfInBounds_toArray, List.set_cons_zero, List.set_cons_succ]; first | done | exact rfl), ?_⟩) | (refine wpx_st hS rfl _ _ _ rfl rfl _ _ rfl ?_; (first | refine ⟨0, _, rfl, ?_⟩ | refine ⟨1, _, rfl, ?_⟩ | refine ⟨2, _, rfl, ?_⟩ | refine ⟨3, _, rfl, ?_⟩ | refine ⟨4, _, rfl, ?_⟩ | refine ⟨5, _, rfl, ?_⟩ | refine ⟨6, _, rfl, ?_⟩ | refine ⟨7, _, rfl, ?_⟩ | refine ⟨8, _, rfl, ?_⟩ | refine ⟨9, _, rfl, ?_⟩); refine ⟨_, (by first | exact shA rfl | exact shI rfl | exact shB rfl | exact shS rfl | exact shP rfl | exact shF rfl | exact shN rfl), _, siz_any2 rfl, (by exact rfl), (by exact rfl), (by exact rfl), ?_⟩; clear hS; intro _ hS; dsimp only [blit, List.set, List.cons_append, List.nil_append, Value.cells, List.toList_toArray] at hS))
  refine (onew_any hS (⟨fun _ => 0, 0, Um.noT⟩ : Um.Mm)).mono ?_
  rintro r u ⟨P, K, rfl, hSn⟩
  clear hS
  have hS := hSn
  clear hSn
  dsimp only [putL, List.set, List.cons_append, List.nil_append] at hS
  go_wp2_with fail
  refine (oAlive_any _).mono ?_
  rintro r u ⟨rfl, hb⟩
  replace hS := hS.call hb
  have hB := hS.bel
  clear hb hS
  go_wp2
  go_ret
  exact ⟨rfl, hB⟩

set_option maxHeartbeats 2000000 in
theorem walk_short (w : World) (c : Um.Cf) (a : Option Addr) (n cap : Nat)  (h : c.r = true) (hn : n ≠ c.n) :
    Calls Try.prog 8 #[(.agg #[.int .i64 (c.t), .int .i64 (c.s), .int .i64 (c.k), .int .i64 (c.g), .int .u64 (c.q : Int)]), .slice a n cap] w fun e w' => e = .returned (.bool true) ∧ Below w.heap.size w w' := by
  have HL := hide (fun w => lOf_short c a n cap w h hn)
  clear h hn
  have hS := Sx.new w
  go_enter Try.func8, Try.ntmps8
  go_wp2_with (first | (refine wpx_box hS rfl _ _ rfl _ rfl _ (by intro _; simp only [Act.put, List.setIfInBounds_toArray, List.set_cons_zero, List.set_cons_succ]; first | done | exact rfl) ?_; clear hS; intro _ _ hS; dsimp only [blit, List.set, List.cons_append, List.nil_append, Value.cells, List.toList_toArray] at hS) | (refine wpx_alloc hS rfl _ rfl _ (zer_any2 rfl) _ (by intro _; simp only [Act.put, List.setIfInBounds_toArray, List.set_cons_zero, List.set_cons_succ]; first | done | exact rfl) ?_; clear hS; intro _ _ hS; dsimp only [blit, List.set, List.cons_append, List.nil_append, Value.cells, List.toList_toArray] at hS) | (refine wpx_ld hS rfl _ _ rfl _ _ rfl ?_; (first | refine ⟨0, _, rfl, ?_⟩ | refine ⟨1, _, rfl, ?_⟩ | refine ⟨2, _, rfl, ?_⟩ | refine ⟨3, _, rfl, ?_⟩ | refine ⟨4, _, rfl, ?_⟩ | refine ⟨5, _, rfl, ?_⟩ | refine ⟨6, _, rfl, ?_⟩ | refine ⟨7, _, rfl, ?_⟩ | refine ⟨8, _, rfl, ?_⟩ | refine ⟨9, _, rfl, ?_⟩); first | refine .inl ⟨_, one_any2 rfl, rfl, _, (by simp only [Act.put, List.setIfInBounds_toArray, List.set_cons_zero, List.set_cons_succ]; first | done | exact rfl), ?_⟩ | refine .inr ⟨_, _, row_any2 rfl, rfl, (by dsimp only [cutL, List.drop, List.take]; first | done | exact rfl), _, (by simp only [Act.put, List.setIfInBounds_toArray, List.set_cons_zero, List.set_cons_succ]; first | done | exact rfl), ?_⟩) | (refine wpx_st hS rfl _ _ _ rfl rfl _ _ rfl ?_; (first | refine ⟨0, _, rfl, ?_⟩ | refine ⟨1, _, rfl, ?_⟩ | refine ⟨2, _, rfl, ?_⟩ | refine ⟨3, _, rfl, ?_⟩ | refine ⟨4, _, rfl, ?_⟩ | refine ⟨5, _, rfl, ?_⟩ | refine ⟨6, _, rfl, ?_⟩ | refine ⟨7, _, rfl, ?_⟩ | refine ⟨8, _, rfl, ?_⟩ | refine ⟨9, _, rfl, ?_⟩); refine ⟨_, (by first | exact shA rfl | exact shI rfl | exact shB rfl | exact shS rfl | exact shP rfl | exact shF rfl | exact shN rfl), _, siz_any2 rfl, (by exact rfl), (by exact rfl), (by exact rfl), ?_⟩; clear hS; intro _ hS; dsimp only [blit, List.set, List.cons_append, List.nil_append, Value.cells, List.toList_toArray] at hS))
  refine ((unhide HL) _).mono ?_
  rintro r u ⟨rfl, hb⟩
  replace hS := hS.call hb
  clear hb HL
  go_wp2_with (first | (refine wpx_box hS rfl _ _ rfl _ rfl _ (by intro _; simp only [Act.put, List.setIfInBounds_toArray, List.set_cons_zero, List.set_cons_succ]; first | done | exact rfl) ?_; clear hS; intro _ _ hS; dsimp only [blit, List.set, List.cons_append, List.nil_append, Value.cells, List.toList_toArray] at hS) | (refine wpx_alloc hS rfl _ rfl _ (zer_any2 rfl) _ (by intro _; simp only [Act.put, List.setIfInBounds_toArray, List.set_cons_zero, List.set_cons_succ]; first | done | exact rfl) ?_; clear hS; intro _ _ hS; dsimp only [blit, List.set, List.cons_append, List.nil_append, Value.cells, List.toList_toArray] at hS) | (refine wpx_ld hS rfl _ _ rfl _ _ rfl ?_; (first | refine ⟨0, _, rfl, ?_⟩ | refine ⟨1, _, rfl, ?_⟩ | refine ⟨2, _, rfl, ?_⟩ | refine ⟨3, _, rfl, ?_⟩ | refine ⟨4, _, rfl, ?_⟩ | refine ⟨5, _, rfl, ?_⟩ | refine ⟨6, _, rfl, ?_⟩ | refine ⟨7, _, rfl, ?_⟩ | refine ⟨8, _, rfl, ?_⟩ | refine ⟨9, _, rfl, ?_⟩); first | refine .inl ⟨_, one_any2 rfl, rfl, _, (by simp only [Act.put, List.setIfInBounds_toArray, List.set_cons_zero, List.set_cons_succ]; first | done | exact rfl), ?_⟩ | refine .inr ⟨_, _, row_any2 rfl, rfl, (by dsimp only [cutL, List.drop, List.take]; first | done | exact rfl), _, (by simp only [Act.put, List.setIfInBounds_toArray, List.set_cons_zero, List.set_cons_succ]; first | done | exact rfl), ?_⟩) | (refine wpx_st hS rfl _ _ _ rfl rfl _ _ rfl ?_; (first | refine ⟨0, _, rfl, ?_⟩ | refine ⟨1, _, rfl, ?_⟩ | refine ⟨2, _, rfl, ?_⟩ | refine ⟨3, _, rfl, ?_⟩ | refine ⟨4, _, rfl, ?_⟩ | refine ⟨5, _, rfl, ?_⟩ | refine ⟨6, _, rfl, ?_⟩ | refine ⟨7, _, rfl, ?_⟩ | refine ⟨8, _, rfl, ?_⟩ | refine ⟨9, _, rfl, ?_⟩); refine ⟨_, (by first | exact shA rfl | exact shI rfl | exact shB rfl | exact shS rfl | exact shP rfl | exact shF rfl | exact shN rfl), _, siz_any2 rfl, (by exact rfl), (by exact rfl), (by exact rfl), ?_⟩; clear hS; intro _ hS; dsimp only [blit, List.set, List.cons_append, List.nil_append, Value.cells, List.toList_toArray] at hS))
  refine (onew_any hS (⟨fun _ => 0, 0, Um.noT⟩ : Um.Mm)).mono ?_
  rintro r u ⟨P, K, rfl, hSn⟩
  clear hS
  have hS := hSn
  clear hSn
  dsimp only [putL, List.set, List.cons_append, List.nil_append] at hS
  go_wp2_with fail
  refine (oAlive_any _).mono ?_
  rintro r u ⟨rfl, hb⟩
  replace hS := hS.call hb
  have hB := hS.bel
  clear hb hS
  go_wp2
  go_ret
  exact ⟨rfl, hB⟩

theorem isWords_words {W : World} {v : Value} {n : Nat} {ws : Nat → Nat} (h : IsWords W v n ws) : ∀ i, i < n → Um.Word (ws i) := by
  rcases h with ⟨_, _, _, e⟩ | ⟨_, _, _, _, _, _, _, _, e⟩
  · intro i hi; omega
  · exact fun i hi => (e i hi).2

theorem field_ans0 (a b c : Value) (w : World) : (Instr.field 45 (.agg #[a, b, c]) 0).run Try.prog w = .ok a w := by simp [Instr.field, go_sem, asAgg]
theorem field_ans1 (a b c : Value) (w : World) : (Instr.field 45 (.agg #[a, b, c]) 1).run Try.prog w = .ok b w := by simp [Instr.field, go_sem, asAgg]

set_option maxRecDepth 100000 in
set_option maxHeartbeats 16000000 in
theorem walk_full (w : World) (c : Um.Cf) (v : Value) (ws : Nat → Nat) (h : c.r = true) (hv : IsWords w v c.n ws) (m0 : Um.Mm) (hm0 : m0 = (⟨ws, 0, Um.noT⟩ : Um.Mm)) (A : Um.Os) (hA : A = Um.oit c (Um.onew m0) 100) (h6 : A.nx = 6) (ht : A.te = 6) (hw3 : ∀ i, A.m.ws i = ws i) :
    Calls Try.prog 8 #[(.agg #[.int .i64 (c.t), .int .i64 (c.s), .int .i64 (c.k), .int .i64 (c.g), .int .u64 (c.q : Int)]), v] w fun e w' => e = .returned (.bool true) ∧ Below w.heap.size w w' := by
  have hws0 : m0.ws = ws := by rw [hm0]
  have HN6 := hide h6
  have HTE := hide ht
  have HW3 := hide hw3
  have HH := hide hA
  have hw0 : Um.Word (ws 0) := isWords_words hv 0 (by have := Um.Cf.n_pos h; omega)
  clear h6 ht hw3 hA
  have hn := c.n_le
  have hn8 := Um.Cf.n_pos h
  have hX : ∃ g0 off cap, v = .slice (some ⟨g0, off, none⟩) c.n cap ∧ c.n ≤ cap ∧ g0 < w.heap.size ∧ ∀ j, j < c.n → w.cell? ⟨g0, off + j, none⟩ = some (.int .u64 (ws j)) := by
    rcases hv with ⟨_, _, _, e⟩ | ⟨g0, off, cap, e, _, e1, _, e2, e3⟩
    · omega
    · exact ⟨g0, off, cap, e, e1, e2, fun j hj => (e3 j hj).1⟩
  have HV := hide hv
  have HR := hide h
  obtain ⟨g0, off, scap, rfl, hcap, hg0, hxs⟩ := hX
  have HX := hide hxs
  clear hv h hxs
  obtain ⟨r0, hr0⟩ : ∃ r0, r0 = ws 0 % 16 := ⟨_, rfl⟩
  have hr15 : r0 ≤ 15 := by omega
  have y1 : ((ws 0 : Nat) : Int) % 16 = ((r0 : Nat) : Int) := by omega
  have y2 : IntKind.u64.wrap ((r0 : Nat) : Int) = ((r0 : Nat) : Int) := by rw [IntKind.wrap_u64]; omega
  have y3 : IntKind.i64.wrap ((r0 : Nat) : Int) = ((r0 : Nat) : Int) := by rw [IntKind.wrap_i64]; omega
  have hpe : Um.penN (ws 0) = ((r0 : Nat) : Int) - 1 := by unfold Um.penN; omega
  have HPE := hide hpe
  clear hpe hr0 hw0
  have q1 : w.cell? ⟨g0, off, none⟩ = some (.int .u64 (ws 0)) := (unhide HX) 0 (by omega)
  have hf0 := field_ans0
  have hf1 := field_ans1
  have hS := Sx.new w
  go_enter Try.func8, Try.ntmps8
  go_wp2_with (first | (refine wpx_box hS rfl _ _ rfl _ rfl _ (by intro _; simp only [Act.put, List.setIfInBounds_toArray, List.set_cons_zero, List.set_cons_succ]; first | done | exact rfl) ?_; clear hS; intro _ _ hS; dsimp only [blit, List.set, List.cons_append, List.nil_append, Value.cells, List.toList_toArray] at hS) | (refine wpx_alloc hS rfl _ rfl _ (zer_any2 rfl) _ (by intro _; simp only [Act.put, List.setIfInBounds_toArray, List.set_cons_zero, List.set_cons_succ]; first | done | exact rfl) ?_; clear hS; intro _ _ hS; dsimp only [blit, List.set, List.cons_append, List.nil_append, Value.cells, List.toList_toArray] at hS) | (refine wpx_ld hS rfl _ _ rfl _ _ rfl ?_; (first | refine ⟨0, _, rfl, ?_⟩ | refine ⟨1, _, rfl, ?_⟩ | refine ⟨2, _, rfl, ?_⟩ | refine ⟨3, _, rfl, ?_⟩ | refine ⟨4, _, rfl, ?_⟩ | refine ⟨5, _, rfl, ?_⟩ | refine ⟨6, _, rfl, ?_⟩ | refine ⟨7, _, rfl, ?_⟩ | refine ⟨8, _, rfl, ?_⟩ | refine ⟨9, _, rfl, ?_⟩); first | refine .inl ⟨_, one_any2 rfl, rfl, _, (by simp only [Act.put, List.setIfInBounds_toArray, List.set_cons_zero, List.set_cons_succ]; first | done | exact rfl), ?_⟩ | refine .inr ⟨_, _, row_any2 rfl, rfl, (by dsimp only [cutL, List.drop, List.take]; first | done | exact rfl), _, (by simp only [Act.put, List.setIfInBounds_toArray, List.set_cons_zero, List.set_cons_succ]; first | done | exact rfl), ?_⟩) | (refine wpx_st hS rfl _ _ _ rfl rfl _ _ rfl ?_; (first | refine ⟨0, _, rfl, ?_⟩ | refine ⟨1, _, rfl, ?_⟩ | refine ⟨2, _, rfl, ?_⟩ | refine ⟨3, _, rfl, ?_⟩ | refine ⟨4, _, rfl, ?_⟩ | refine ⟨5, _, rfl, ?_⟩ | refine ⟨6, _, rfl, ?_⟩ | refine ⟨7, _, rfl, ?_⟩ | refine ⟨8, _, rfl, ?_⟩ | refine ⟨9, _, rfl, ?_⟩); refine ⟨_, (by first | exact shA rfl | exact shI rfl | exact shB rfl | exact shS rfl | exact shP rfl | exact shF rfl | exact shN rfl), _, siz_any2 rfl, (by exact rfl), (by exact rfl), (by exact rfl), ?_⟩; clear hS; intro _ hS; dsimp only [blit, List.set, List.cons_append, List.nil_append, Value.cells, List.toList_toArray] at hS))
  refine (lOf_x hS c _ ws (unhide HR) (((unhide HV).low.below hS.bel).is hS.bel.size)).mono ?_
  rintro r u ⟨B, C, g, cg, rfl, hc1, hc2, hWn, hSn⟩
  clear hS
  have hS := hSn
  clear hSn
  dsimp only [putL, List.set, List.cons_append, List.nil_append] at hS
  have HW0 := hide hWn
  clear hWn
  have hC0 : (C, rowW ws c.n) = (C, rowW m0.ws c.n) := by rw [hws0]
  rw [hC0, ← hm0] at hS
  have HW1 := hide (show WordsOk c m0 by rw [hm0]; exact unhide HW0)
  clear hC0 hm0 hws0 HW0
  go_wp2_with (first | (refine wpx_box hS rfl _ _ rfl _ rfl _ (by intro _; simp only [Act.put, List.setIfInBounds_toArray, List.set_cons_zero, List.set_cons_succ]; first | done | exact rfl) ?_; clear hS; intro _ _ hS; dsimp only [blit, List.set, List.cons_append, List.nil_append, Value.cells, List.toList_toArray] at hS) | (refine wpx_alloc hS rfl _ rfl _ (zer_any2 rfl) _ (by intro _; simp only [Act.put, List.setIfInBounds_toArray, List.set_cons_zero, List.set_cons_succ]; first | done | exact rfl) ?_; clear hS; intro _ _ hS; dsimp only [blit, List.set, List.cons_append, List.nil_append, Value.cells, List.toList_toArray] at hS) | (refine wpx_ld hS rfl _ _ rfl _ _ rfl ?_; (first | refine ⟨0, _, rfl, ?_⟩ | refine ⟨1, _, rfl, ?_⟩ | refine ⟨2, _, rfl, ?_⟩ | refine ⟨3, _, rfl, ?_⟩ | refine ⟨4, _, rfl, ?_⟩ | refine ⟨5, _, rfl, ?_⟩ | refine ⟨6, _, rfl, ?_⟩ | refine ⟨7, _, rfl, ?_⟩ | refine ⟨8, _, rfl, ?_⟩ | refine ⟨9, _, rfl, ?_⟩); first | refine .inl ⟨_, one_any2 rfl, rfl, _, (by simp only [Act.put, List.setIfInBounds_toArray, List.set_cons_zero, List.set_cons_succ]; first | done | exact rfl), ?_⟩ | refine .inr ⟨_, _, row_any2 rfl, rfl, (by dsimp only [cutL, List.drop, List.take]; first | done | exact rfl), _, (by simp only [Act.put, List.setIfInBounds_toArray, List.set_cons_zero, List.set_cons_succ]; first | done | exact rfl), ?_⟩) | (refine wpx_st hS rfl _ _ _ rfl rfl _ _ rfl ?_; (first | refine ⟨0, _, rfl, ?_⟩ | refine ⟨1, _, rfl, ?_⟩ | refine ⟨2, _, rfl, ?_⟩ | refine ⟨3, _, rfl, ?_⟩ | refine ⟨4, _, rfl, ?_⟩ | refine ⟨5, _, rfl, ?_⟩ | refine ⟨6, _, rfl, ?_⟩ | refine ⟨7, _, rfl, ?_⟩ | refine ⟨8, _, rfl, ?_⟩ | refine ⟨9, _, rfl, ?_⟩); refine ⟨_, (by first | exact shA rfl | exact shI rfl | exact shB rfl | exact shS rfl | exact shP rfl | exact shF rfl | exact shN rfl), _, siz_any2 rfl, (by exact rfl), (by exact rfl), (by exact rfl), ?_⟩; clear hS; intro _ hS; dsimp only [blit, List.set, List.cons_append, List.nil_append, Value.cells, List.toList_toArray] at hS))
  refine (onew_any hS m0).mono ?_
  rintro r u ⟨P, K, rfl, hSn⟩
  clear hS
  have hS := hSn
  clear hSn
  dsimp only [putL, List.set, List.cons_append, List.nil_append] at hS
  go_wp2_with fail
  refine (ends9_x hS 1 2 4 5 (Um.onew m0) (show 0 ≠ 3 by decide) (qb_new _) rfl rfl rfl rfl (by decide) (by decide) (by decide) (by decide) (by decide) (by decide) (unhide HR) (onew_ok (unhide HR) (unhide HW1)) 100 (by decide) A (unhide HH)).mono ?_
  rintro r u ⟨N, rfl, _, _, _, hOn, nt, q0, _, hSn⟩
  clear hS
  have hS := hSn
  clear hSn
  dsimp only [putL, List.set, List.cons_append, List.nil_append] at hS
  have HO := hide hOn
  clear hOn HW1
  go_wp2_with fail
  refine (oAnswer_any (hS.get 4 rfl)).mono ?_
  rintro r u ⟨rfl, hb⟩
  replace hS := hS.call hb
  clear hb
  go_wp2_with fail
  refine (krSlot_any A.th _ (unhide HO).th).mono ?_
  rintro r u ⟨rfl, rfl⟩
  generalize Um.svN A.th = f
  go_wp2_with (first | (first | (refine wpx_box hS rfl _ _ rfl _ rfl _ (by intro _; simp only [Act.put, List.setIfInBounds_toArray, List.set_cons_zero, List.set_cons_succ]; first | done | exact rfl) ?_; clear hS; intro _ _ hS; dsimp only [blit, List.set, List.cons_append, List.nil_append, Value.cells, List.toList_toArray] at hS) | (refine wpx_alloc hS rfl _ rfl _ (zer_any2 rfl) _ (by intro _; simp only [Act.put, List.setIfInBounds_toArray, List.set_cons_zero, List.set_cons_succ]; first | done | exact rfl) ?_; clear hS; intro _ _ hS; dsimp only [blit, List.set, List.cons_append, List.nil_append, Value.cells, List.toList_toArray] at hS) | (refine wpx_ld hS rfl _ _ rfl _ _ rfl ?_; (first | refine ⟨0, _, rfl, ?_⟩ | refine ⟨1, _, rfl, ?_⟩ | refine ⟨2, _, rfl, ?_⟩ | refine ⟨3, _, rfl, ?_⟩ | refine ⟨4, _, rfl, ?_⟩ | refine ⟨5, _, rfl, ?_⟩ | refine ⟨6, _, rfl, ?_⟩ | refine ⟨7, _, rfl, ?_⟩ | refine ⟨8, _, rfl, ?_⟩ | refine ⟨9, _, rfl, ?_⟩); first | refine .inl ⟨_, one_any2 rfl, rfl, _, (by simp only [Act.put, List.setIfInBounds_toArray, List.set_cons_zero, List.set_cons_succ]; first | done | exact rfl), ?_⟩ | refine .inr ⟨_, _, row_any2 rfl, rfl, (by dsimp only [cutL, List.drop, List.take]; first | done | exact rfl), _, (by simp only [Act.put, List.setIfInBounds_toArray, List.set_cons_zero, List.set_cons_succ]; first | done | exact rfl), ?_⟩) | (refine wpx_st hS rfl _ _ _ rfl rfl _ _ rfl ?_; (first | refine ⟨0, _, rfl, ?_⟩ | refine ⟨1, _, rfl, ?_⟩ | refine ⟨2, _, rfl, ?_⟩ | refine ⟨3, _, rfl, ?_⟩ | refine ⟨4, _, rfl, ?_⟩ | refine ⟨5, _, rfl, ?_⟩ | refine ⟨6, _, rfl, ?_⟩ | refine ⟨7, _, rfl, ?_⟩ | refine ⟨8, _, rfl, ?_⟩ | refine ⟨9, _, rfl, ?_⟩); refine ⟨_, (by first | exact shA rfl | exact shI rfl | exact shB rfl | exact shS rfl | exact shP rfl | exact shF rfl | exact shN rfl), _, siz_any2 rfl, (by exact rfl), (by exact rfl), (by exact rfl), ?_⟩; clear hS; intro _ hS; dsimp only [blit, List.set, List.cons_append, List.nil_append, Value.cells, List.toList_toArray] at hS)) | (refine wpx_old hS rfl _ _ rfl _ _ rfl hg0 _ q1 (one_any2 rfl) _ (by simp only [Act.put, List.setIfInBounds_toArray, List.set_cons_zero, List.set_cons_succ]; first | done | exact rfl) ?_))
  refine (cells_x hS 1 2 rfl rfl (by decide) (unhide HR) (unhide HO).wd).mono ?_
  rintro r u ⟨X, rfl, hSn⟩
  clear hS
  have hS := hSn
  clear hSn
  dsimp only [putL, List.set, List.cons_append, List.nil_append] at hS
  go_wp2_with fail
  clear q1 y1 y2 y3
  obtain ⟨pn, hpn⟩ : ∃ pn : Int, pn = ((r0 : Nat) : Int) - 1 := ⟨_, rfl⟩
  have hpb : -1 ≤ pn ∧ pn ≤ 14 := by omega
  obtain ⟨hpb0, hpb1⟩ := hpb
  have HPN := hide (show Um.penN (ws 0) = pn by rw [hpn]; exact unhide HPE)
  rw [← hpn]
  clear hpn HPE
  obtain ⟨CF, rfl⟩ := nameB hS 0 rfl
  obtain ⟨R, rfl⟩ := nameB hS 3 rfl
  obtain ⟨u, rfl⟩ := nameW hS
  go_loopw [55] (fun i wr => ∃ j : Nat, j ≤ c.n ∧ i = .int .i64 j ∧ Below u.heap.size u wr) (fun i _ => c.n - (intOf i).toNat)
  case atStart => exact ⟨0, by omega, rfl, Below.refl _ _⟩
  case round =>
    obtain ⟨j, hj, rfl, hBr⟩ := hrel
    replace hS := hS.call hBr
    obtain ⟨wr, rfl⟩ := nameW hS
    by_cases hlt : j < c.n
    · have hlti : (j : Int) < (c.n : Int) := by omega
      have HS0 := hide hS
      have hE : Sx [] wr wr [] [(CF, [.int .i64 c.t, .int .i64 c.s, .int .i64 c.k, .int .i64 c.g, .int .u64 c.q]), (P, opnL K P nt q0 A), (X, rowW A.m.ws c.n)] := Sx.read wr _ (fun p hp => by
        rcases (by simpa using hp : p = (CF, _) ∨ p = (P, _) ∨ p = (X, _)) with rfl | rfl | rfl
        · exact hS.get 0 rfl
        · exact hS.get 4 rfl
        · exact hS.get 6 rfl)
      have c0 := (hS.get 6 rfl).cell j _ (rowW_get A.m.ws c.n j hlt)
      have cf0 := (hS.get 0 rfl).cell 0 _ rfl
      have cf1 := (hS.get 0 rfl).cell 1 _ rfl
      have cf2 := (hS.get 0 rfl).cell 2 _ rfl
      have cf3 := (hS.get 0 rfl).cell 3 _ rfl
      have cf4 := (hS.get 0 rfl).cell 4 _ rfl
      have q9 := (hS.bel.cell (p := ⟨g0, off + j, none⟩) hg0).trans ((unhide HX) j hlt)
      have hA2 : ∀ W, Calls Try.prog 31 #[(.agg #[.int .i64 (c.t), .int .i64 (c.s), .int .i64 (c.k), .int .i64 (c.g), .int .u64 (c.q : Int)]), .int .i64 (j : Int)] W fun e w' => e = .returned (.agg #[.int .i64 (Um.atK c.r c.t c.s c.k j), .int .i64 (Um.atO c.r c.t c.s c.k j)]) ∧ Below W.heap.size W w' := fun W => cAt_any c.t c.s c.k c.g c.q (j : Int) W (by omega)
      have hma := (unhide HW3) j
      generalize Um.atK c.r c.t c.s c.k (j : Int) = ak at *
      generalize Um.atO c.r c.t c.s c.k (j : Int) = ao at *
      have HMA := hide hma
      have HA2 := hide hA2
      clear hA2 hma hS
      have hS := hE
      clear hE
      go_wp2_with (first | (first | (refine wpx_box hS rfl _ _ rfl _ rfl _ (by intro _; simp only [Act.put, List.setIfInBounds_toArray, List.set_cons_zero, List.set_cons_succ]; first | done | exact rfl) ?_; clear hS; intro _ _ hS; dsimp only [blit, List.set, List.cons_append, List.nil_append, Value.cells, List.toList_toArray] at hS) | (refine wpx_alloc hS rfl _ rfl _ (zer_any2 rfl) _ (by intro _; simp only [Act.put, List.setIfInBounds_toArray, List.set_cons_zero, List.set_cons_succ]; first | done | exact rfl) ?_; clear hS; intro _ _ hS; dsimp only [blit, List.set, List.cons_append, List.nil_append, Value.cells, List.toList_toArray] at hS) | (refine wpx_ld hS rfl _ _ rfl _ _ rfl ?_; (first | refine ⟨0, _, rfl, ?_⟩ | refine ⟨1, _, rfl, ?_⟩ | refine ⟨2, _, rfl, ?_⟩ | refine ⟨3, _, rfl, ?_⟩ | refine ⟨4, _, rfl, ?_⟩ | refine ⟨5, _, rfl, ?_⟩ | refine ⟨6, _, rfl, ?_⟩ | refine ⟨7, _, rfl, ?_⟩ | refine ⟨8, _, rfl, ?_⟩ | refine ⟨9, _, rfl, ?_⟩); first | refine .inl ⟨_, one_any2 rfl, rfl, _, (by simp only [Act.put, List.setIfInBounds_toArray, List.set_cons_zero, List.set_cons_succ]; first | done | exact rfl), ?_⟩ | refine .inr ⟨_, _, row_any2 rfl, rfl, (by dsimp only [cutL, List.drop, List.take]; first | done | exact rfl), _, (by simp only [Act.put, List.setIfInBounds_toArray, List.set_cons_zero, List.set_cons_succ]; first | done | exact rfl), ?_⟩) | (refine wpx_st hS rfl _ _ _ rfl rfl _ _ rfl ?_; (first | refine ⟨0, _, rfl, ?_⟩ | refine ⟨1, _, rfl, ?_⟩ | refine ⟨2, _, rfl, ?_⟩ | refine ⟨3, _, rfl, ?_⟩ | refine ⟨4, _, rfl, ?_⟩ | refine ⟨5, _, rfl, ?_⟩ | refine ⟨6, _, rfl, ?_⟩ | refine ⟨7, _, rfl, ?_⟩ | refine ⟨8, _, rfl, ?_⟩ | refine ⟨9, _, rfl, ?_⟩); refine ⟨_, (by first | exact shA rfl | exact shI rfl | exact shB rfl | exact shS rfl | exact shP rfl | exact shF rfl | exact shN rfl), _, siz_any2 rfl, (by exact rfl), (by exact rfl), (by exact rfl), ?_⟩; clear hS; intro _ hS; dsimp only [blit, List.set, List.cons_append, List.nil_append, Value.cells, List.toList_toArray] at hS)) | (refine wpx_load hS 0 rfl _ _ rfl _ _ rfl _ rfl _ (row_any2 rfl) rfl _ (by dsimp only [cutL, List.drop, List.take]; first | done | exact rfl) _ (by simp only [Act.put, List.setIfInBounds_toArray, List.set_cons_zero, List.set_cons_succ]; first | done | exact rfl) ?_))
      clear c0
      refine ((unhide HA2) _).mono ?_
      rintro r u2 ⟨rfl, hb⟩
      replace hS := hS.call hb
      clear hb cf0 cf1 cf2 cf3 cf4 HA2
      go_wp2_with (first | (refine wpx_box hS rfl _ _ rfl _ rfl _ (by intro _; simp only [Act.put, List.setIfInBounds_toArray, List.set_cons_zero, List.set_cons_succ]; first | done | exact rfl) ?_; clear hS; intro _ _ hS; dsimp only [blit, List.set, List.cons_append, List.nil_append, Value.cells, List.toList_toArray] at hS) | (refine wpx_alloc hS rfl _ rfl _ (zer_any2 rfl) _ (by intro _; simp only [Act.put, List.setIfInBounds_toArray, List.set_cons_zero, List.set_cons_succ]; first | done | exact rfl) ?_; clear hS; intro _ _ hS; dsimp only [blit, List.set, List.cons_append, List.nil_append, Value.cells, List.toList_toArray] at hS) | (refine wpx_ld hS rfl _ _ rfl _ _ rfl ?_; (first | refine ⟨0, _, rfl, ?_⟩ | refine ⟨1, _, rfl, ?_⟩ | refine ⟨2, _, rfl, ?_⟩ | refine ⟨3, _, rfl, ?_⟩ | refine ⟨4, _, rfl, ?_⟩ | refine ⟨5, _, rfl, ?_⟩ | refine ⟨6, _, rfl, ?_⟩ | refine ⟨7, _, rfl, ?_⟩ | refine ⟨8, _, rfl, ?_⟩ | refine ⟨9, _, rfl, ?_⟩); first | refine .inl ⟨_, one_any2 rfl, rfl, _, (by simp only [Act.put, List.setIfInBounds_toArray, List.set_cons_zero, List.set_cons_succ]; first | done | exact rfl), ?_⟩ | refine .inr ⟨_, _, row_any2 rfl, rfl, (by dsimp only [cutL, List.drop, List.take]; first | done | exact rfl), _, (by simp only [Act.put, List.setIfInBounds_toArray, List.set_cons_zero, List.set_cons_succ]; first | done | exact rfl), ?_⟩) | (refine wpx_st hS rfl _ _ _ rfl rfl _ _ rfl ?_; (first | refine ⟨0, _, rfl, ?_⟩ | refine ⟨1, _, rfl, ?_⟩ | refine ⟨2, _, rfl, ?_⟩ | refine ⟨3, _, rfl, ?_⟩ | refine ⟨4, _, rfl, ?_⟩ | refine ⟨5, _, rfl, ?_⟩ | refine ⟨6, _, rfl, ?_⟩ | refine ⟨7, _, rfl, ?_⟩ | refine ⟨8, _, rfl, ?_⟩ | refine ⟨9, _, rfl, ?_⟩); refine ⟨_, (by first | exact shA rfl | exact shI rfl | exact shB rfl | exact shS rfl | exact shP rfl | exact shF rfl | exact shN rfl), _, siz_any2 rfl, (by exact rfl), (by exact rfl), (by exact rfl), ?_⟩; clear hS; intro _ hS; dsimp only [blit, List.set, List.cons_append, List.nil_append, Value.cells, List.toList_toArray] at hS))
      obtain ⟨SP, rfl⟩ := nameB hS 0 rfl
      have HQ9 := hide q9
      clear q9
      obtain ⟨u7, rfl⟩ := nameW hS
      have HAN := hide (fun d os => Calls.regrown_of ((oAnswer_any ((hS.call (below_regrown u7 d os)).getE 1 rfl)).mono (fun r w' h => ⟨h.1.trans (by rw [unhide HTE]), h.2⟩)))
      have s0 := cell_regrown ((hS.get 0 rfl).cell 0 _ rfl)
      have s1 := cell_regrown ((hS.get 0 rfl).cell 1 _ rfl)
      have HSQ := hide hS
      clear hS
      refine wp_region_quiet_below (by kernel_rfl) (by kernel_rfl) ?_
      repeat (go_big_quiet_step (first | (go_at_call 18; exact (unhide HAN) _ _) | (go_at_call 20; exact Calls.regrown_of (of9_any _ _ _))))
      refine wpQuiet_nil ?_
      intro _ hw'
      obtain ⟨⟨dq, osq⟩, hw''⟩ := hw'
      subst hw''
      have hS := (unhide HSQ).call (below_regrown u7 dq osq)
      clear HSQ s0 s1 HAN
      generalize grow (redrawn u7 dq) osq = u6 at *
      go_wp2_with fail
      by_cases g1 : ak = 1 ∧ ao = 0
      · have t1 : ∀ w, (binOp .eql 56 (.agg #[.int .i64 ak, .int .i64 ao]) (.agg #[.int .i64 1, .int .i64 0])).run Try.prog w = .ok (.bool true) w := eqlSpot _ (Or.inl rfl) (r := true) (decide_eq_true (by omega)).symm
        have hv2 : ((A.m.ws j : Int) != (ws j : Int)) = false := by rw [unhide HMA]; simp
        have s0 := cell_regrown ((hS.get 0 rfl).cell 0 _ rfl)
        have s1 := cell_regrown ((hS.get 0 rfl).cell 1 _ rfl)
        obtain ⟨u5, rfl⟩ := nameW hS
        have HSQ := hide hS
        clear hS
        refine wp_region_quiet_below (by kernel_rfl) (by kernel_rfl) ?_
        repeat (go_big_quiet_step (first | (go_at_call 20; exact Calls.regrown_of (of9_any _ _ _))))
        refine wpQuiet_nil ?_
        intro _ hw'
        obtain ⟨⟨dq, osq⟩, hw''⟩ := hw'
        subst hw''
        have hS := (unhide HSQ).call (below_regrown u5 dq osq)
        clear HSQ s0 s1 
        generalize grow (redrawn u5 dq) osq = u6 at *
        have hBx := hS.bel
        have q7 := (hBx.cell (p := ⟨g0, off + j, none⟩) (Nat.lt_of_lt_of_le hg0 (unhide HS0).size)).trans (unhide HQ9)
        have hB9 := hBr.trans (hBx.mono hBr.size)
        clear hS hBx
        go_wp2
        exact ⟨⟨j + 1, by omega, by go_num, hB9⟩, by simp [intOf]; omega⟩
      · have t1 : ∀ w, (binOp .eql 56 (.agg #[.int .i64 ak, .int .i64 ao]) (.agg #[.int .i64 1, .int .i64 0])).run Try.prog w = .ok (.bool false) w := eqlSpot _ (Or.inl rfl) (r := false) (decide_eq_false (by omega)).symm
        by_cases g2 : 0 ≤ pn
        · have p1 : decide (0 ≤ pn) = true := decide_eq_true g2
          by_cases g3 : ak = 4 ∧ ao = pn
          · have t4 : ∀ w, (binOp .eql 56 (.agg #[.int .i64 ak, .int .i64 ao]) (.agg #[.int .i64 4, .int .i64 pn])).run Try.prog w = .ok (.bool true) w := eqlSpot _ (Or.inl rfl) (r := true) (decide_eq_true (by omega)).symm
            have hv2 : ((A.m.ws j : Int) != (ws j : Int)) = false := by rw [unhide HMA]; simp
            have s0 := cell_regrown ((hS.get 0 rfl).cell 0 _ rfl)
            have s1 := cell_regrown ((hS.get 0 rfl).cell 1 _ rfl)
            obtain ⟨u5, rfl⟩ := nameW hS
            have HSQ := hide hS
            clear hS
            refine wp_region_quiet_below (by kernel_rfl) (by kernel_rfl) ?_
            repeat (go_big_quiet_step (first | (go_at_call 20; exact Calls.regrown_of (of9_any _ _ _))))
            refine wpQuiet_nil ?_
            intro _ hw'
            obtain ⟨⟨dq, osq⟩, hw''⟩ := hw'
            subst hw''
            have hS := (unhide HSQ).call (below_regrown u5 dq osq)
            clear HSQ s0 s1 
            generalize grow (redrawn u5 dq) osq = u6 at *
            have hBx := hS.bel
            have q7 := (hBx.cell (p := ⟨g0, off + j, none⟩) (Nat.lt_of_lt_of_le hg0 (unhide HS0).size)).trans (unhide HQ9)
            have hB9 := hBr.trans (hBx.mono hBr.size)
            clear hS hBx
            go_wp2
            exact ⟨⟨j + 1, by omega, by go_num, hB9⟩, by simp [intOf]; omega⟩
          · have t4 : ∀ w, (binOp .eql 56 (.agg #[.int .i64 ak, .int .i64 ao]) (.agg #[.int .i64 4, .int .i64 pn])).run Try.prog w = .ok (.bool false) w := eqlSpot _ (Or.inl rfl) (r := false) (decide_eq_false (by omega)).symm
            by_cases g4 : ak = 6 ∧ ao = pn
            · have t6 : ∀ w, (binOp .eql 56 (.agg #[.int .i64 ak, .int .i64 ao]) (.agg #[.int .i64 6, .int .i64 pn])).run Try.prog w = .ok (.bool true) w := eqlSpot _ (Or.inl rfl) (r := true) (decide_eq_true (by omega)).symm
              have hv2 : ((A.m.ws j : Int) != (ws j : Int)) = false := by rw [unhide HMA]; simp
              have s0 := cell_regrown ((hS.get 0 rfl).cell 0 _ rfl)
              have s1 := cell_regrown ((hS.get 0 rfl).cell 1 _ rfl)
              obtain ⟨u5, rfl⟩ := nameW hS
              have HSQ := hide hS
              clear hS
              refine wp_region_quiet_below (by kernel_rfl) (by kernel_rfl) ?_
              repeat (go_big_quiet_step (first | (go_at_call 20; exact Calls.regrown_of (of9_any _ _ _))))
              refine wpQuiet_nil ?_
              intro _ hw'
              obtain ⟨⟨dq, osq⟩, hw''⟩ := hw'
              subst hw''
              have hS := (unhide HSQ).call (below_regrown u5 dq osq)
              clear HSQ s0 s1 
              generalize grow (redrawn u5 dq) osq = u6 at *
              have hBx := hS.bel
              have q7 := (hBx.cell (p := ⟨g0, off + j, none⟩) (Nat.lt_of_lt_of_le hg0 (unhide HS0).size)).trans (unhide HQ9)
              have hB9 := hBr.trans (hBx.mono hBr.size)
              clear hS hBx
              go_wp2
              exact ⟨⟨j + 1, by omega, by go_num, hB9⟩, by simp [intOf]; omega⟩
            · have t6 : ∀ w, (binOp .eql 56 (.agg #[.int .i64 ak, .int .i64 ao]) (.agg #[.int .i64 6, .int .i64 pn])).run Try.prog w = .ok (.bool false) w := eqlSpot _ (Or.inl rfl) (r := false) (decide_eq_false (by omega)).symm
              have hv2 : ((A.m.ws j : Int) != (ws j : Int)) = false := by rw [unhide HMA]; simp
              have s0 := cell_regrown ((hS.get 0 rfl).cell 0 _ rfl)
              have s1 := cell_regrown ((hS.get 0 rfl).cell 1 _ rfl)
              obtain ⟨u5, rfl⟩ := nameW hS
              have HSQ := hide hS
              clear hS
              refine wp_region_quiet_below (by kernel_rfl) (by kernel_rfl) ?_
              repeat (go_big_quiet_step (first | (go_at_call 20; exact Calls.regrown_of (of9_any _ _ _))))
              refine wpQuiet_nil ?_
              intro _ hw'
              obtain ⟨⟨dq, osq⟩, hw''⟩ := hw'
              subst hw''
              have hS := (unhide HSQ).call (below_regrown u5 dq osq)
              clear HSQ s0 s1 
              generalize grow (redrawn u5 dq) osq = u6 at *
              have hBx := hS.bel
              have q7 := (hBx.cell (p := ⟨g0, off + j, none⟩) (Nat.lt_of_lt_of_le hg0 (unhide HS0).size)).trans (unhide HQ9)
              have hB9 := hBr.trans (hBx.mono hBr.size)
              clear hS hBx
              go_wp2
              exact ⟨⟨j + 1, by omega, by go_num, hB9⟩, by simp [intOf]; omega⟩
        · have p1 : decide (0 ≤ pn) = false := decide_eq_false g2
          have hv2 : ((A.m.ws j : Int) != (ws j : Int)) = false := by rw [unhide HMA]; simp
          have s0 := cell_regrown ((hS.get 0 rfl).cell 0 _ rfl)
          have s1 := cell_regrown ((hS.get 0 rfl).cell 1 _ rfl)
          obtain ⟨u5, rfl⟩ := nameW hS
          have HSQ := hide hS
          clear hS
          refine wp_region_quiet_below (by kernel_rfl) (by kernel_rfl) ?_
          repeat (go_big_quiet_step (first | (go_at_call 20; exact Calls.regrown_of (of9_any _ _ _))))
          refine wpQuiet_nil ?_
          intro _ hw'
          obtain ⟨⟨dq, osq⟩, hw''⟩ := hw'
          subst hw''
          have hS := (unhide HSQ).call (below_regrown u5 dq osq)
          clear HSQ s0 s1 
          generalize grow (redrawn u5 dq) osq = u6 at *
          have hBx := hS.bel
          have q7 := (hBx.cell (p := ⟨g0, off + j, none⟩) (Nat.lt_of_lt_of_le hg0 (unhide HS0).size)).trans (unhide HQ9)
          have hB9 := hBr.trans (hBx.mono hBr.size)
          clear hS hBx
          go_wp2
          exact ⟨⟨j + 1, by omega, by go_num, hB9⟩, by simp [intOf]; omega⟩
    · have hge : ¬ (j : Int) < (c.n : Int) := by omega
      go_wp2_with fail
      refine (oAlive_any _).mono ?_
      rintro r u ⟨rfl, hb⟩
      replace hS := hS.call hb
      clear hb
      go_wp2_with fail
      refine (oDone_any (hS.get 4 rfl) (unhide HO).nx).mono ?_
      rintro r u ⟨rfl, rfl⟩
      rw [decide_eq_true (unhide HN6)]
      have hB := hS.bel
      clear hS
      go_wp2
      go_ret
      exact ⟨rfl, hB⟩

set_option maxRecDepth 100000 in
set_option maxHeartbeats 16000000 in
theorem walk_got (w : World) (c : Um.Cf) (v : Value) (ws : Nat → Nat) (h : c.r = true) (hv : IsWords w v c.n ws) (m0 : Um.Mm) (hm0 : m0 = (⟨ws, 0, Um.noT⟩ : Um.Mm)) (A : Um.Os) (hA : A = Um.oit c (Um.onew m0) 100) (h6 : A.nx = 6) (f : Int) (ht : A.te = 0) (hsv : Um.svN A.th = f) (hw3 : ∀ j, A.m.ws j ≠ ws j → ((Um.atK c.r c.t c.s c.k (j : Int) = 4 ∨ Um.atK c.r c.t c.s c.k (j : Int) = 5) ∧ Um.atO c.r c.t c.s c.k (j : Int) = f) ∨ (Um.atK c.r c.t c.s c.k (j : Int) = 1 ∧ Um.atO c.r c.t c.s c.k (j : Int) = 0) ∨ (0 ≤ Um.penN (ws 0) ∧ (Um.atK c.r c.t c.s c.k (j : Int) = 4 ∨ Um.atK c.r c.t c.s c.k (j : Int) = 6) ∧ Um.atO c.r c.t c.s c.k (j : Int) = Um.penN (ws 0))) :
    Calls Try.prog 8 #[(.agg #[.int .i64 (c.t), .int .i64 (c.s), .int .i64 (c.k), .int .i64 (c.g), .int .u64 (c.q : Int)]), v] w fun e w' => e = .returned (.bool true) ∧ Below w.heap.size w w' := by
  have hws0 : m0.ws = ws := by rw [hm0]
  have HN6 := hide h6
  have HTE := hide ht
  have HW3 := hide hw3
  have HSV := hide hsv
  have HH := hide hA
  have hw0 : Um.Word (ws 0) := isWords_words hv 0 (by have := Um.Cf.n_pos h; omega)
  clear h6 ht hw3 hsv hA
  have hn := c.n_le
  have hn8 := Um.Cf.n_pos h
  have hX : ∃ g0 off cap, v = .slice (some ⟨g0, off, none⟩) c.n cap ∧ c.n ≤ cap ∧ g0 < w.heap.size ∧ ∀ j, j < c.n → w.cell? ⟨g0, off + j, none⟩ = some (.int .u64 (ws j)) := by
    rcases hv with ⟨_, _, _, e⟩ | ⟨g0, off, cap, e, _, e1, _, e2, e3⟩
    · omega
    · exact ⟨g0, off, cap, e, e1, e2, fun j hj => (e3 j hj).1⟩
  have HV := hide hv
  have HR := hide h
  obtain ⟨g0, off, scap, rfl, hcap, hg0, hxs⟩ := hX
  have HX := hide hxs
  clear hv h hxs
  obtain ⟨r0, hr0⟩ : ∃ r0, r0 = ws 0 % 16 := ⟨_, rfl⟩
  have hr15 : r0 ≤ 15 := by omega
  have y1 : ((ws 0 : Nat) : Int) % 16 = ((r0 : Nat) : Int) := by omega
  have y2 : IntKind.u64.wrap ((r0 : Nat) : Int) = ((r0 : Nat) : Int) := by rw [IntKind.wrap_u64]; omega
  have y3 : IntKind.i64.wrap ((r0 : Nat) : Int) = ((r0 : Nat) : Int) := by rw [IntKind.wrap_i64]; omega
  have hpe : Um.penN (ws 0) = ((r0 : Nat) : Int) - 1 := by unfold Um.penN; omega
  have HPE := hide hpe
  clear hpe hr0 hw0
  have q1 : w.cell? ⟨g0, off, none⟩ = some (.int .u64 (ws 0)) := (unhide HX) 0 (by omega)
  have hf0 := field_ans0
  have hf1 := field_ans1
  have hS := Sx.new w
  go_enter Try.func8, Try.ntmps8
  go_wp2_with (first | (refine wpx_box hS rfl _ _ rfl _ rfl _ (by intro _; simp only [Act.put, List.setIfInBounds_toArray, List.set_cons_zero, List.set_cons_succ]; first | done | exact rfl) ?_; clear hS; intro _ _ hS; dsimp only [blit, List.set, List.cons_append, List.nil_append, Value.cells, List.toList_toArray] at hS) | (refine wpx_alloc hS rfl _ rfl _ (zer_any2 rfl) _ (by intro _; simp only [Act.put, List.setIfInBounds_toArray, List.set_cons_zero, List.set_cons_succ]; first | done | exact rfl) ?_; clear hS; intro _ _ hS; dsimp only [blit, List.set, List.cons_append, List.nil_append, Value.cells, List.toList_toArray] at hS) | (refine wpx_ld hS rfl _ _ rfl _ _ rfl ?_; (first | refine ⟨0, _, rfl, ?_⟩ | refine ⟨1, _, rfl, ?_⟩ | refine ⟨2, _, rfl, ?_⟩ | refine ⟨3, _, rfl, ?_⟩ | refine ⟨4, _, rfl, ?_⟩ | refine ⟨5, _, rfl, ?_⟩ | refine ⟨6, _, rfl, ?_⟩ | refine ⟨7, _, rfl, ?_⟩ | refine ⟨8, _, rfl, ?_⟩ | refine ⟨9, _, rfl, ?_⟩); first | refine .inl ⟨_, one_any2 rfl, rfl, _, (by simp only [Act.put, List.setIfInBounds_toArray, List.set_cons_zero, List.set_cons_succ]; first | done | exact rfl), ?_⟩ | refine .inr ⟨_, _, row_any2 rfl, rfl, (by dsimp only [cutL, List.drop, List.take]; first | done | exact rfl), _, (by simp only [Act.put, List.setIfInBounds_toArray, List.set_cons_zero, List.set_cons_succ]; first | done | exact rfl), ?_⟩) | (refine wpx_st hS rfl _ _ _ rfl rfl _ _ rfl ?_; (first | refine ⟨0, _, rfl, ?_⟩ | refine ⟨1, _, rfl, ?_⟩ | refine ⟨2, _, rfl, ?_⟩ | refine ⟨3, _, rfl, ?_⟩ | refine ⟨4, _, rfl, ?_⟩ | refine ⟨5, _, rfl, ?_⟩ | refine ⟨6, _, rfl, ?_⟩ | refine ⟨7, _, rfl, ?_⟩ | refine ⟨8, _, rfl, ?_⟩ | refine ⟨9, _, rfl, ?_⟩); refine ⟨_, (by first | exact shA rfl | exact shI rfl | exact shB rfl | exact shS rfl | exact shP rfl | exact shF rfl | exact shN rfl), _, siz_any2 rfl, (by exact rfl), (by exact rfl), (by exact rfl), ?_⟩; clear hS; intro _ hS; dsimp only [blit, List.set, List.cons_append, List.nil_append, Value.cells, List.toList_toArray] at hS))
  refine (lOf_x hS c _ ws (unhide HR) (((unhide HV).low.below hS.bel).is hS.bel.size)).mono ?_
  rintro r u ⟨B, C, g, cg, rfl, hc1, hc2, hWn, hSn⟩
  clear hS
  have hS := hSn
  clear hSn
  dsimp only [putL, List.set, List.cons_append, List.nil_append] at hS
  have HW0 := hide hWn
  clear hWn
  have hC0 : (C, rowW ws c.n) = (C, rowW m0.ws c.n) := by rw [hws0]
  rw [hC0, ← hm0] at hS
  have HW1 := hide (show WordsOk c m0 by rw [hm0]; exact unhide HW0)
  clear hC0 hm0 hws0 HW0
  go_wp2_with (first | (refine wpx_box hS rfl _ _ rfl _ rfl _ (by intro _; simp only [Act.put, List.setIfInBounds_toArray, List.set_cons_zero, List.set_cons_succ]; first | done | exact rfl) ?_; clear hS; intro _ _ hS; dsimp only [blit, List.set, List.cons_append, List.nil_append, Value.cells, List.toList_toArray] at hS) | (refine wpx_alloc hS rfl _ rfl _ (zer_any2 rfl) _ (by intro _; simp only [Act.put, List.setIfInBounds_toArray, List.set_cons_zero, List.set_cons_succ]; first | done | exact rfl) ?_; clear hS; intro _ _ hS; dsimp only [blit, List.set, List.cons_append, List.nil_append, Value.cells, List.toList_toArray] at hS) | (refine wpx_ld hS rfl _ _ rfl _ _ rfl ?_; (first | refine ⟨0, _, rfl, ?_⟩ | refine ⟨1, _, rfl, ?_⟩ | refine ⟨2, _, rfl, ?_⟩ | refine ⟨3, _, rfl, ?_⟩ | refine ⟨4, _, rfl, ?_⟩ | refine ⟨5, _, rfl, ?_⟩ | refine ⟨6, _, rfl, ?_⟩ | refine ⟨7, _, rfl, ?_⟩ | refine ⟨8, _, rfl, ?_⟩ | refine ⟨9, _, rfl, ?_⟩); first | refine .inl ⟨_, one_any2 rfl, rfl, _, (by simp only [Act.put, List.setIfInBounds_toArray, List.set_cons_zero, List.set_cons_succ]; first | done | exact rfl), ?_⟩ | refine .inr ⟨_, _, row_any2 rfl, rfl, (by dsimp only [cutL, List.drop, List.take]; first | done | exact rfl), _, (by simp only [Act.put, List.setIfInBounds_toArray, List.set_cons_zero, List.set_cons_succ]; first | done | exact rfl), ?_⟩) | (refine wpx_st hS rfl _ _ _ rfl rfl _ _ rfl ?_; (first | refine ⟨0, _, rfl, ?_⟩ | refine ⟨1, _, rfl, ?_⟩ | refine ⟨2, _, rfl, ?_⟩ | refine ⟨3, _, rfl, ?_⟩ | refine ⟨4, _, rfl, ?_⟩ | refine ⟨5, _, rfl, ?_⟩ | refine ⟨6, _, rfl, ?_⟩ | refine ⟨7, _, rfl, ?_⟩ | refine ⟨8, _, rfl, ?_⟩ | refine ⟨9, _, rfl, ?_⟩); refine ⟨_, (by first | exact shA rfl | exact shI rfl | exact shB rfl | exact shS rfl | exact shP rfl | exact shF rfl | exact shN rfl), _, siz_any2 rfl, (by exact rfl), (by exact rfl), (by exact rfl), ?_⟩; clear hS; intro _ hS; dsimp only [blit, List.set, List.cons_append, List.nil_append, Value.cells, List.toList_toArray] at hS))
  refine (onew_any hS m0).mono ?_
  rintro r u ⟨P, K, rfl, hSn⟩
  clear hS
  have hS := hSn
  clear hSn
  dsimp only [putL, List.set, List.cons_append, List.nil_append] at hS
  go_wp2_with fail
  refine (ends9_x hS 1 2 4 5 (Um.onew m0) (show 0 ≠ 3 by decide) (qb_new _) rfl rfl rfl rfl (by decide) (by decide) (by decide) (by decide) (by decide) (by decide) (unhide HR) (onew_ok (unhide HR) (unhide HW1)) 100 (by decide) A (unhide HH)).mono ?_
  rintro r u ⟨N, rfl, _, _, _, hOn, nt, q0, _, hSn⟩
  clear hS
  have hS := hSn
  clear hSn
  dsimp only [putL, List.set, List.cons_append, List.nil_append] at hS
  have HO := hide hOn
  clear hOn HW1
  go_wp2_with fail
  refine (oAnswer_any (hS.get 4 rfl)).mono ?_
  rintro r u ⟨rfl, hb⟩
  replace hS := hS.call hb
  clear hb
  go_wp2_with fail
  refine (krSlot_any A.th _ (unhide HO).th).mono ?_
  rintro r u ⟨rfl, rfl⟩
  rw [unhide HSV]
  go_wp2_with (first | (first | (refine wpx_box hS rfl _ _ rfl _ rfl _ (by intro _; simp only [Act.put, List.setIfInBounds_toArray, List.set_cons_zero, List.set_cons_succ]; first | done | exact rfl) ?_; clear hS; intro _ _ hS; dsimp only [blit, List.set, List.cons_append, List.nil_append, Value.cells, List.toList_toArray] at hS) | (refine wpx_alloc hS rfl _ rfl _ (zer_any2 rfl) _ (by intro _; simp only [Act.put, List.setIfInBounds_toArray, List.set_cons_zero, List.set_cons_succ]; first | done | exact rfl) ?_; clear hS; intro _ _ hS; dsimp only [blit, List.set, List.cons_append, List.nil_append, Value.cells, List.toList_toArray] at hS) | (refine wpx_ld hS rfl _ _ rfl _ _ rfl ?_; (first | refine ⟨0, _, rfl, ?_⟩ | refine ⟨1, _, rfl, ?_⟩ | refine ⟨2, _, rfl, ?_⟩ | refine ⟨3, _, rfl, ?_⟩ | refine ⟨4, _, rfl, ?_⟩ | refine ⟨5, _, rfl, ?_⟩ | refine ⟨6, _, rfl, ?_⟩ | refine ⟨7, _, rfl, ?_⟩ | refine ⟨8, _, rfl, ?_⟩ | refine ⟨9, _, rfl, ?_⟩); first | refine .inl ⟨_, one_any2 rfl, rfl, _, (by simp only [Act.put, List.setIfInBounds_toArray, List.set_cons_zero, List.set_cons_succ]; first | done | exact rfl), ?_⟩ | refine .inr ⟨_, _, row_any2 rfl, rfl, (by dsimp only [cutL, List.drop, List.take]; first | done | exact rfl), _, (by simp only [Act.put, List.setIfInBounds_toArray, List.set_cons_zero, List.set_cons_succ]; first | done | exact rfl), ?_⟩) | (refine wpx_st hS rfl _ _ _ rfl rfl _ _ rfl ?_; (first | refine ⟨0, _, rfl, ?_⟩ | refine ⟨1, _, rfl, ?_⟩ | refine ⟨2, _, rfl, ?_⟩ | refine ⟨3, _, rfl, ?_⟩ | refine ⟨4, _, rfl, ?_⟩ | refine ⟨5, _, rfl, ?_⟩ | refine ⟨6, _, rfl, ?_⟩ | refine ⟨7, _, rfl, ?_⟩ | refine ⟨8, _, rfl, ?_⟩ | refine ⟨9, _, rfl, ?_⟩); refine ⟨_, (by first | exact shA rfl | exact shI rfl | exact shB rfl | exact shS rfl | exact shP rfl | exact shF rfl | exact shN rfl), _, siz_any2 rfl, (by exact rfl), (by exact rfl), (by exact rfl), ?_⟩; clear hS; intro _ hS; dsimp only [blit, List.set, List.cons_append, List.nil_append, Value.cells, List.toList_toArray] at hS)) | (refine wpx_old hS rfl _ _ rfl _ _ rfl hg0 _ q1 (one_any2 rfl) _ (by simp only [Act.put, List.setIfInBounds_toArray, List.set_cons_zero, List.set_cons_succ]; first | done | exact rfl) ?_))
  refine (cells_x hS 1 2 rfl rfl (by decide) (unhide HR) (unhide HO).wd).mono ?_
  rintro r u ⟨X, rfl, hSn⟩
  clear hS
  have hS := hSn
  clear hSn
  dsimp only [putL, List.set, List.cons_append, List.nil_append] at hS
  go_wp2_with fail
  clear q1 y1 y2 y3
  obtain ⟨pn, hpn⟩ : ∃ pn : Int, pn = ((r0 : Nat) : Int) - 1 := ⟨_, rfl⟩
  have hpb : -1 ≤ pn ∧ pn ≤ 14 := by omega
  obtain ⟨hpb0, hpb1⟩ := hpb
  have HPN := hide (show Um.penN (ws 0) = pn by rw [hpn]; exact unhide HPE)
  rw [← hpn]
  clear hpn HPE
  obtain ⟨CF, rfl⟩ := nameB hS 0 rfl
  obtain ⟨R, rfl⟩ := nameB hS 3 rfl
  obtain ⟨u, rfl⟩ := nameW hS
  go_loopw [55] (fun i wr => ∃ j : Nat, j ≤ c.n ∧ i = .int .i64 j ∧ Below u.heap.size u wr) (fun i _ => c.n - (intOf i).toNat)
  case atStart => exact ⟨0, by omega, rfl, Below.refl _ _⟩
  case round =>
    obtain ⟨j, hj, rfl, hBr⟩ := hrel
    replace hS := hS.call hBr
    obtain ⟨wr, rfl⟩ := nameW hS
    by_cases hlt : j < c.n
    · have hlti : (j : Int) < (c.n : Int) := by omega
      have HS0 := hide hS
      have hE : Sx [] wr wr [] [(CF, [.int .i64 c.t, .int .i64 c.s, .int .i64 c.k, .int .i64 c.g, .int .u64 c.q]), (P, opnL K P nt q0 A), (X, rowW A.m.ws c.n)] := Sx.read wr _ (fun p hp => by
        rcases (by simpa using hp : p = (CF, _) ∨ p = (P, _) ∨ p = (X, _)) with rfl | rfl | rfl
        · exact hS.get 0 rfl
        · exact hS.get 4 rfl
        · exact hS.get 6 rfl)
      have c0 := (hS.get 6 rfl).cell j _ (rowW_get A.m.ws c.n j hlt)
      have cf0 := (hS.get 0 rfl).cell 0 _ rfl
      have cf1 := (hS.get 0 rfl).cell 1 _ rfl
      have cf2 := (hS.get 0 rfl).cell 2 _ rfl
      have cf3 := (hS.get 0 rfl).cell 3 _ rfl
      have cf4 := (hS.get 0 rfl).cell 4 _ rfl
      have q9 := (hS.bel.cell (p := ⟨g0, off + j, none⟩) hg0).trans ((unhide HX) j hlt)
      have hA2 : ∀ W, Calls Try.prog 31 #[(.agg #[.int .i64 (c.t), .int .i64 (c.s), .int .i64 (c.k), .int .i64 (c.g), .int .u64 (c.q : Int)]), .int .i64 (j : Int)] W fun e w' => e = .returned (.agg #[.int .i64 (Um.atK c.r c.t c.s c.k j), .int .i64 (Um.atO c.r c.t c.s c.k j)]) ∧ Below W.heap.size W w' := fun W => cAt_any c.t c.s c.k c.g c.q (j : Int) W (by omega)
      have hma := (unhide HW3) j
      rw [unhide HPN] at hma
      generalize Um.atK c.r c.t c.s c.k (j : Int) = ak at *
      generalize Um.atO c.r c.t c.s c.k (j : Int) = ao at *
      have HMA := hide hma
      have HA2 := hide hA2
      clear hA2 hma hS
      have hS := hE
      clear hE
      go_wp2_with (first | (first | (refine wpx_box hS rfl _ _ rfl _ rfl _ (by intro _; simp only [Act.put, List.setIfInBounds_toArray, List.set_cons_zero, List.set_cons_succ]; first | done | exact rfl) ?_; clear hS; intro _ _ hS; dsimp only [blit, List.set, List.cons_append, List.nil_append, Value.cells, List.toList_toArray] at hS) | (refine wpx_alloc hS rfl _ rfl _ (zer_any2 rfl) _ (by intro _; simp only [Act.put, List.setIfInBounds_toArray, List.set_cons_zero, List.set_cons_succ]; first | done | exact rfl) ?_; clear hS; intro _ _ hS; dsimp only [blit, List.set, List.cons_append, List.nil_append, Value.cells, List.toList_toArray] at hS) | (refine wpx_ld hS rfl _ _ rfl _ _ rfl ?_; (first | refine ⟨0, _, rfl, ?_⟩ | refine ⟨1, _, rfl, ?_⟩ | refine ⟨2, _, rfl, ?_⟩ | refine ⟨3, _, rfl, ?_⟩ | refine ⟨4, _, rfl, ?_⟩ | refine ⟨5, _, rfl, ?_⟩ | refine ⟨6, _, rfl, ?_⟩ | refine ⟨7, _, rfl, ?_⟩ | refine ⟨8, _, rfl, ?_⟩ | refine ⟨9, _, rfl, ?_⟩); first | refine .inl ⟨_, one_any2 rfl, rfl, _, (by simp only [Act.put, List.setIfInBounds_toArray, List.set_cons_zero, List.set_cons_succ]; first | done | exact rfl), ?_⟩ | refine .inr ⟨_, _, row_any2 rfl, rfl, (by dsimp only [cutL, List.drop, List.take]; first | done | exact rfl), _, (by simp only [Act.put, List.setIfInBounds_toArray, List.set_cons_zero, List.set_cons_succ]; first | done | exact rfl), ?_⟩) | (refine wpx_st hS rfl _ _ _ rfl rfl _ _ rfl ?_; (first | refine ⟨0, _, rfl, ?_⟩ | refine ⟨1, _, rfl, ?_⟩ | refine ⟨2, _, rfl, ?_⟩ | refine ⟨3, _, rfl, ?_⟩ | refine ⟨4, _, rfl, ?_⟩ | refine ⟨5, _, rfl, ?_⟩ | refine ⟨6, _, rfl, ?_⟩ | refine ⟨7, _, rfl, ?_⟩ | refine ⟨8, _, rfl, ?_⟩ | refine ⟨9, _, rfl, ?_⟩); refine ⟨_, (by first | exact shA rfl | exact shI rfl | exact shB rfl | exact shS rfl | exact shP rfl | exact shF rfl | exact shN rfl), _, siz_any2 rfl, (by exact rfl), (by exact rfl), (by exact rfl), ?_⟩; clear hS; intro _ hS; dsimp only [blit, List.set, List.cons_append, List.nil_append, Value.cells, List.toList_toArray] at hS)) | (refine wpx_load hS 0 rfl _ _ rfl _ _ rfl _ rfl _ (row_any2 rfl) rfl _ (by dsimp only [cutL, List.drop, List.take]; first | done | exact rfl) _ (by simp only [Act.put, List.setIfInBounds_toArray, List.set_cons_zero, List.set_cons_succ]; first | done | exact rfl) ?_))
      clear c0
      refine ((unhide HA2) _).mono ?_
      rintro r u2 ⟨rfl, hb⟩
      replace hS := hS.call hb
      clear hb cf0 cf1 cf2 cf3 cf4 HA2
      go_wp2_with (first | (refine wpx_box hS rfl _ _ rfl _ rfl _ (by intro _; simp only [Act.put, List.setIfInBounds_toArray, List.set_cons_zero, List.set_cons_succ]; first | done | exact rfl) ?_; clear hS; intro _ _ hS; dsimp only [blit, List.set, List.cons_append, List.nil_append, Value.cells, List.toList_toArray] at hS) | (refine wpx_alloc hS rfl _ rfl _ (zer_any2 rfl) _ (by intro _; simp only [Act.put, List.setIfInBounds_toArray, List.set_cons_zero, List.set_cons_succ]; first | done | exact rfl) ?_; clear hS; intro _ _ hS; dsimp only [blit, List.set, List.cons_append, List.nil_append, Value.cells, List.toList_toArray] at hS) | (refine wpx_ld hS rfl _ _ rfl _ _ rfl ?_; (first | refine ⟨0, _, rfl, ?_⟩ | refine ⟨1, _, rfl, ?_⟩ | refine ⟨2, _, rfl, ?_⟩ | refine ⟨3, _, rfl, ?_⟩ | refine ⟨4, _, rfl, ?_⟩ | refine ⟨5, _, rfl, ?_⟩ | refine ⟨6, _, rfl, ?_⟩ | refine ⟨7, _, rfl, ?_⟩ | refine ⟨8, _, rfl, ?_⟩ | refine ⟨9, _, rfl, ?_⟩); first | refine .inl ⟨_, one_any2 rfl, rfl, _, (by simp only [Act.put, List.setIfInBounds_toArray, List.set_cons_zero, List.set_cons_succ]; first | done | exact rfl), ?_⟩ | refine .inr ⟨_, _, row_any2 rfl, rfl, (by dsimp only [cutL, List.drop, List.take]; first | done | exact rfl), _, (by simp only [Act.put, List.setIfInBounds_toArray, List.set_cons_zero, List.set_cons_succ]; first | done | exact rfl), ?_⟩) | (refine wpx_st hS rfl _ _ _ rfl rfl _ _ rfl ?_; (first | refine ⟨0, _, rfl, ?_⟩ | refine ⟨1, _, rfl, ?_⟩ | refine ⟨2, _, rfl, ?_⟩ | refine ⟨3, _, rfl, ?_⟩ | refine ⟨4, _, rfl, ?_⟩ | refine ⟨5, _, rfl, ?_⟩ | refine ⟨6, _, rfl, ?_⟩ | refine ⟨7, _, rfl, ?_⟩ | refine ⟨8, _, rfl, ?_⟩ | refine ⟨9, _, rfl, ?_⟩); refine ⟨_, (by first | exact shA rfl | exact shI rfl | exact shB rfl | exact shS rfl | exact shP rfl | exact shF rfl | exact shN rfl), _, siz_any2 rfl, (by exact rfl), (by exact rfl), (by exact rfl), ?_⟩; clear hS; intro _ hS; dsimp only [blit, List.set, List.cons_append, List.nil_append, Value.cells, List.toList_toArray] at hS))
      obtain ⟨SP, rfl⟩ := nameB hS 0 rfl
      have HQ9 := hide q9
      clear q9
      by_cases g8 : ak = 4 ∧ ao = f
      · have t8 : ∀ w, (binOp .eql 56 (.agg #[.int .i64 ak, .int .i64 ao]) (.agg #[.int .i64 4, .int .i64 f])).run Try.prog w = .ok (.bool true) w := eqlSpot _ (Or.inl rfl) (r := true) (decide_eq_true (by omega)).symm
        obtain ⟨u7, rfl⟩ := nameW hS
        have HAN := hide (fun d os => Calls.regrown_of ((oAnswer_any ((hS.call (below_regrown u7 d os)).getE 1 rfl)).mono (fun r w' h => ⟨h.1.trans (by rw [unhide HTE]), h.2⟩)))
        have s0 := cell_regrown ((hS.get 0 rfl).cell 0 _ rfl)
        have s1 := cell_regrown ((hS.get 0 rfl).cell 1 _ rfl)
        have HSQ := hide hS
        clear hS
        refine wp_region_quiet_below (by kernel_rfl) (by kernel_rfl) ?_
        repeat (go_big_quiet_step (first | (go_at_call 18; exact (unhide HAN) _ _) | (go_at_call 20; exact Calls.regrown_of (of9_any _ _ _))))
        refine wpQuiet_nil ?_
        intro _ hw'
        obtain ⟨⟨dq, osq⟩, hw''⟩ := hw'
        subst hw''
        have hS := (unhide HSQ).call (below_regrown u7 dq osq)
        clear HSQ s0 s1 HAN
        generalize grow (redrawn u7 dq) osq = u6 at *
        go_wp2_with fail
        clear t8
        by_cases g1 : ak = 1 ∧ ao = 0
        · exfalso
          omega
        · have t1 : ∀ w, (binOp .eql 56 (.agg #[.int .i64 ak, .int .i64 ao]) (.agg #[.int .i64 1, .int .i64 0])).run Try.prog w = .ok (.bool false) w := eqlSpot _ (Or.inl rfl) (r := false) (decide_eq_false (by omega)).symm
          by_cases g2 : 0 ≤ pn
          · have p1 : decide (0 ≤ pn) = true := decide_eq_true g2
            by_cases g3 : ak = 4 ∧ ao = pn
            · have t4 : ∀ w, (binOp .eql 56 (.agg #[.int .i64 ak, .int .i64 ao]) (.agg #[.int .i64 4, .int .i64 pn])).run Try.prog w = .ok (.bool true) w := eqlSpot _ (Or.inl rfl) (r := true) (decide_eq_true (by omega)).symm
              by_cases hv : A.m.ws j = ws j
              · have hv2 : ((A.m.ws j : Int) != (ws j : Int)) = false := by rw [hv]; simp
                clear hv
                have s0 := cell_regrown ((hS.get 0 rfl).cell 0 _ rfl)
                have s1 := cell_regrown ((hS.get 0 rfl).cell 1 _ rfl)
                obtain ⟨u5, rfl⟩ := nameW hS
                have HSQ := hide hS
                clear hS
                refine wp_region_quiet_below (by kernel_rfl) (by kernel_rfl) ?_
                repeat (go_big_quiet_step (first | (go_at_call 20; exact Calls.regrown_of (of9_any _ _ _))))
                refine wpQuiet_nil ?_
                intro _ hw'
                obtain ⟨⟨dq, osq⟩, hw''⟩ := hw'
                subst hw''
                have hS := (unhide HSQ).call (below_regrown u5 dq osq)
                clear HSQ s0 s1 
                generalize grow (redrawn u5 dq) osq = u6 at *
                have hBx := hS.bel
                have q7 := (hBx.cell (p := ⟨g0, off + j, none⟩) (Nat.lt_of_lt_of_le hg0 (unhide HS0).size)).trans (unhide HQ9)
                have hB9 := hBr.trans (hBx.mono hBr.size)
                clear hS hBx
                go_wp2
                exact ⟨⟨j + 1, by omega, by go_num, hB9⟩, by simp [intOf]; omega⟩
              · have hv1 : ¬ (A.m.ws j : Int) = (ws j : Int) := by omega
                have hv2 : ((A.m.ws j : Int) != (ws j : Int)) = true := by simpa using hv1
                clear hv
                have s0 := cell_regrown ((hS.get 0 rfl).cell 0 _ rfl)
                have s1 := cell_regrown ((hS.get 0 rfl).cell 1 _ rfl)
                obtain ⟨u5, rfl⟩ := nameW hS
                have HSQ := hide hS
                clear hS
                refine wp_region_quiet_below (by kernel_rfl) (by kernel_rfl) ?_
                repeat (go_big_quiet_step (first | (go_at_call 20; exact Calls.regrown_of (of9_any _ _ _))))
                refine wpQuiet_nil ?_
                intro _ hw'
                obtain ⟨⟨dq, osq⟩, hw''⟩ := hw'
                subst hw''
                have hS := (unhide HSQ).call (below_regrown u5 dq osq)
                clear HSQ s0 s1 
                generalize grow (redrawn u5 dq) osq = u6 at *
                have hBx := hS.bel
                have q7 := (hBx.cell (p := ⟨g0, off + j, none⟩) (Nat.lt_of_lt_of_le hg0 (unhide HS0).size)).trans (unhide HQ9)
                have hB9 := hBr.trans (hBx.mono hBr.size)
                clear hS hBx
                go_wp2
                exact ⟨⟨j + 1, by omega, by go_num, hB9⟩, by simp [intOf]; omega⟩
            · have t4 : ∀ w, (binOp .eql 56 (.agg #[.int .i64 ak, .int .i64 ao]) (.agg #[.int .i64 4, .int .i64 pn])).run Try.prog w = .ok (.bool false) w := eqlSpot _ (Or.inl rfl) (r := false) (decide_eq_false (by omega)).symm
              by_cases g4 : ak = 6 ∧ ao = pn
              · exfalso
                omega
              · have t6 : ∀ w, (binOp .eql 56 (.agg #[.int .i64 ak, .int .i64 ao]) (.agg #[.int .i64 6, .int .i64 pn])).run Try.prog w = .ok (.bool false) w := eqlSpot _ (Or.inl rfl) (r := false) (decide_eq_false (by omega)).symm
                by_cases hv : A.m.ws j = ws j
                · have hv2 : ((A.m.ws j : Int) != (ws j : Int)) = false := by rw [hv]; simp
                  clear hv
                  have s0 := cell_regrown ((hS.get 0 rfl).cell 0 _ rfl)
                  have s1 := cell_regrown ((hS.get 0 rfl).cell 1 _ rfl)
                  obtain ⟨u5, rfl⟩ := nameW hS
                  have HSQ := hide hS
                  clear hS
                  refine wp_region_quiet_below (by kernel_rfl) (by kernel_rfl) ?_
                  repeat (go_big_quiet_step (first | (go_at_call 20; exact Calls.regrown_of (of9_any _ _ _))))
                  refine wpQuiet_nil ?_
                  intro _ hw'
                  obtain ⟨⟨dq, osq⟩, hw''⟩ := hw'
                  subst hw''
                  have hS := (unhide HSQ).call (below_regrown u5 dq osq)
                  clear HSQ s0 s1 
                  generalize grow (redrawn u5 dq) osq = u6 at *
                  have hBx := hS.bel
                  have q7 := (hBx.cell (p := ⟨g0, off + j, none⟩) (Nat.lt_of_lt_of_le hg0 (unhide HS0).size)).trans (unhide HQ9)
                  have hB9 := hBr.trans (hBx.mono hBr.size)
                  clear hS hBx
                  go_wp2
                  exact ⟨⟨j + 1, by omega, by go_num, hB9⟩, by simp [intOf]; omega⟩
                · have hv1 : ¬ (A.m.ws j : Int) = (ws j : Int) := by omega
                  have hv2 : ((A.m.ws j : Int) != (ws j : Int)) = true := by simpa using hv1
                  clear hv
                  have s0 := cell_regrown ((hS.get 0 rfl).cell 0 _ rfl)
                  have s1 := cell_regrown ((hS.get 0 rfl).cell 1 _ rfl)
                  obtain ⟨u5, rfl⟩ := nameW hS
                  have HSQ := hide hS
                  clear hS
                  refine wp_region_quiet_below (by kernel_rfl) (by kernel_rfl) ?_
                  repeat (go_big_quiet_step (first | (go_at_call 20; exact Calls.regrown_of (of9_any _ _ _))))
                  refine wpQuiet_nil ?_
                  intro _ hw'
                  obtain ⟨⟨dq, osq⟩, hw''⟩ := hw'
                  subst hw''
                  have hS := (unhide HSQ).call (below_regrown u5 dq osq)
                  clear HSQ s0 s1 
                  generalize grow (redrawn u5 dq) osq = u6 at *
                  have hBx := hS.bel
                  have q7 := (hBx.cell (p := ⟨g0, off + j, none⟩) (Nat.lt_of_lt_of_le hg0 (unhide HS0).size)).trans (unhide HQ9)
                  have hB9 := hBr.trans (hBx.mono hBr.size)
                  clear hS hBx
                  go_wp2
                  exact ⟨⟨j + 1, by omega, by go_num, hB9⟩, by simp [intOf]; omega⟩
          · have p1 : decide (0 ≤ pn) = false := decide_eq_false g2
            by_cases hv : A.m.ws j = ws j
            · have hv2 : ((A.m.ws j : Int) != (ws j : Int)) = false := by rw [hv]; simp
              clear hv
              have s0 := cell_regrown ((hS.get 0 rfl).cell 0 _ rfl)
              have s1 := cell_regrown ((hS.get 0 rfl).cell 1 _ rfl)
              obtain ⟨u5, rfl⟩ := nameW hS
              have HSQ := hide hS
              clear hS
              refine wp_region_quiet_below (by kernel_rfl) (by kernel_rfl) ?_
              repeat (go_big_quiet_step (first | (go_at_call 20; exact Calls.regrown_of (of9_any _ _ _))))
              refine wpQuiet_nil ?_
              intro _ hw'
              obtain ⟨⟨dq, osq⟩, hw''⟩ := hw'
              subst hw''
              have hS := (unhide HSQ).call (below_regrown u5 dq osq)
              clear HSQ s0 s1 
              generalize grow (redrawn u5 dq) osq = u6 at *
              have hBx := hS.bel
              have q7 := (hBx.cell (p := ⟨g0, off + j, none⟩) (Nat.lt_of_lt_of_le hg0 (unhide HS0).size)).trans (unhide HQ9)
              have hB9 := hBr.trans (hBx.mono hBr.size)
              clear hS hBx
              go_wp2
              exact ⟨⟨j + 1, by omega, by go_num, hB9⟩, by simp [intOf]; omega⟩
            · have hv1 : ¬ (A.m.ws j : Int) = (ws j : Int) := by omega
              have hv2 : ((A.m.ws j : Int) != (ws j : Int)) = true := by simpa using hv1
              clear hv
              have s0 := cell_regrown ((hS.get 0 rfl).cell 0 _ rfl)
              have s1 := cell_regrown ((hS.get 0 rfl).cell 1 _ rfl)
              obtain ⟨u5, rfl⟩ := nameW hS
              have HSQ := hide hS
              clear hS
              refine wp_region_quiet_below (by kernel_rfl) (by kernel_rfl) ?_
              repeat (go_big_quiet_step (first | (go_at_call 20; exact Calls.regrown_of (of9_any _ _ _))))
              refine wpQuiet_nil ?_
              intro _ hw'
              obtain ⟨⟨dq, osq⟩, hw''⟩ := hw'
              subst hw''
              have hS := (unhide HSQ).call (below_regrown u5 dq osq)
              clear HSQ s0 s1 
              generalize grow (redrawn u5 dq) osq = u6 at *
              have hBx := hS.bel
              have q7 := (hBx.cell (p := ⟨g0, off + j, none⟩) (Nat.lt_of_lt_of_le hg0 (unhide HS0).size)).trans (unhide HQ9)
              have hB9 := hBr.trans (hBx.mono hBr.size)
              clear hS hBx
              go_wp2
              exact ⟨⟨j + 1, by omega, by go_num, hB9⟩, by simp [intOf]; omega⟩
      · have t8 : ∀ w, (binOp .eql 56 (.agg #[.int .i64 ak, .int .i64 ao]) (.agg #[.int .i64 4, .int .i64 f])).run Try.prog w = .ok (.bool false) w := eqlSpot _ (Or.inl rfl) (r := false) (decide_eq_false (by omega)).symm
        by_cases g9 : ak = 5 ∧ ao = f
        · have t9 : ∀ w, (binOp .eql 56 (.agg #[.int .i64 ak, .int .i64 ao]) (.agg #[.int .i64 5, .int .i64 f])).run Try.prog w = .ok (.bool true) w := eqlSpot _ (Or.inl rfl) (r := true) (decide_eq_true (by omega)).symm
          obtain ⟨u7, rfl⟩ := nameW hS
          have HAN := hide (fun d os => Calls.regrown_of ((oAnswer_any ((hS.call (below_regrown u7 d os)).getE 1 rfl)).mono (fun r w' h => ⟨h.1.trans (by rw [unhide HTE]), h.2⟩)))
          have s0 := cell_regrown ((hS.get 0 rfl).cell 0 _ rfl)
          have s1 := cell_regrown ((hS.get 0 rfl).cell 1 _ rfl)
          have HSQ := hide hS
          clear hS
          refine wp_region_quiet_below (by kernel_rfl) (by kernel_rfl) ?_
          repeat (go_big_quiet_step (first | (go_at_call 18; exact (unhide HAN) _ _) | (go_at_call 20; exact Calls.regrown_of (of9_any _ _ _))))
          refine wpQuiet_nil ?_
          intro _ hw'
          obtain ⟨⟨dq, osq⟩, hw''⟩ := hw'
          subst hw''
          have hS := (unhide HSQ).call (below_regrown u7 dq osq)
          clear HSQ s0 s1 HAN
          generalize grow (redrawn u7 dq) osq = u6 at *
          go_wp2_with fail
          clear t8 t9
          by_cases g1 : ak = 1 ∧ ao = 0
          · exfalso
            omega
          · have t1 : ∀ w, (binOp .eql 56 (.agg #[.int .i64 ak, .int .i64 ao]) (.agg #[.int .i64 1, .int .i64 0])).run Try.prog w = .ok (.bool false) w := eqlSpot _ (Or.inl rfl) (r := false) (decide_eq_false (by omega)).symm
            by_cases g2 : 0 ≤ pn
            · have p1 : decide (0 ≤ pn) = true := decide_eq_true g2
              by_cases g3 : ak = 4 ∧ ao = pn
              · have t4 : ∀ w, (binOp .eql 56 (.agg #[.int .i64 ak, .int .i64 ao]) (.agg #[.int .i64 4, .int .i64 pn])).run Try.prog w = .ok (.bool true) w := eqlSpot _ (Or.inl rfl) (r := true) (decide_eq_true (by omega)).symm
                by_cases hv : A.m.ws j = ws j
                · have hv2 : ((A.m.ws j : Int) != (ws j : Int)) = false := by rw [hv]; simp
                  clear hv
                  have s0 := cell_regrown ((hS.get 0 rfl).cell 0 _ rfl)
                  have s1 := cell_regrown ((hS.get 0 rfl).cell 1 _ rfl)
                  obtain ⟨u5, rfl⟩ := nameW hS
                  have HSQ := hide hS
                  clear hS
                  refine wp_region_quiet_below (by kernel_rfl) (by kernel_rfl) ?_
                  repeat (go_big_quiet_step (first | (go_at_call 20; exact Calls.regrown_of (of9_any _ _ _))))
                  refine wpQuiet_nil ?_
                  intro _ hw'
                  obtain ⟨⟨dq, osq⟩, hw''⟩ := hw'
                  subst hw''
                  have hS := (unhide HSQ).call (below_regrown u5 dq osq)
                  clear HSQ s0 s1 
                  generalize grow (redrawn u5 dq) osq = u6 at *
                  have hBx := hS.bel
                  have q7 := (hBx.cell (p := ⟨g0, off + j, none⟩) (Nat.lt_of_lt_of_le hg0 (unhide HS0).size)).trans (unhide HQ9)
                  have hB9 := hBr.trans (hBx.mono hBr.size)
                  clear hS hBx
                  go_wp2
                  exact ⟨⟨j + 1, by omega, by go_num, hB9⟩, by simp [intOf]; omega⟩
                · have hv1 : ¬ (A.m.ws j : Int) = (ws j : Int) := by omega
                  have hv2 : ((A.m.ws j : Int) != (ws j : Int)) = true := by simpa using hv1
                  clear hv
                  have s0 := cell_regrown ((hS.get 0 rfl).cell 0 _ rfl)
                  have s1 := cell_regrown ((hS.get 0 rfl).cell 1 _ rfl)
                  obtain ⟨u5, rfl⟩ := nameW hS
                  have HSQ := hide hS
                  clear hS
                  refine wp_region_quiet_below (by kernel_rfl) (by kernel_rfl) ?_
                  repeat (go_big_quiet_step (first | (go_at_call 20; exact Calls.regrown_of (of9_any _ _ _))))
                  refine wpQuiet_nil ?_
                  intro _ hw'
                  obtain ⟨⟨dq, osq⟩, hw''⟩ := hw'
                  subst hw''
                  have hS := (unhide HSQ).call (below_regrown u5 dq osq)
                  clear HSQ s0 s1 
                  generalize grow (redrawn u5 dq) osq = u6 at *
                  have hBx := hS.bel
                  have q7 := (hBx.cell (p := ⟨g0, off + j, none⟩) (Nat.lt_of_lt_of_le hg0 (unhide HS0).size)).trans (unhide HQ9)
                  have hB9 := hBr.trans (hBx.mono hBr.size)
                  clear hS hBx
                  go_wp2
                  exact ⟨⟨j + 1, by omega, by go_num, hB9⟩, by simp [intOf]; omega⟩
              · have t4 : ∀ w, (binOp .eql 56 (.agg #[.int .i64 ak, .int .i64 ao]) (.agg #[.int .i64 4, .int .i64 pn])).run Try.prog w = .ok (.bool false) w := eqlSpot _ (Or.inl rfl) (r := false) (decide_eq_false (by omega)).symm
                by_cases g4 : ak = 6 ∧ ao = pn
                · exfalso
                  omega
                · have t6 : ∀ w, (binOp .eql 56 (.agg #[.int .i64 ak, .int .i64 ao]) (.agg #[.int .i64 6, .int .i64 pn])).run Try.prog w = .ok (.bool false) w := eqlSpot _ (Or.inl rfl) (r := false) (decide_eq_false (by omega)).symm
                  by_cases hv : A.m.ws j = ws j
                  · have hv2 : ((A.m.ws j : Int) != (ws j : Int)) = false := by rw [hv]; simp
                    clear hv
                    have s0 := cell_regrown ((hS.get 0 rfl).cell 0 _ rfl)
                    have s1 := cell_regrown ((hS.get 0 rfl).cell 1 _ rfl)
                    obtain ⟨u5, rfl⟩ := nameW hS
                    have HSQ := hide hS
                    clear hS
                    refine wp_region_quiet_below (by kernel_rfl) (by kernel_rfl) ?_
                    repeat (go_big_quiet_step (first | (go_at_call 20; exact Calls.regrown_of (of9_any _ _ _))))
                    refine wpQuiet_nil ?_
                    intro _ hw'
                    obtain ⟨⟨dq, osq⟩, hw''⟩ := hw'
                    subst hw''
                    have hS := (unhide HSQ).call (below_regrown u5 dq osq)
                    clear HSQ s0 s1 
                    generalize grow (redrawn u5 dq) osq = u6 at *
                    have hBx := hS.bel
                    have q7 := (hBx.cell (p := ⟨g0, off + j, none⟩) (Nat.lt_of_lt_of_le hg0 (unhide HS0).size)).trans (unhide HQ9)
                    have hB9 := hBr.trans (hBx.mono hBr.size)
                    clear hS hBx
                    go_wp2
                    exact ⟨⟨j + 1, by omega, by go_num, hB9⟩, by simp [intOf]; omega⟩
                  · have hv1 : ¬ (A.m.ws j : Int) = (ws j : Int) := by omega
                    have hv2 : ((A.m.ws j : Int) != (ws j : Int)) = true := by simpa using hv1
                    clear hv
                    have s0 := cell_regrown ((hS.get 0 rfl).cell 0 _ rfl)
                    have s1 := cell_regrown ((hS.get 0 rfl).cell 1 _ rfl)
                    obtain ⟨u5, rfl⟩ := nameW hS
                    have HSQ := hide hS
                    clear hS
                    refine wp_region_quiet_below (by kernel_rfl) (by kernel_rfl) ?_
                    repeat (go_big_quiet_step (first | (go_at_call 20; exact Calls.regrown_of (of9_any _ _ _))))
                    refine wpQuiet_nil ?_
                    intro _ hw'
                    obtain ⟨⟨dq, osq⟩, hw''⟩ := hw'
                    subst hw''
                    have hS := (unhide HSQ).call (below_regrown u5 dq osq)
                    clear HSQ s0 s1 
                    generalize grow (redrawn u5 dq) osq = u6 at *
                    have hBx := hS.bel
                    have q7 := (hBx.cell (p := ⟨g0, off + j, none⟩) (Nat.lt_of_lt_of_le hg0 (unhide HS0).size)).trans (unhide HQ9)
                    have hB9 := hBr.trans (hBx.mono hBr.size)
                    clear hS hBx
                    go_wp2
                    exact ⟨⟨j + 1, by omega, by go_num, hB9⟩, by simp [intOf]; omega⟩
            · have p1 : decide (0 ≤ pn) = false := decide_eq_false g2
              by_cases hv : A.m.ws j = ws j
              · have hv2 : ((A.m.ws j : Int) != (ws j : Int)) = false := by rw [hv]; simp
                clear hv
                have s0 := cell_regrown ((hS.get 0 rfl).cell 0 _ rfl)
                have s1 := cell_regrown ((hS.get 0 rfl).cell 1 _ rfl)
                obtain ⟨u5, rfl⟩ := nameW hS
                have HSQ := hide hS
                clear hS
                refine wp_region_quiet_below (by kernel_rfl) (by kernel_rfl) ?_
                repeat (go_big_quiet_step (first | (go_at_call 20; exact Calls.regrown_of (of9_any _ _ _))))
                refine wpQuiet_nil ?_
                intro _ hw'
                obtain ⟨⟨dq, osq⟩, hw''⟩ := hw'
                subst hw''
                have hS := (unhide HSQ).call (below_regrown u5 dq osq)
                clear HSQ s0 s1 
                generalize grow (redrawn u5 dq) osq = u6 at *
                have hBx := hS.bel
                have q7 := (hBx.cell (p := ⟨g0, off + j, none⟩) (Nat.lt_of_lt_of_le hg0 (unhide HS0).size)).trans (unhide HQ9)
                have hB9 := hBr.trans (hBx.mono hBr.size)
                clear hS hBx
                go_wp2
                exact ⟨⟨j + 1, by omega, by go_num, hB9⟩, by simp [intOf]; omega⟩
              · have hv1 : ¬ (A.m.ws j : Int) = (ws j : Int) := by omega
                have hv2 : ((A.m.ws j : Int) != (ws j : Int)) = true := by simpa using hv1
                clear hv
                have s0 := cell_regrown ((hS.get 0 rfl).cell 0 _ rfl)
                have s1 := cell_regrown ((hS.get 0 rfl).cell 1 _ rfl)
                obtain ⟨u5, rfl⟩ := nameW hS
                have HSQ := hide hS
                clear hS
                refine wp_region_quiet_below (by kernel_rfl) (by kernel_rfl) ?_
                repeat (go_big_quiet_step (first | (go_at_call 20; exact Calls.regrown_of (of9_any _ _ _))))
                refine wpQuiet_nil ?_
                intro _ hw'
                obtain ⟨⟨dq, osq⟩, hw''⟩ := hw'
                subst hw''
                have hS := (unhide HSQ).call (below_regrown u5 dq osq)
                clear HSQ s0 s1 
                generalize grow (redrawn u5 dq) osq = u6 at *
                have hBx := hS.bel
                have q7 := (hBx.cell (p := ⟨g0, off + j, none⟩) (Nat.lt_of_lt_of_le hg0 (unhide HS0).size)).trans (unhide HQ9)
                have hB9 := hBr.trans (hBx.mono hBr.size)
                clear hS hBx
                go_wp2
                exact ⟨⟨j + 1, by omega, by go_num, hB9⟩, by simp [intOf]; omega⟩
        · have t9 : ∀ w, (binOp .eql 56 (.agg #[.int .i64 ak, .int .i64 ao]) (.agg #[.int .i64 5, .int .i64 f])).run Try.prog w = .ok (.bool false) w := eqlSpot _ (Or.inl rfl) (r := false) (decide_eq_false (by omega)).symm
          obtain ⟨u7, rfl⟩ := nameW hS
          have HAN := hide (fun d os => Calls.regrown_of ((oAnswer_any ((hS.call (below_regrown u7 d os)).getE 1 rfl)).mono (fun r w' h => ⟨h.1.trans (by rw [unhide HTE]), h.2⟩)))
          have s0 := cell_regrown ((hS.get 0 rfl).cell 0 _ rfl)
          have s1 := cell_regrown ((hS.get 0 rfl).cell 1 _ rfl)
          have HSQ := hide hS
          clear hS
          refine wp_region_quiet_below (by kernel_rfl) (by kernel_rfl) ?_
          repeat (go_big_quiet_step (first | (go_at_call 18; exact (unhide HAN) _ _) | (go_at_call 20; exact Calls.regrown_of (of9_any _ _ _))))
          refine wpQuiet_nil ?_
          intro _ hw'
          obtain ⟨⟨dq, osq⟩, hw''⟩ := hw'
          subst hw''
          have hS := (unhide HSQ).call (below_regrown u7 dq osq)
          clear HSQ s0 s1 HAN
          generalize grow (redrawn u7 dq) osq = u6 at *
          go_wp2_with fail
          clear t8 t9
          by_cases g1 : ak = 1 ∧ ao = 0
          · have t1 : ∀ w, (binOp .eql 56 (.agg #[.int .i64 ak, .int .i64 ao]) (.agg #[.int .i64 1, .int .i64 0])).run Try.prog w = .ok (.bool true) w := eqlSpot _ (Or.inl rfl) (r := true) (decide_eq_true (by omega)).symm
            by_cases hv : A.m.ws j = ws j
            · have hv2 : ((A.m.ws j : Int) != (ws j : Int)) = false := by rw [hv]; simp
              clear hv
              have s0 := cell_regrown ((hS.get 0 rfl).cell 0 _ rfl)
              have s1 := cell_regrown ((hS.get 0 rfl).cell 1 _ rfl)
              obtain ⟨u5, rfl⟩ := nameW hS
              have HSQ := hide hS
              clear hS
              refine wp_region_quiet_below (by kernel_rfl) (by kernel_rfl) ?_
              repeat (go_big_quiet_step (first | (go_at_call 20; exact Calls.regrown_of (of9_any _ _ _))))
              refine wpQuiet_nil ?_
              intro _ hw'
              obtain ⟨⟨dq, osq⟩, hw''⟩ := hw'
              subst hw''
              have hS := (unhide HSQ).call (below_regrown u5 dq osq)
              clear HSQ s0 s1 
              generalize grow (redrawn u5 dq) osq = u6 at *
              have hBx := hS.bel
              have q7 := (hBx.cell (p := ⟨g0, off + j, none⟩) (Nat.lt_of_lt_of_le hg0 (unhide HS0).size)).trans (unhide HQ9)
              have hB9 := hBr.trans (hBx.mono hBr.size)
              clear hS hBx
              go_wp2
              exact ⟨⟨j + 1, by omega, by go_num, hB9⟩, by simp [intOf]; omega⟩
            · have hv1 : ¬ (A.m.ws j : Int) = (ws j : Int) := by omega
              have hv2 : ((A.m.ws j : Int) != (ws j : Int)) = true := by simpa using hv1
              clear hv
              have s0 := cell_regrown ((hS.get 0 rfl).cell 0 _ rfl)
              have s1 := cell_regrown ((hS.get 0 rfl).cell 1 _ rfl)
              obtain ⟨u5, rfl⟩ := nameW hS
              have HSQ := hide hS
              clear hS
              refine wp_region_quiet_below (by kernel_rfl) (by kernel_rfl) ?_
              repeat (go_big_quiet_step (first | (go_at_call 20; exact Calls.regrown_of (of9_any _ _ _))))
              refine wpQuiet_nil ?_
              intro _ hw'
              obtain ⟨⟨dq, osq⟩, hw''⟩ := hw'
              subst hw''
              have hS := (unhide HSQ).call (below_regrown u5 dq osq)
              clear HSQ s0 s1 
              generalize grow (redrawn u5 dq) osq = u6 at *
              have hBx := hS.bel
              have q7 := (hBx.cell (p := ⟨g0, off + j, none⟩) (Nat.lt_of_lt_of_le hg0 (unhide HS0).size)).trans (unhide HQ9)
              have hB9 := hBr.trans (hBx.mono hBr.size)
              clear hS hBx
              go_wp2
              exact ⟨⟨j + 1, by omega, by go_num, hB9⟩, by simp [intOf]; omega⟩
          · have t1 : ∀ w, (binOp .eql 56 (.agg #[.int .i64 ak, .int .i64 ao]) (.agg #[.int .i64 1, .int .i64 0])).run Try.prog w = .ok (.bool false) w := eqlSpot _ (Or.inl rfl) (r := false) (decide_eq_false (by omega)).symm
            by_cases g2 : 0 ≤ pn
            · have p1 : decide (0 ≤ pn) = true := decide_eq_true g2
              by_cases g3 : ak = 4 ∧ ao = pn
              · have t4 : ∀ w, (binOp .eql 56 (.agg #[.int .i64 ak, .int .i64 ao]) (.agg #[.int .i64 4, .int .i64 pn])).run Try.prog w = .ok (.bool true) w := eqlSpot _ (Or.inl rfl) (r := true) (decide_eq_true (by omega)).symm
                by_cases hv : A.m.ws j = ws j
                · have hv2 : ((A.m.ws j : Int) != (ws j : Int)) = false := by rw [hv]; simp
                  clear hv
                  have s0 := cell_regrown ((hS.get 0 rfl).cell 0 _ rfl)
                  have s1 := cell_regrown ((hS.get 0 rfl).cell 1 _ rfl)
                  obtain ⟨u5, rfl⟩ := nameW hS
                  have HSQ := hide hS
                  clear hS
                  refine wp_region_quiet_below (by kernel_rfl) (by kernel_rfl) ?_
                  repeat (go_big_quiet_step (first | (go_at_call 20; exact Calls.regrown_of (of9_any _ _ _))))
                  refine wpQuiet_nil ?_
                  intro _ hw'
                  obtain ⟨⟨dq, osq⟩, hw''⟩ := hw'
                  subst hw''
                  have hS := (unhide HSQ).call (below_regrown u5 dq osq)
                  clear HSQ s0 s1 
                  generalize grow (redrawn u5 dq) osq = u6 at *
                  have hBx := hS.bel
                  have q7 := (hBx.cell (p := ⟨g0, off + j, none⟩) (Nat.lt_of_lt_of_le hg0 (unhide HS0).size)).trans (unhide HQ9)
                  have hB9 := hBr.trans (hBx.mono hBr.size)
                  clear hS hBx
                  go_wp2
                  exact ⟨⟨j + 1, by omega, by go_num, hB9⟩, by simp [intOf]; omega⟩
                · have hv1 : ¬ (A.m.ws j : Int) = (ws j : Int) := by omega
                  have hv2 : ((A.m.ws j : Int) != (ws j : Int)) = true := by simpa using hv1
                  clear hv
                  have s0 := cell_regrown ((hS.get 0 rfl).cell 0 _ rfl)
                  have s1 := cell_regrown ((hS.get 0 rfl).cell 1 _ rfl)
                  obtain ⟨u5, rfl⟩ := nameW hS
                  have HSQ := hide hS
                  clear hS
                  refine wp_region_quiet_below (by kernel_rfl) (by kernel_rfl) ?_
                  repeat (go_big_quiet_step (first | (go_at_call 20; exact Calls.regrown_of (of9_any _ _ _))))
                  refine wpQuiet_nil ?_
                  intro _ hw'
                  obtain ⟨⟨dq, osq⟩, hw''⟩ := hw'
                  subst hw''
                  have hS := (unhide HSQ).call (below_regrown u5 dq osq)
                  clear HSQ s0 s1 
                  generalize grow (redrawn u5 dq) osq = u6 at *
                  have hBx := hS.bel
                  have q7 := (hBx.cell (p := ⟨g0, off + j, none⟩) (Nat.lt_of_lt_of_le hg0 (unhide HS0).size)).trans (unhide HQ9)
                  have hB9 := hBr.trans (hBx.mono hBr.size)
                  clear hS hBx
                  go_wp2
                  exact ⟨⟨j + 1, by omega, by go_num, hB9⟩, by simp [intOf]; omega⟩
              · have t4 : ∀ w, (binOp .eql 56 (.agg #[.int .i64 ak, .int .i64 ao]) (.agg #[.int .i64 4, .int .i64 pn])).run Try.prog w = .ok (.bool false) w := eqlSpot _ (Or.inl rfl) (r := false) (decide_eq_false (by omega)).symm
                by_cases g4 : ak = 6 ∧ ao = pn
                · have t6 : ∀ w, (binOp .eql 56 (.agg #[.int .i64 ak, .int .i64 ao]) (.agg #[.int .i64 6, .int .i64 pn])).run Try.prog w = .ok (.bool true) w := eqlSpot _ (Or.inl rfl) (r := true) (decide_eq_true (by omega)).symm
                  by_cases hv : A.m.ws j = ws j
                  · have hv2 : ((A.m.ws j : Int) != (ws j : Int)) = false := by rw [hv]; simp
                    clear hv
                    have s0 := cell_regrown ((hS.get 0 rfl).cell 0 _ rfl)
                    have s1 := cell_regrown ((hS.get 0 rfl).cell 1 _ rfl)
                    obtain ⟨u5, rfl⟩ := nameW hS
                    have HSQ := hide hS
                    clear hS
                    refine wp_region_quiet_below (by kernel_rfl) (by kernel_rfl) ?_
                    repeat (go_big_quiet_step (first | (go_at_call 20; exact Calls.regrown_of (of9_any _ _ _))))
                    refine wpQuiet_nil ?_
                    intro _ hw'
                    obtain ⟨⟨dq, osq⟩, hw''⟩ := hw'
                    subst hw''
                    have hS := (unhide HSQ).call (below_regrown u5 dq osq)
                    clear HSQ s0 s1 
                    generalize grow (redrawn u5 dq) osq = u6 at *
                    have hBx := hS.bel
                    have q7 := (hBx.cell (p := ⟨g0, off + j, none⟩) (Nat.lt_of_lt_of_le hg0 (unhide HS0).size)).trans (unhide HQ9)
                    have hB9 := hBr.trans (hBx.mono hBr.size)
                    clear hS hBx
                    go_wp2
                    exact ⟨⟨j + 1, by omega, by go_num, hB9⟩, by simp [intOf]; omega⟩
                  · have hv1 : ¬ (A.m.ws j : Int) = (ws j : Int) := by omega
                    have hv2 : ((A.m.ws j : Int) != (ws j : Int)) = true := by simpa using hv1
                    clear hv
                    have s0 := cell_regrown ((hS.get 0 rfl).cell 0 _ rfl)
                    have s1 := cell_regrown ((hS.get 0 rfl).cell 1 _ rfl)
                    obtain ⟨u5, rfl⟩ := nameW hS
                    have HSQ := hide hS
                    clear hS
                    refine wp_region_quiet_below (by kernel_rfl) (by kernel_rfl) ?_
                    repeat (go_big_quiet_step (first | (go_at_call 20; exact Calls.regrown_of (of9_any _ _ _))))
                    refine wpQuiet_nil ?_
                    intro _ hw'
                    obtain ⟨⟨dq, osq⟩, hw''⟩ := hw'
                    subst hw''
                    have hS := (unhide HSQ).call (below_regrown u5 dq osq)
                    clear HSQ s0 s1 
                    generalize grow (redrawn u5 dq) osq = u6 at *
                    have hBx := hS.bel
                    have q7 := (hBx.cell (p := ⟨g0, off + j, none⟩) (Nat.lt_of_lt_of_le hg0 (unhide HS0).size)).trans (unhide HQ9)
                    have hB9 := hBr.trans (hBx.mono hBr.size)
                    clear hS hBx
                    go_wp2
                    exact ⟨⟨j + 1, by omega, by go_num, hB9⟩, by simp [intOf]; omega⟩
                · have t6 : ∀ w, (binOp .eql 56 (.agg #[.int .i64 ak, .int .i64 ao]) (.agg #[.int .i64 6, .int .i64 pn])).run Try.prog w = .ok (.bool false) w := eqlSpot _ (Or.inl rfl) (r := false) (decide_eq_false (by omega)).symm
                  have hv : A.m.ws j = ws j := by
                    rcases Nat.decEq (A.m.ws j) (ws j) with q | q
                    · exfalso
                      have := (unhide HMA) q
                      omega
                    · exact q
                  have hv2 : ((A.m.ws j : Int) != (ws j : Int)) = false := by rw [hv]; simp
                  clear hv
                  have s0 := cell_regrown ((hS.get 0 rfl).cell 0 _ rfl)
                  have s1 := cell_regrown ((hS.get 0 rfl).cell 1 _ rfl)
                  obtain ⟨u5, rfl⟩ := nameW hS
                  have HSQ := hide hS
                  clear hS
                  refine wp_region_quiet_below (by kernel_rfl) (by kernel_rfl) ?_
                  repeat (go_big_quiet_step (first | (go_at_call 20; exact Calls.regrown_of (of9_any _ _ _))))
                  refine wpQuiet_nil ?_
                  intro _ hw'
                  obtain ⟨⟨dq, osq⟩, hw''⟩ := hw'
                  subst hw''
                  have hS := (unhide HSQ).call (below_regrown u5 dq osq)
                  clear HSQ s0 s1 
                  generalize grow (redrawn u5 dq) osq = u6 at *
                  have hBx := hS.bel
                  have q7 := (hBx.cell (p := ⟨g0, off + j, none⟩) (Nat.lt_of_lt_of_le hg0 (unhide HS0).size)).trans (unhide HQ9)
                  have hB9 := hBr.trans (hBx.mono hBr.size)
                  clear hS hBx
                  go_wp2
                  exact ⟨⟨j + 1, by omega, by go_num, hB9⟩, by simp [intOf]; omega⟩
            · have p1 : decide (0 ≤ pn) = false := decide_eq_false g2
              have hv : A.m.ws j = ws j := by
                rcases Nat.decEq (A.m.ws j) (ws j) with q | q
                · exfalso
                  have := (unhide HMA) q
                  omega
                · exact q
              have hv2 : ((A.m.ws j : Int) != (ws j : Int)) = false := by rw [hv]; simp
              clear hv
              have s0 := cell_regrown ((hS.get 0 rfl).cell 0 _ rfl)
              have s1 := cell_regrown ((hS.get 0 rfl).cell 1 _ rfl)
              obtain ⟨u5, rfl⟩ := nameW hS
              have HSQ := hide hS
              clear hS
              refine wp_region_quiet_below (by kernel_rfl) (by kernel_rfl) ?_
              repeat (go_big_quiet_step (first | (go_at_call 20; exact Calls.regrown_of (of9_any _ _ _))))
              refine wpQuiet_nil ?_
              intro _ hw'
              obtain ⟨⟨dq, osq⟩, hw''⟩ := hw'
              subst hw''
              have hS := (unhide HSQ).call (below_regrown u5 dq osq)
              clear HSQ s0 s1 
              generalize grow (redrawn u5 dq) osq = u6 at *
              have hBx := hS.bel
              have q7 := (hBx.cell (p := ⟨g0, off + j, none⟩) (Nat.lt_of_lt_of_le hg0 (unhide HS0).size)).trans (unhide HQ9)
              have hB9 := hBr.trans (hBx.mono hBr.size)
              clear hS hBx
              go_wp2
              exact ⟨⟨j + 1, by omega, by go_num, hB9⟩, by simp [intOf]; omega⟩
    · have hge : ¬ (j : Int) < (c.n : Int) := by omega
      go_wp2_with fail
      refine (oAlive_any _).mono ?_
      rintro r u ⟨rfl, hb⟩
      replace hS := hS.call hb
      clear hb
      go_wp2_with fail
      refine (oDone_any (hS.get 4 rfl) (unhide HO).nx).mono ?_
      rintro r u ⟨rfl, rfl⟩
      rw [decide_eq_true (unhide HN6)]
      have hB := hS.bel
      clear hS
      go_wp2
      go_ret
      exact ⟨rfl, hB⟩

theorem walk {H : Type} {enc : TypeId × Value → H} {base : Nat} {v0 v1 : Value} {d0 d1 : DataW H} {p0 p1 : List MemPlace} (w : World)
    (hv0 : Value.okWide Try.prog w .any base 24 v0) (h0 : DataW.Trod enc Try.prog w 0 (fun _ => true) true 24 v0 d0 p0)
    (hv1 : Value.okWide Try.prog w .any base 25 v1) (h1 : DataW.Trod enc Try.prog w 0 (fun _ => true) true 25 v1 d1 p1) :
    Calls Try.prog 8 #[v0, v1] w fun e w' => e = .returned (.bool true) ∧ Below w.heap.size w w' := by
  obtain ⟨ct, s, k, g, q, rfl, hsb⟩ := open_cfg hv0 h0
  obtain ⟨n, ws, hI⟩ := open_words hv1 h1
  cases hr : (⟨ct, s, k, g, q⟩ : Um.Cf).r with
  | false =>
    obtain ⟨sa, cap, rfl⟩ := words_len hI
    exact walk_wrong w ⟨ct, s, k, g, q⟩ sa n cap hr
  | true =>
    by_cases hn : n = (⟨ct, s, k, g, q⟩ : Um.Cf).n
    · subst hn
      obtain ⟨A, hA⟩ : ∃ A, A = Um.oit ⟨ct, s, k, g, q⟩ (Um.onew ⟨ws, 0, Um.noT⟩) 100 := ⟨_, rfl⟩
      obtain ⟨e1, e2⟩ := Um.only9 hr ⟨ws, 0, Um.noT⟩ (k := 100) (by decide) A hA
      rcases e2 with ⟨e2, e3⟩ | ⟨f, e2, e3, e4⟩
      · exact walk_full w ⟨ct, s, k, g, q⟩ v1 ws hr hI _ rfl A hA e1 e2 e3
      · exact walk_got w ⟨ct, s, k, g, q⟩ v1 ws hr hI _ rfl A hA e1 f e2 e3 e4
    · obtain ⟨sa, cap, rfl⟩ := words_len hI
      exact walk_short w ⟨ct, s, k, g, q⟩ sa n cap hr hn

set_option maxRecDepth 100000 in
theorem lifted (os : Os) (started : os.Started) (H : Type) (enc : TypeId × Value → H) :
    ReturnsInHanded {} Try.checked os 8 .any (Rows.openOnlySpec.pre6 enc Try.prog Try.f8 Rows.openOnlyRow.domain false) (Rows.openOnlySpec.post enc Try.prog Try.f8 false true false false) := by
  refine returnsInHanded_of_change (C := Try.checked) own started (by kernel_rfl) Try.func8
    (ChangeSpec.witness6 (enc := enc) (C := Try.checked) false ⟨#[], #[.agg #[.int .i64 0, .int .i64 0, .int .i64 0, .int .i64 0, .int .u64 0], .slice none 0 0], []⟩ 8 (by kernel_rfl) (by kernel_rfl) (by kernel_rfl) (by kernel_rfl)) ?_
  intro W base args ds gs before hval0 hW hcnd _
  have hval : ∀ (j : Nat) t v, Try.f8.params[j]? = some t → args[j]? = some v → Value.okWide Try.prog W .any base t v := hval0
  have hW' := hW
  obtain ⟨p, q, hA0, hV, rfl, hfz, hnd⟩ := hW
  have hA : DataW.TrodAll enc Try.prog W 0 (fun _ => true) true Try.f8.params.toList args.toList ds p := hA0
  rw [Try.params8] at hA hval
  obtain ⟨v0, vs0, d0, ds0, p0, q0, hargs, rfl, rfl, h0, r0⟩ := trodAll_cons hA
  obtain ⟨v1, vs1, d1, ds1, p1, q1, rfl, rfl, rfl, h1, r1⟩ := trodAll_cons r0
  obtain ⟨rfl, rfl, rfl⟩ := trodAll_nil r1
  obtain rfl : args = #[v0, v1] := by cases args; simp_all
  obtain ⟨rfl, rfl⟩ := trodVars_none hV
  have k0 := h0
  have lt0 : ∀ x ∈ p0, x.block < W.heap.size := by obtain ⟨m, hm⟩ := k0; exact DataW.trod_lt m _ _ _ hm
  have k1 := h1
  have lt1 : ∀ x ∈ p1, x.block < W.heap.size := by obtain ⟨m, hm⟩ := k1; exact DataW.trod_lt m _ _ _ hm
  refine (walk W (hval 0 24 v0 rfl rfl) h0 (hval 1 25 v1 rfl rfl) h1).mono fun e W' ⟨he, bel⟩ => ?_
  subst he
  exact ⟨_, rfl, _, _, _, [], _, [], hW', trodAll_mk1 (shut_bool Try.underlying4 _), (trodAll_cons_mk (Below.trod laidOut (by kernel_rfl) (of_decide_eq_true (by kernel_rfl)) k0 bel lt0) (trodAll_cons_mk (Below.trod laidOut (by kernel_rfl) (of_decide_eq_true (by kernel_rfl)) k1 bel lt1) trodAll_mk0)), rfl, bel.frame _, fun h => by cases h⟩

theorem OpenOnly_proved : Rows.OpenOnlySaid :=
  OpenClaim.holds_of_wide 8 Try.f8 rfl rfl rfl rfl rfl rfl rfl ⟨rfl, rfl, rfl, rfl, rfl⟩ rfl rfl rfl rfl rfl (by kernel_rfl) Try.func8 (by kernel_rfl)
    (of_decide_eq_true (by kernel_rfl)) (by unfold Func.isWrapper; first | (rw [if_pos (by decide +kernel)]; kernel_rfl) | (rw [if_neg (by decide +kernel)]; exact ⟨rfl, rfl⟩))
    (fun os started H enc _ => lifted os started H enc)

end Go.Proofs.Ytkiaogbddfjkkaa.openOnly
