/-
  For every world's size, thread and number of ticks, the law PinTwice answers true: pinned, left, and pinned again in a later epoch, a thread's pin is the later one. Conditions: none.
-/
import Derived.Test.YtjicfonpldobdaaRows
import Derived.Test.YtjicfonpldobdaaM11
import Derived.Test.YtjicfonpldobdaaM12
import Derived.Test.YtjicfonpldobdaaM1
import Derived.WalkKit
import Derived.ProofKit
import Derived.OpenShut
import Derived.ShutString
import Derived.LoopTactic
namespace Go.Proofs.Ytjicfonpldobdaa.pinTwice
set_option maxRecDepth 100000
open Go.ChangeShapes Go.WideShapes Go.ChangeAt Go.RowKit Go.Sort
set_option linter.unusedVariables false

theorem own : ownKnob Try.prog.godebug = none := by kernel_rfl
theorem laidOut : laidOutB Try.prog = true := by kernel_rfl

set_option maxHeartbeats 2000000 in
theorem walk_wrong (w : World) (c : Um.Cf) (t q : Int) (h : c.r = false) :
    Calls Try.prog 9 #[(.agg #[.int .i64 (c.t), .int .i64 (c.s), .int .i64 (c.k), .int .i64 (c.g), .int .u64 (c.q : Int)]), .int .i64 t, .int .i64 q] w fun e w' => e = .returned (.bool true) ∧ Below w.heap.size w w' := by
  have HN := hide (fun w => sNew_wrong c w h)
  clear h
  have hS := Sx.new w
  go_enter Try.func9, Try.ntmps9
  go_wp2_with (first | (refine wpx_box hS rfl _ _ rfl _ rfl _ (by intro _; simp only [Act.put, List.setIfInBounds_toArray, List.set_cons_zero, List.set_cons_succ]; first | done | exact rfl) ?_; clear hS; intro _ _ hS; dsimp only [blit, List.set, List.cons_append, List.nil_append, Value.cells, List.toList_toArray] at hS) | (refine wpx_alloc hS rfl _ rfl _ (zer_any2 rfl) _ (by intro _; simp only [Act.put, List.setIfInBounds_toArray, List.set_cons_zero, List.set_cons_succ]; first | done | exact rfl) ?_; clear hS; intro _ _ hS; dsimp only [blit, List.set, List.cons_append, List.nil_append, Value.cells, List.toList_toArray] at hS) | (refine wpx_ld hS rfl _ _ rfl _ _ rfl ?_; (first | refine ⟨0, _, rfl, ?_⟩ | refine ⟨1, _, rfl, ?_⟩ | refine ⟨2, _, rfl, ?_⟩ | refine ⟨3, _, rfl, ?_⟩ | refine ⟨4, _, rfl, ?_⟩ | refine ⟨5, _, rfl, ?_⟩ | refine ⟨6, _, rfl, ?_⟩ | refine ⟨7, _, rfl, ?_⟩ | refine ⟨8, _, rfl, ?_⟩ | refine ⟨9, _, rfl, ?_⟩); first | refine .inl ⟨_, one_any2 rfl, rfl, _, (by simp only [Act.put, List.setIfInBounds_toArray, List.set_cons_zero, List.set_cons_succ]; first | done | exact rfl), ?_⟩ | refine .inr ⟨_, _, row_any2 rfl, rfl, (by dsimp only [cutL, List.drop, List.take]; first | done | exact rfl), _, (by simp only [Act.put, List.setIfInBounds_toArray, List.set_cons_zero, List.set_cons_succ]; first | done | exact rfl), ?_⟩) | (refine wpx_st hS rfl _ _ _ rfl rfl _ _ rfl ?_; (first | refine ⟨0, _, rfl, ?_⟩ | refine ⟨1, _, rfl, ?_⟩ | refine ⟨2, _, rfl, ?_⟩ | refine ⟨3, _, rfl, ?_⟩ | refine ⟨4, _, rfl, ?_⟩ | refine ⟨5, _, rfl, ?_⟩ | refine ⟨6, _, rfl, ?_⟩ | refine ⟨7, _, rfl, ?_⟩ | refine ⟨8, _, rfl, ?_⟩ | refine ⟨9, _, rfl, ?_⟩); refine ⟨_, (by first | exact shA rfl | exact shI rfl | exact shB rfl | exact shS rfl | exact shP rfl | exact shF rfl | exact shN rfl), _, siz_any2 rfl, (by exact rfl), (by exact rfl), (by exact rfl), ?_⟩; clear hS; intro _ hS; dsimp only [blit, List.set, List.cons_append, List.nil_append, Value.cells, List.toList_toArray] at hS))
  refine ((unhide HN) _).mono ?_
  rintro r u ⟨rfl, hb⟩
  replace hS := hS.call hb
  clear hb HN
  go_wp2_with fail
  refine (pAlive_any _).mono ?_
  rintro r u ⟨rfl, hb⟩
  replace hS := hS.call hb
  clear hb
  go_wp2
  go_ret
  exact ⟨rfl, hS.bel⟩

set_option maxHeartbeats 2000000 in
theorem walk_neg (w : World) (c : Um.Cf) (t q : Int) (h : c.r = true) (h1 : t < 0) :
    Calls Try.prog 9 #[(.agg #[.int .i64 (c.t), .int .i64 (c.s), .int .i64 (c.k), .int .i64 (c.g), .int .u64 (c.q : Int)]), .int .i64 t, .int .i64 q] w fun e w' => e = .returned (.bool true) ∧ Below w.heap.size w w' := by
  have HR := hide h
  clear h
  have dh1 : decide (t < 0) = true := decide_eq_true h1
  have hS := Sx.new w
  go_enter Try.func9, Try.ntmps9
  go_wp2_with (first | (refine wpx_box hS rfl _ _ rfl _ rfl _ (by intro _; simp only [Act.put, List.setIfInBounds_toArray, List.set_cons_zero, List.set_cons_succ]; first | done | exact rfl) ?_; clear hS; intro _ _ hS; dsimp only [blit, List.set, List.cons_append, List.nil_append, Value.cells, List.toList_toArray] at hS) | (refine wpx_alloc hS rfl _ rfl _ (zer_any2 rfl) _ (by intro _; simp only [Act.put, List.setIfInBounds_toArray, List.set_cons_zero, List.set_cons_succ]; first | done | exact rfl) ?_; clear hS; intro _ _ hS; dsimp only [blit, List.set, List.cons_append, List.nil_append, Value.cells, List.toList_toArray] at hS) | (refine wpx_ld hS rfl _ _ rfl _ _ rfl ?_; (first | refine ⟨0, _, rfl, ?_⟩ | refine ⟨1, _, rfl, ?_⟩ | refine ⟨2, _, rfl, ?_⟩ | refine ⟨3, _, rfl, ?_⟩ | refine ⟨4, _, rfl, ?_⟩ | refine ⟨5, _, rfl, ?_⟩ | refine ⟨6, _, rfl, ?_⟩ | refine ⟨7, _, rfl, ?_⟩ | refine ⟨8, _, rfl, ?_⟩ | refine ⟨9, _, rfl, ?_⟩); first | refine .inl ⟨_, one_any2 rfl, rfl, _, (by simp only [Act.put, List.setIfInBounds_toArray, List.set_cons_zero, List.set_cons_succ]; first | done | exact rfl), ?_⟩ | refine .inr ⟨_, _, row_any2 rfl, rfl, (by dsimp only [cutL, List.drop, List.take]; first | done | exact rfl), _, (by simp only [Act.put, List.setIfInBounds_toArray, List.set_cons_zero, List.set_cons_succ]; first | done | exact rfl), ?_⟩) | (refine wpx_st hS rfl _ _ _ rfl rfl _ _ rfl ?_; (first | refine ⟨0, _, rfl, ?_⟩ | refine ⟨1, _, rfl, ?_⟩ | refine ⟨2, _, rfl, ?_⟩ | refine ⟨3, _, rfl, ?_⟩ | refine ⟨4, _, rfl, ?_⟩ | refine ⟨5, _, rfl, ?_⟩ | refine ⟨6, _, rfl, ?_⟩ | refine ⟨7, _, rfl, ?_⟩ | refine ⟨8, _, rfl, ?_⟩ | refine ⟨9, _, rfl, ?_⟩); refine ⟨_, (by first | exact shA rfl | exact shI rfl | exact shB rfl | exact shS rfl | exact shP rfl | exact shF rfl | exact shN rfl), _, siz_any2 rfl, (by exact rfl), (by exact rfl), (by exact rfl), ?_⟩; clear hS; intro _ hS; dsimp only [blit, List.set, List.cons_append, List.nil_append, Value.cells, List.toList_toArray] at hS))
  refine (new_x hS c (unhide HR)).mono ?_
  rintro r u ⟨B, C, rfl, hWn, hSn⟩
  clear hS
  have hS := hSn
  clear hSn
  dsimp only [putL, List.set, List.cons_append, List.nil_append] at hS
  have HW0 := hide hWn
  clear hWn
  go_wp2_with (first | (refine wpx_box hS rfl _ _ rfl _ rfl _ (by intro _; simp only [Act.put, List.setIfInBounds_toArray, List.set_cons_zero, List.set_cons_succ]; first | done | exact rfl) ?_; clear hS; intro _ _ hS; dsimp only [blit, List.set, List.cons_append, List.nil_append, Value.cells, List.toList_toArray] at hS) | (refine wpx_alloc hS rfl _ rfl _ (zer_any2 rfl) _ (by intro _; simp only [Act.put, List.setIfInBounds_toArray, List.set_cons_zero, List.set_cons_succ]; first | done | exact rfl) ?_; clear hS; intro _ _ hS; dsimp only [blit, List.set, List.cons_append, List.nil_append, Value.cells, List.toList_toArray] at hS) | (refine wpx_ld hS rfl _ _ rfl _ _ rfl ?_; (first | refine ⟨0, _, rfl, ?_⟩ | refine ⟨1, _, rfl, ?_⟩ | refine ⟨2, _, rfl, ?_⟩ | refine ⟨3, _, rfl, ?_⟩ | refine ⟨4, _, rfl, ?_⟩ | refine ⟨5, _, rfl, ?_⟩ | refine ⟨6, _, rfl, ?_⟩ | refine ⟨7, _, rfl, ?_⟩ | refine ⟨8, _, rfl, ?_⟩ | refine ⟨9, _, rfl, ?_⟩); first | refine .inl ⟨_, one_any2 rfl, rfl, _, (by simp only [Act.put, List.setIfInBounds_toArray, List.set_cons_zero, List.set_cons_succ]; first | done | exact rfl), ?_⟩ | refine .inr ⟨_, _, row_any2 rfl, rfl, (by dsimp only [cutL, List.drop, List.take]; first | done | exact rfl), _, (by simp only [Act.put, List.setIfInBounds_toArray, List.set_cons_zero, List.set_cons_succ]; first | done | exact rfl), ?_⟩) | (refine wpx_st hS rfl _ _ _ rfl rfl _ _ rfl ?_; (first | refine ⟨0, _, rfl, ?_⟩ | refine ⟨1, _, rfl, ?_⟩ | refine ⟨2, _, rfl, ?_⟩ | refine ⟨3, _, rfl, ?_⟩ | refine ⟨4, _, rfl, ?_⟩ | refine ⟨5, _, rfl, ?_⟩ | refine ⟨6, _, rfl, ?_⟩ | refine ⟨7, _, rfl, ?_⟩ | refine ⟨8, _, rfl, ?_⟩ | refine ⟨9, _, rfl, ?_⟩); refine ⟨_, (by first | exact shA rfl | exact shI rfl | exact shB rfl | exact shS rfl | exact shP rfl | exact shF rfl | exact shN rfl), _, siz_any2 rfl, (by exact rfl), (by exact rfl), (by exact rfl), ?_⟩; clear hS; intro _ hS; dsimp only [blit, List.set, List.cons_append, List.nil_append, Value.cells, List.toList_toArray] at hS))
  refine (pAlive_any _).mono ?_
  rintro r u ⟨rfl, hb⟩
  replace hS := hS.call hb
  clear hb
  go_wp2
  go_ret
  exact ⟨rfl, hS.bel⟩

set_option maxHeartbeats 2000000 in
theorem walk_big (w : World) (c : Um.Cf) (t q : Int) (h : c.r = true) (h1 : ¬ t < 0) (h2 : c.t ≤ t) :
    Calls Try.prog 9 #[(.agg #[.int .i64 (c.t), .int .i64 (c.s), .int .i64 (c.k), .int .i64 (c.g), .int .u64 (c.q : Int)]), .int .i64 t, .int .i64 q] w fun e w' => e = .returned (.bool true) ∧ Below w.heap.size w w' := by
  have HR := hide h
  clear h
  have dh1 : decide (t < 0) = false := decide_eq_false h1
  have dh2 : decide (c.t ≤ t) = true := decide_eq_true h2
  have hS := Sx.new w
  go_enter Try.func9, Try.ntmps9
  go_wp2_with (first | (refine wpx_box hS rfl _ _ rfl _ rfl _ (by intro _; simp only [Act.put, List.setIfInBounds_toArray, List.set_cons_zero, List.set_cons_succ]; first | done | exact rfl) ?_; clear hS; intro _ _ hS; dsimp only [blit, List.set, List.cons_append, List.nil_append, Value.cells, List.toList_toArray] at hS) | (refine wpx_alloc hS rfl _ rfl _ (zer_any2 rfl) _ (by intro _; simp only [Act.put, List.setIfInBounds_toArray, List.set_cons_zero, List.set_cons_succ]; first | done | exact rfl) ?_; clear hS; intro _ _ hS; dsimp only [blit, List.set, List.cons_append, List.nil_append, Value.cells, List.toList_toArray] at hS) | (refine wpx_ld hS rfl _ _ rfl _ _ rfl ?_; (first | refine ⟨0, _, rfl, ?_⟩ | refine ⟨1, _, rfl, ?_⟩ | refine ⟨2, _, rfl, ?_⟩ | refine ⟨3, _, rfl, ?_⟩ | refine ⟨4, _, rfl, ?_⟩ | refine ⟨5, _, rfl, ?_⟩ | refine ⟨6, _, rfl, ?_⟩ | refine ⟨7, _, rfl, ?_⟩ | refine ⟨8, _, rfl, ?_⟩ | refine ⟨9, _, rfl, ?_⟩); first | refine .inl ⟨_, one_any2 rfl, rfl, _, (by simp only [Act.put, List.setIfInBounds_toArray, List.set_cons_zero, List.set_cons_succ]; first | done | exact rfl), ?_⟩ | refine .inr ⟨_, _, row_any2 rfl, rfl, (by dsimp only [cutL, List.drop, List.take]; first | done | exact rfl), _, (by simp only [Act.put, List.setIfInBounds_toArray, List.set_cons_zero, List.set_cons_succ]; first | done | exact rfl), ?_⟩) | (refine wpx_st hS rfl _ _ _ rfl rfl _ _ rfl ?_; (first | refine ⟨0, _, rfl, ?_⟩ | refine ⟨1, _, rfl, ?_⟩ | refine ⟨2, _, rfl, ?_⟩ | refine ⟨3, _, rfl, ?_⟩ | refine ⟨4, _, rfl, ?_⟩ | refine ⟨5, _, rfl, ?_⟩ | refine ⟨6, _, rfl, ?_⟩ | refine ⟨7, _, rfl, ?_⟩ | refine ⟨8, _, rfl, ?_⟩ | refine ⟨9, _, rfl, ?_⟩); refine ⟨_, (by first | exact shA rfl | exact shI rfl | exact shB rfl | exact shS rfl | exact shP rfl | exact shF rfl | exact shN rfl), _, siz_any2 rfl, (by exact rfl), (by exact rfl), (by exact rfl), ?_⟩; clear hS; intro _ hS; dsimp only [blit, List.set, List.cons_append, List.nil_append, Value.cells, List.toList_toArray] at hS))
  refine (new_x hS c (unhide HR)).mono ?_
  rintro r u ⟨B, C, rfl, hWn, hSn⟩
  clear hS
  have hS := hSn
  clear hSn
  dsimp only [putL, List.set, List.cons_append, List.nil_append] at hS
  have HW0 := hide hWn
  clear hWn
  go_wp2_with (first | (refine wpx_box hS rfl _ _ rfl _ rfl _ (by intro _; simp only [Act.put, List.setIfInBounds_toArray, List.set_cons_zero, List.set_cons_succ]; first | done | exact rfl) ?_; clear hS; intro _ _ hS; dsimp only [blit, List.set, List.cons_append, List.nil_append, Value.cells, List.toList_toArray] at hS) | (refine wpx_alloc hS rfl _ rfl _ (zer_any2 rfl) _ (by intro _; simp only [Act.put, List.setIfInBounds_toArray, List.set_cons_zero, List.set_cons_succ]; first | done | exact rfl) ?_; clear hS; intro _ _ hS; dsimp only [blit, List.set, List.cons_append, List.nil_append, Value.cells, List.toList_toArray] at hS) | (refine wpx_ld hS rfl _ _ rfl _ _ rfl ?_; (first | refine ⟨0, _, rfl, ?_⟩ | refine ⟨1, _, rfl, ?_⟩ | refine ⟨2, _, rfl, ?_⟩ | refine ⟨3, _, rfl, ?_⟩ | refine ⟨4, _, rfl, ?_⟩ | refine ⟨5, _, rfl, ?_⟩ | refine ⟨6, _, rfl, ?_⟩ | refine ⟨7, _, rfl, ?_⟩ | refine ⟨8, _, rfl, ?_⟩ | refine ⟨9, _, rfl, ?_⟩); first | refine .inl ⟨_, one_any2 rfl, rfl, _, (by simp only [Act.put, List.setIfInBounds_toArray, List.set_cons_zero, List.set_cons_succ]; first | done | exact rfl), ?_⟩ | refine .inr ⟨_, _, row_any2 rfl, rfl, (by dsimp only [cutL, List.drop, List.take]; first | done | exact rfl), _, (by simp only [Act.put, List.setIfInBounds_toArray, List.set_cons_zero, List.set_cons_succ]; first | done | exact rfl), ?_⟩) | (refine wpx_st hS rfl _ _ _ rfl rfl _ _ rfl ?_; (first | refine ⟨0, _, rfl, ?_⟩ | refine ⟨1, _, rfl, ?_⟩ | refine ⟨2, _, rfl, ?_⟩ | refine ⟨3, _, rfl, ?_⟩ | refine ⟨4, _, rfl, ?_⟩ | refine ⟨5, _, rfl, ?_⟩ | refine ⟨6, _, rfl, ?_⟩ | refine ⟨7, _, rfl, ?_⟩ | refine ⟨8, _, rfl, ?_⟩ | refine ⟨9, _, rfl, ?_⟩); refine ⟨_, (by first | exact shA rfl | exact shI rfl | exact shB rfl | exact shS rfl | exact shP rfl | exact shF rfl | exact shN rfl), _, siz_any2 rfl, (by exact rfl), (by exact rfl), (by exact rfl), ?_⟩; clear hS; intro _ hS; dsimp only [blit, List.set, List.cons_append, List.nil_append, Value.cells, List.toList_toArray] at hS))
  refine (pAlive_any _).mono ?_
  rintro r u ⟨rfl, hb⟩
  replace hS := hS.call hb
  clear hb
  go_wp2
  go_ret
  exact ⟨rfl, hS.bel⟩

set_option maxHeartbeats 2000000 in
theorem walk_tneg (w : World) (c : Um.Cf) (t q : Int) (h : c.r = true) (h1 : ¬ t < 0) (h2 : ¬ c.t ≤ t) (h3 : q < 0) :
    Calls Try.prog 9 #[(.agg #[.int .i64 (c.t), .int .i64 (c.s), .int .i64 (c.k), .int .i64 (c.g), .int .u64 (c.q : Int)]), .int .i64 t, .int .i64 q] w fun e w' => e = .returned (.bool true) ∧ Below w.heap.size w w' := by
  have HR := hide h
  clear h
  have dh1 : decide (t < 0) = false := decide_eq_false h1
  have dh2 : decide (c.t ≤ t) = false := decide_eq_false h2
  have dh3 : decide (q < 0) = true := decide_eq_true h3
  have hS := Sx.new w
  go_enter Try.func9, Try.ntmps9
  go_wp2_with (first | (refine wpx_box hS rfl _ _ rfl _ rfl _ (by intro _; simp only [Act.put, List.setIfInBounds_toArray, List.set_cons_zero, List.set_cons_succ]; first | done | exact rfl) ?_; clear hS; intro _ _ hS; dsimp only [blit, List.set, List.cons_append, List.nil_append, Value.cells, List.toList_toArray] at hS) | (refine wpx_alloc hS rfl _ rfl _ (zer_any2 rfl) _ (by intro _; simp only [Act.put, List.setIfInBounds_toArray, List.set_cons_zero, List.set_cons_succ]; first | done | exact rfl) ?_; clear hS; intro _ _ hS; dsimp only [blit, List.set, List.cons_append, List.nil_append, Value.cells, List.toList_toArray] at hS) | (refine wpx_ld hS rfl _ _ rfl _ _ rfl ?_; (first | refine ⟨0, _, rfl, ?_⟩ | refine ⟨1, _, rfl, ?_⟩ | refine ⟨2, _, rfl, ?_⟩ | refine ⟨3, _, rfl, ?_⟩ | refine ⟨4, _, rfl, ?_⟩ | refine ⟨5, _, rfl, ?_⟩ | refine ⟨6, _, rfl, ?_⟩ | refine ⟨7, _, rfl, ?_⟩ | refine ⟨8, _, rfl, ?_⟩ | refine ⟨9, _, rfl, ?_⟩); first | refine .inl ⟨_, one_any2 rfl, rfl, _, (by simp only [Act.put, List.setIfInBounds_toArray, List.set_cons_zero, List.set_cons_succ]; first | done | exact rfl), ?_⟩ | refine .inr ⟨_, _, row_any2 rfl, rfl, (by dsimp only [cutL, List.drop, List.take]; first | done | exact rfl), _, (by simp only [Act.put, List.setIfInBounds_toArray, List.set_cons_zero, List.set_cons_succ]; first | done | exact rfl), ?_⟩) | (refine wpx_st hS rfl _ _ _ rfl rfl _ _ rfl ?_; (first | refine ⟨0, _, rfl, ?_⟩ | refine ⟨1, _, rfl, ?_⟩ | refine ⟨2, _, rfl, ?_⟩ | refine ⟨3, _, rfl, ?_⟩ | refine ⟨4, _, rfl, ?_⟩ | refine ⟨5, _, rfl, ?_⟩ | refine ⟨6, _, rfl, ?_⟩ | refine ⟨7, _, rfl, ?_⟩ | refine ⟨8, _, rfl, ?_⟩ | refine ⟨9, _, rfl, ?_⟩); refine ⟨_, (by first | exact shA rfl | exact shI rfl | exact shB rfl | exact shS rfl | exact shP rfl | exact shF rfl | exact shN rfl), _, siz_any2 rfl, (by exact rfl), (by exact rfl), (by exact rfl), ?_⟩; clear hS; intro _ hS; dsimp only [blit, List.set, List.cons_append, List.nil_append, Value.cells, List.toList_toArray] at hS))
  refine (new_x hS c (unhide HR)).mono ?_
  rintro r u ⟨B, C, rfl, hWn, hSn⟩
  clear hS
  have hS := hSn
  clear hSn
  dsimp only [putL, List.set, List.cons_append, List.nil_append] at hS
  have HW0 := hide hWn
  clear hWn
  go_wp2_with (first | (refine wpx_box hS rfl _ _ rfl _ rfl _ (by intro _; simp only [Act.put, List.setIfInBounds_toArray, List.set_cons_zero, List.set_cons_succ]; first | done | exact rfl) ?_; clear hS; intro _ _ hS; dsimp only [blit, List.set, List.cons_append, List.nil_append, Value.cells, List.toList_toArray] at hS) | (refine wpx_alloc hS rfl _ rfl _ (zer_any2 rfl) _ (by intro _; simp only [Act.put, List.setIfInBounds_toArray, List.set_cons_zero, List.set_cons_succ]; first | done | exact rfl) ?_; clear hS; intro _ _ hS; dsimp only [blit, List.set, List.cons_append, List.nil_append, Value.cells, List.toList_toArray] at hS) | (refine wpx_ld hS rfl _ _ rfl _ _ rfl ?_; (first | refine ⟨0, _, rfl, ?_⟩ | refine ⟨1, _, rfl, ?_⟩ | refine ⟨2, _, rfl, ?_⟩ | refine ⟨3, _, rfl, ?_⟩ | refine ⟨4, _, rfl, ?_⟩ | refine ⟨5, _, rfl, ?_⟩ | refine ⟨6, _, rfl, ?_⟩ | refine ⟨7, _, rfl, ?_⟩ | refine ⟨8, _, rfl, ?_⟩ | refine ⟨9, _, rfl, ?_⟩); first | refine .inl ⟨_, one_any2 rfl, rfl, _, (by simp only [Act.put, List.setIfInBounds_toArray, List.set_cons_zero, List.set_cons_succ]; first | done | exact rfl), ?_⟩ | refine .inr ⟨_, _, row_any2 rfl, rfl, (by dsimp only [cutL, List.drop, List.take]; first | done | exact rfl), _, (by simp only [Act.put, List.setIfInBounds_toArray, List.set_cons_zero, List.set_cons_succ]; first | done | exact rfl), ?_⟩) | (refine wpx_st hS rfl _ _ _ rfl rfl _ _ rfl ?_; (first | refine ⟨0, _, rfl, ?_⟩ | refine ⟨1, _, rfl, ?_⟩ | refine ⟨2, _, rfl, ?_⟩ | refine ⟨3, _, rfl, ?_⟩ | refine ⟨4, _, rfl, ?_⟩ | refine ⟨5, _, rfl, ?_⟩ | refine ⟨6, _, rfl, ?_⟩ | refine ⟨7, _, rfl, ?_⟩ | refine ⟨8, _, rfl, ?_⟩ | refine ⟨9, _, rfl, ?_⟩); refine ⟨_, (by first | exact shA rfl | exact shI rfl | exact shB rfl | exact shS rfl | exact shP rfl | exact shF rfl | exact shN rfl), _, siz_any2 rfl, (by exact rfl), (by exact rfl), (by exact rfl), ?_⟩; clear hS; intro _ hS; dsimp only [blit, List.set, List.cons_append, List.nil_append, Value.cells, List.toList_toArray] at hS))
  refine (pAlive_any _).mono ?_
  rintro r u ⟨rfl, hb⟩
  replace hS := hS.call hb
  clear hb
  go_wp2
  go_ret
  exact ⟨rfl, hS.bel⟩

set_option maxHeartbeats 2000000 in
theorem walk_tbig (w : World) (c : Um.Cf) (t q : Int) (h : c.r = true) (h1 : ¬ t < 0) (h2 : ¬ c.t ≤ t) (h3 : ¬ q < 0) (h4 : 1000 < q) :
    Calls Try.prog 9 #[(.agg #[.int .i64 (c.t), .int .i64 (c.s), .int .i64 (c.k), .int .i64 (c.g), .int .u64 (c.q : Int)]), .int .i64 t, .int .i64 q] w fun e w' => e = .returned (.bool true) ∧ Below w.heap.size w w' := by
  have HR := hide h
  clear h
  have dh1 : decide (t < 0) = false := decide_eq_false h1
  have dh2 : decide (c.t ≤ t) = false := decide_eq_false h2
  have dh3 : decide (q < 0) = false := decide_eq_false h3
  have dh4 : decide (1000 < q) = true := decide_eq_true h4
  have hS := Sx.new w
  go_enter Try.func9, Try.ntmps9
  go_wp2_with (first | (refine wpx_box hS rfl _ _ rfl _ rfl _ (by intro _; simp only [Act.put, List.setIfInBounds_toArray, List.set_cons_zero, List.set_cons_succ]; first | done | exact rfl) ?_; clear hS; intro _ _ hS; dsimp only [blit, List.set, List.cons_append, List.nil_append, Value.cells, List.toList_toArray] at hS) | (refine wpx_alloc hS rfl _ rfl _ (zer_any2 rfl) _ (by intro _; simp only [Act.put, List.setIfInBounds_toArray, List.set_cons_zero, List.set_cons_succ]; first | done | exact rfl) ?_; clear hS; intro _ _ hS; dsimp only [blit, List.set, List.cons_append, List.nil_append, Value.cells, List.toList_toArray] at hS) | (refine wpx_ld hS rfl _ _ rfl _ _ rfl ?_; (first | refine ⟨0, _, rfl, ?_⟩ | refine ⟨1, _, rfl, ?_⟩ | refine ⟨2, _, rfl, ?_⟩ | refine ⟨3, _, rfl, ?_⟩ | refine ⟨4, _, rfl, ?_⟩ | refine ⟨5, _, rfl, ?_⟩ | refine ⟨6, _, rfl, ?_⟩ | refine ⟨7, _, rfl, ?_⟩ | refine ⟨8, _, rfl, ?_⟩ | refine ⟨9, _, rfl, ?_⟩); first | refine .inl ⟨_, one_any2 rfl, rfl, _, (by simp only [Act.put, List.setIfInBounds_toArray, List.set_cons_zero, List.set_cons_succ]; first | done | exact rfl), ?_⟩ | refine .inr ⟨_, _, row_any2 rfl, rfl, (by dsimp only [cutL, List.drop, List.take]; first | done | exact rfl), _, (by simp only [Act.put, List.setIfInBounds_toArray, List.set_cons_zero, List.set_cons_succ]; first | done | exact rfl), ?_⟩) | (refine wpx_st hS rfl _ _ _ rfl rfl _ _ rfl ?_; (first | refine ⟨0, _, rfl, ?_⟩ | refine ⟨1, _, rfl, ?_⟩ | refine ⟨2, _, rfl, ?_⟩ | refine ⟨3, _, rfl, ?_⟩ | refine ⟨4, _, rfl, ?_⟩ | refine ⟨5, _, rfl, ?_⟩ | refine ⟨6, _, rfl, ?_⟩ | refine ⟨7, _, rfl, ?_⟩ | refine ⟨8, _, rfl, ?_⟩ | refine ⟨9, _, rfl, ?_⟩); refine ⟨_, (by first | exact shA rfl | exact shI rfl | exact shB rfl | exact shS rfl | exact shP rfl | exact shF rfl | exact shN rfl), _, siz_any2 rfl, (by exact rfl), (by exact rfl), (by exact rfl), ?_⟩; clear hS; intro _ hS; dsimp only [blit, List.set, List.cons_append, List.nil_append, Value.cells, List.toList_toArray] at hS))
  refine (new_x hS c (unhide HR)).mono ?_
  rintro r u ⟨B, C, rfl, hWn, hSn⟩
  clear hS
  have hS := hSn
  clear hSn
  dsimp only [putL, List.set, List.cons_append, List.nil_append] at hS
  have HW0 := hide hWn
  clear hWn
  go_wp2_with (first | (refine wpx_box hS rfl _ _ rfl _ rfl _ (by intro _; simp only [Act.put, List.setIfInBounds_toArray, List.set_cons_zero, List.set_cons_succ]; first | done | exact rfl) ?_; clear hS; intro _ _ hS; dsimp only [blit, List.set, List.cons_append, List.nil_append, Value.cells, List.toList_toArray] at hS) | (refine wpx_alloc hS rfl _ rfl _ (zer_any2 rfl) _ (by intro _; simp only [Act.put, List.setIfInBounds_toArray, List.set_cons_zero, List.set_cons_succ]; first | done | exact rfl) ?_; clear hS; intro _ _ hS; dsimp only [blit, List.set, List.cons_append, List.nil_append, Value.cells, List.toList_toArray] at hS) | (refine wpx_ld hS rfl _ _ rfl _ _ rfl ?_; (first | refine ⟨0, _, rfl, ?_⟩ | refine ⟨1, _, rfl, ?_⟩ | refine ⟨2, _, rfl, ?_⟩ | refine ⟨3, _, rfl, ?_⟩ | refine ⟨4, _, rfl, ?_⟩ | refine ⟨5, _, rfl, ?_⟩ | refine ⟨6, _, rfl, ?_⟩ | refine ⟨7, _, rfl, ?_⟩ | refine ⟨8, _, rfl, ?_⟩ | refine ⟨9, _, rfl, ?_⟩); first | refine .inl ⟨_, one_any2 rfl, rfl, _, (by simp only [Act.put, List.setIfInBounds_toArray, List.set_cons_zero, List.set_cons_succ]; first | done | exact rfl), ?_⟩ | refine .inr ⟨_, _, row_any2 rfl, rfl, (by dsimp only [cutL, List.drop, List.take]; first | done | exact rfl), _, (by simp only [Act.put, List.setIfInBounds_toArray, List.set_cons_zero, List.set_cons_succ]; first | done | exact rfl), ?_⟩) | (refine wpx_st hS rfl _ _ _ rfl rfl _ _ rfl ?_; (first | refine ⟨0, _, rfl, ?_⟩ | refine ⟨1, _, rfl, ?_⟩ | refine ⟨2, _, rfl, ?_⟩ | refine ⟨3, _, rfl, ?_⟩ | refine ⟨4, _, rfl, ?_⟩ | refine ⟨5, _, rfl, ?_⟩ | refine ⟨6, _, rfl, ?_⟩ | refine ⟨7, _, rfl, ?_⟩ | refine ⟨8, _, rfl, ?_⟩ | refine ⟨9, _, rfl, ?_⟩); refine ⟨_, (by first | exact shA rfl | exact shI rfl | exact shB rfl | exact shS rfl | exact shP rfl | exact shF rfl | exact shN rfl), _, siz_any2 rfl, (by exact rfl), (by exact rfl), (by exact rfl), ?_⟩; clear hS; intro _ hS; dsimp only [blit, List.set, List.cons_append, List.nil_append, Value.cells, List.toList_toArray] at hS))
  refine (pAlive_any _).mono ?_
  rintro r u ⟨rfl, hb⟩
  replace hS := hS.call hb
  clear hb
  go_wp2
  go_ret
  exact ⟨rfl, hS.bel⟩

set_option maxHeartbeats 8000000 in
theorem walk_right (w : World) (c : Um.Cf) (t : Int) (q : Nat) (h : c.r = true) (h1 : ¬ t < 0) (h2 : ¬ c.t ≤ t) (h3 : ¬ (q : Int) < 0) (h4 : ¬ 1000 < (q : Int)) :
    Calls Try.prog 9 #[(.agg #[.int .i64 (c.t), .int .i64 (c.s), .int .i64 (c.k), .int .i64 (c.g), .int .u64 (c.q : Int)]), .int .i64 t, .int .i64 q] w fun e w' => e = .returned (.bool true) ∧ Below w.heap.size w w' := by
  have hb := c.rb h
  have HT := hide (show -9223372036854775808 ≤ t ∧ t ≤ 9223372036854775807 by omega)
  obtain ⟨hx, hy⟩ := Um.twice_math h (t := t) (by omega) (by omega) q (by omega)
  have HX := hide hx
  have HY := hide hy
  have HQ := hide (show Um.Word q by unfold Um.Word; omega)
  have hq : IntKind.u64.wrap (q : Int) = (q : Int) := wrap_word (by unfold Um.Word; omega)
  have hq1 : IntKind.u64.wrap ((q : Int) + 1) = ((q + 1 : Nat) : Int) := by rw [IntKind.wrap_u64]; omega
  have HR := hide h
  have dh1 : decide (t < 0) = false := decide_eq_false h1
  have dh2 : decide (c.t ≤ t) = false := decide_eq_false h2
  have dh3 : decide ((q : Int) < 0) = false := decide_eq_false h3
  have dh4 : decide (1000 < (q : Int)) = false := decide_eq_false h4
  clear h hb hx hy
  have hS := Sx.new w
  go_enter Try.func9, Try.ntmps9
  go_wp2_with (first | (refine wpx_box hS rfl _ _ rfl _ rfl _ (by intro _; simp only [Act.put, List.setIfInBounds_toArray, List.set_cons_zero, List.set_cons_succ]; first | done | exact rfl) ?_; clear hS; intro _ _ hS; dsimp only [blit, List.set, List.cons_append, List.nil_append, Value.cells, List.toList_toArray] at hS) | (refine wpx_alloc hS rfl _ rfl _ (zer_any2 rfl) _ (by intro _; simp only [Act.put, List.setIfInBounds_toArray, List.set_cons_zero, List.set_cons_succ]; first | done | exact rfl) ?_; clear hS; intro _ _ hS; dsimp only [blit, List.set, List.cons_append, List.nil_append, Value.cells, List.toList_toArray] at hS) | (refine wpx_ld hS rfl _ _ rfl _ _ rfl ?_; (first | refine ⟨0, _, rfl, ?_⟩ | refine ⟨1, _, rfl, ?_⟩ | refine ⟨2, _, rfl, ?_⟩ | refine ⟨3, _, rfl, ?_⟩ | refine ⟨4, _, rfl, ?_⟩ | refine ⟨5, _, rfl, ?_⟩ | refine ⟨6, _, rfl, ?_⟩ | refine ⟨7, _, rfl, ?_⟩ | refine ⟨8, _, rfl, ?_⟩ | refine ⟨9, _, rfl, ?_⟩); first | refine .inl ⟨_, one_any2 rfl, rfl, _, (by simp only [Act.put, List.setIfInBounds_toArray, List.set_cons_zero, List.set_cons_succ]; first | done | exact rfl), ?_⟩ | refine .inr ⟨_, _, row_any2 rfl, rfl, (by dsimp only [cutL, List.drop, List.take]; first | done | exact rfl), _, (by simp only [Act.put, List.setIfInBounds_toArray, List.set_cons_zero, List.set_cons_succ]; first | done | exact rfl), ?_⟩) | (refine wpx_st hS rfl _ _ _ rfl rfl _ _ rfl ?_; (first | refine ⟨0, _, rfl, ?_⟩ | refine ⟨1, _, rfl, ?_⟩ | refine ⟨2, _, rfl, ?_⟩ | refine ⟨3, _, rfl, ?_⟩ | refine ⟨4, _, rfl, ?_⟩ | refine ⟨5, _, rfl, ?_⟩ | refine ⟨6, _, rfl, ?_⟩ | refine ⟨7, _, rfl, ?_⟩ | refine ⟨8, _, rfl, ?_⟩ | refine ⟨9, _, rfl, ?_⟩); refine ⟨_, (by first | exact shA rfl | exact shI rfl | exact shB rfl | exact shS rfl | exact shP rfl | exact shF rfl | exact shN rfl), _, siz_any2 rfl, (by exact rfl), (by exact rfl), (by exact rfl), ?_⟩; clear hS; intro _ hS; dsimp only [blit, List.set, List.cons_append, List.nil_append, Value.cells, List.toList_toArray] at hS))
  rename_i CF _ _ _ _ _
  refine (new_x hS c (unhide HR)).mono ?_
  rintro r u ⟨B, C, rfl, hWn, hSn⟩
  clear hS
  have hS := hSn
  clear hSn
  dsimp only [putL, List.set, List.cons_append, List.nil_append] at hS
  have HW0 := hide hWn
  clear hWn
  go_wp2_with (first | (refine wpx_box hS rfl _ _ rfl _ rfl _ (by intro _; simp only [Act.put, List.setIfInBounds_toArray, List.set_cons_zero, List.set_cons_succ]; first | done | exact rfl) ?_; clear hS; intro _ _ hS; dsimp only [blit, List.set, List.cons_append, List.nil_append, Value.cells, List.toList_toArray] at hS) | (refine wpx_alloc hS rfl _ rfl _ (zer_any2 rfl) _ (by intro _; simp only [Act.put, List.setIfInBounds_toArray, List.set_cons_zero, List.set_cons_succ]; first | done | exact rfl) ?_; clear hS; intro _ _ hS; dsimp only [blit, List.set, List.cons_append, List.nil_append, Value.cells, List.toList_toArray] at hS) | (refine wpx_ld hS rfl _ _ rfl _ _ rfl ?_; (first | refine ⟨0, _, rfl, ?_⟩ | refine ⟨1, _, rfl, ?_⟩ | refine ⟨2, _, rfl, ?_⟩ | refine ⟨3, _, rfl, ?_⟩ | refine ⟨4, _, rfl, ?_⟩ | refine ⟨5, _, rfl, ?_⟩ | refine ⟨6, _, rfl, ?_⟩ | refine ⟨7, _, rfl, ?_⟩ | refine ⟨8, _, rfl, ?_⟩ | refine ⟨9, _, rfl, ?_⟩); first | refine .inl ⟨_, one_any2 rfl, rfl, _, (by simp only [Act.put, List.setIfInBounds_toArray, List.set_cons_zero, List.set_cons_succ]; first | done | exact rfl), ?_⟩ | refine .inr ⟨_, _, row_any2 rfl, rfl, (by dsimp only [cutL, List.drop, List.take]; first | done | exact rfl), _, (by simp only [Act.put, List.setIfInBounds_toArray, List.set_cons_zero, List.set_cons_succ]; first | done | exact rfl), ?_⟩) | (refine wpx_st hS rfl _ _ _ rfl rfl _ _ rfl ?_; (first | refine ⟨0, _, rfl, ?_⟩ | refine ⟨1, _, rfl, ?_⟩ | refine ⟨2, _, rfl, ?_⟩ | refine ⟨3, _, rfl, ?_⟩ | refine ⟨4, _, rfl, ?_⟩ | refine ⟨5, _, rfl, ?_⟩ | refine ⟨6, _, rfl, ?_⟩ | refine ⟨7, _, rfl, ?_⟩ | refine ⟨8, _, rfl, ?_⟩ | refine ⟨9, _, rfl, ?_⟩); refine ⟨_, (by first | exact shA rfl | exact shI rfl | exact shB rfl | exact shS rfl | exact shP rfl | exact shF rfl | exact shN rfl), _, siz_any2 rfl, (by exact rfl), (by exact rfl), (by exact rfl), ?_⟩; clear hS; intro _ hS; dsimp only [blit, List.set, List.cons_append, List.nil_append, Value.cells, List.toList_toArray] at hS))
  rename_i SP _ _ _ _ _ _
  refine (pNew_any hS t).mono ?_
  rintro r u ⟨P, rfl, hSn⟩
  clear hS
  have hS := hSn
  clear hSn
  dsimp only [putL, List.set, List.cons_append, List.nil_append] at hS
  go_wp2_with fail
  refine (pNew_any hS t).mono ?_
  rintro r u ⟨Q, rfl, hSn⟩
  clear hS
  have hS := hSn
  clear hSn
  dsimp only [putL, List.set, List.cons_append, List.nil_append] at hS
  go_wp2_with fail
  go_loopw [55] (fun i wr => ∃ j : Nat, j ≤ 3 ∧ i = .int .i64 j ∧ Hid (WordsOk c (Um.pit c t ⟨Um.m00, 0, 0⟩ j).m) ∧ Hid ((Um.pit c t ⟨Um.m00, 0, 0⟩ j).st ≤ 2) ∧ Hid (Sx [] w wr [(CF, [.int .i64 c.t, .int .i64 c.s, .int .i64 c.k, .int .i64 c.g, .int .u64 c.q]), (B, memL c C (Um.pit c t ⟨Um.m00, 0, 0⟩ j).m), (C, rowW (Um.pit c t ⟨Um.m00, 0, 0⟩ j).m.ws c.n), (SP, [.int .i64 3, .int .i64 t]), (P, pinL P t (Um.pit c t ⟨Um.m00, 0, 0⟩ j).ep (Um.pit c t ⟨Um.m00, 0, 0⟩ j).st), (Q, pinL Q t 0 0)] [])) (fun i _ => 3 - (intOf i).toNat)
  case atStart => exact ⟨0, by decide, rfl, HW0, hide (show (0 : Nat) ≤ 2 by decide), hS⟩
  case round =>
    clear hS HW0
    rename_i wr
    obtain ⟨j, hj, rfl, HW, H2, HS⟩ := hrel
    have hS := unhide HS
    clear HS
    by_cases hlt : j < 3
    · have hlti : (j : Int) < 3 := by omega
      go_wp2_with fail
      refine (pStep_any hS 1 2 4 _ (Um.pit c t ⟨Um.m00, 0, 0⟩ (j + 1)) rfl (unhide H2) rfl rfl rfl (by decide) (by decide) (by decide) (unhide HR) (unhide HW) (unhide HT)).mono ?_
      rintro r u ⟨rfl, hWn, h2n, hSn⟩
      clear hS
      have hS := hSn
      clear hSn
      dsimp only [putL, List.set, List.cons_append, List.nil_append] at hS
      have HW6 := hide hWn
      clear hWn
      have H2n := hide h2n
      clear h2n
      have HS6 := hide hS
      clear hS
      go_wp2
      exact ⟨⟨j + 1, by omega, by go_num, HW6, H2n, HS6⟩, by simp [intOf]; omega⟩
    · obtain rfl : j = 3 := by omega
      clear hlt hj
      generalize hs1 : Um.pit c t ⟨Um.m00, 0, 0⟩ 3 = s1 at *
      clear hs1
      go_wp2_with (first | (refine wpx_box hS rfl _ _ rfl _ rfl _ (by intro _; simp only [Act.put, List.setIfInBounds_toArray, List.set_cons_zero, List.set_cons_succ]; first | done | exact rfl) ?_; clear hS; intro _ _ hS; dsimp only [blit, List.set, List.cons_append, List.nil_append, Value.cells, List.toList_toArray] at hS) | (refine wpx_alloc hS rfl _ rfl _ (zer_any2 rfl) _ (by intro _; simp only [Act.put, List.setIfInBounds_toArray, List.set_cons_zero, List.set_cons_succ]; first | done | exact rfl) ?_; clear hS; intro _ _ hS; dsimp only [blit, List.set, List.cons_append, List.nil_append, Value.cells, List.toList_toArray] at hS) | (refine wpx_ld hS rfl _ _ rfl _ _ rfl ?_; (first | refine ⟨0, _, rfl, ?_⟩ | refine ⟨1, _, rfl, ?_⟩ | refine ⟨2, _, rfl, ?_⟩ | refine ⟨3, _, rfl, ?_⟩ | refine ⟨4, _, rfl, ?_⟩ | refine ⟨5, _, rfl, ?_⟩ | refine ⟨6, _, rfl, ?_⟩ | refine ⟨7, _, rfl, ?_⟩ | refine ⟨8, _, rfl, ?_⟩ | refine ⟨9, _, rfl, ?_⟩); first | refine .inl ⟨_, one_any2 rfl, rfl, _, (by simp only [Act.put, List.setIfInBounds_toArray, List.set_cons_zero, List.set_cons_succ]; first | done | exact rfl), ?_⟩ | refine .inr ⟨_, _, row_any2 rfl, rfl, (by dsimp only [cutL, List.drop, List.take]; first | done | exact rfl), _, (by simp only [Act.put, List.setIfInBounds_toArray, List.set_cons_zero, List.set_cons_succ]; first | done | exact rfl), ?_⟩) | (refine wpx_st hS rfl _ _ _ rfl rfl _ _ rfl ?_; (first | refine ⟨0, _, rfl, ?_⟩ | refine ⟨1, _, rfl, ?_⟩ | refine ⟨2, _, rfl, ?_⟩ | refine ⟨3, _, rfl, ?_⟩ | refine ⟨4, _, rfl, ?_⟩ | refine ⟨5, _, rfl, ?_⟩ | refine ⟨6, _, rfl, ?_⟩ | refine ⟨7, _, rfl, ?_⟩ | refine ⟨8, _, rfl, ?_⟩ | refine ⟨9, _, rfl, ?_⟩); refine ⟨_, (by first | exact shA rfl | exact shI rfl | exact shB rfl | exact shS rfl | exact shP rfl | exact shF rfl | exact shN rfl), _, siz_any2 rfl, (by exact rfl), (by exact rfl), (by exact rfl), ?_⟩; clear hS; intro _ hS; dsimp only [blit, List.set, List.cons_append, List.nil_append, Value.cells, List.toList_toArray] at hS))
      refine (mLoad_x hS 1 2 rfl rfl (by decide) (unhide HR) (unhide HW) 3 t (unhide HT).1 (unhide HT).2 _ rfl).mono ?_
      rintro r u ⟨rfl, hWn, hSn⟩
      clear hS
      have hS := hSn
      clear hSn
      dsimp only [putL, List.set, List.cons_append, List.nil_append] at hS
      have HW1 := hide hWn
      clear hWn
      rw [unhide HX]
      clear HX
      go_wp2_with fail
      refine (pLeave_x hS 1 2 rfl rfl (by decide) (unhide HR) (unhide HW1) t (unhide HT) _ rfl).mono ?_
      rintro r u ⟨rfl, hWn, hSn⟩
      clear hS
      have hS := hSn
      clear hSn
      dsimp only [putL, List.set, List.cons_append, List.nil_append] at hS
      have HW2 := hide hWn
      clear hWn
      go_wp2_with fail
      refine (mAdd_x hS 1 2 rfl rfl (by decide) (unhide HR) (unhide HW2) 2 0 q (unhide HQ) (by decide) (by decide) _ rfl).mono ?_
      rintro r u ⟨rfl, hWn, hSn⟩
      clear hS
      have hS := hSn
      clear hSn
      dsimp only [putL, List.set, List.cons_append, List.nil_append] at hS
      have HW3 := hide hWn
      clear hWn
      generalize hm3 : Um.mtouch c (Um.mtouch c (Um.mtouch c s1.m 1 3 t 0 0) 2 3 t 0 0) 4 2 0 0 q = m3 at *
      clear hm3
      go_wp2_with fail
      go_loopw [72] (fun i wr => ∃ k : Nat, k ≤ 3 ∧ i = .int .i64 k ∧ Hid (WordsOk c (Um.pit c t ⟨m3, 0, 0⟩ k).m) ∧ Hid ((Um.pit c t ⟨m3, 0, 0⟩ k).st ≤ 2) ∧ Hid (Sx [] w wr [(CF, [.int .i64 c.t, .int .i64 c.s, .int .i64 c.k, .int .i64 c.g, .int .u64 c.q]), (B, memL c C (Um.pit c t ⟨m3, 0, 0⟩ k).m), (C, rowW (Um.pit c t ⟨m3, 0, 0⟩ k).m.ws c.n), (SP, [.int .i64 3, .int .i64 t]), (P, pinL P t s1.ep s1.st), (Q, pinL Q t (Um.pit c t ⟨m3, 0, 0⟩ k).ep (Um.pit c t ⟨m3, 0, 0⟩ k).st)] [])) (fun i _ => 3 - (intOf i).toNat)
      case atStart => exact ⟨0, by decide, rfl, HW3, hide (show (0 : Nat) ≤ 2 by decide), hS⟩
      case round =>
        clear hS HW HW1 HW2 HW3 H2
        rename_i wr
        obtain ⟨k, hk, rfl, HW, H2, HS⟩ := hrel
        have hS := unhide HS
        clear HS
        by_cases hlt : k < 3
        · have hlti : (k : Int) < 3 := by omega
          go_wp2_with fail
          refine (pStep_any hS 1 2 5 _ (Um.pit c t ⟨m3, 0, 0⟩ (k + 1)) rfl (unhide H2) rfl rfl rfl (by decide) (by decide) (by decide) (unhide HR) (unhide HW) (unhide HT)).mono ?_
          rintro r u ⟨rfl, hWn, h2n, hSn⟩
          clear hS
          have hS := hSn
          clear hSn
          dsimp only [putL, List.set, List.cons_append, List.nil_append] at hS
          have HW6 := hide hWn
          clear hWn
          have H2n := hide h2n
          clear h2n
          have HS6 := hide hS
          clear hS
          go_wp2
          exact ⟨⟨k + 1, by omega, by go_num, HW6, H2n, HS6⟩, by simp [intOf]; omega⟩
        · obtain rfl : k = 3 := by omega
          clear hlt hk
          go_wp2_with fail
          refine (pAlive_any _).mono ?_
          rintro r u ⟨rfl, hb⟩
          replace hS := hS.call hb
          clear hb
          go_wp2_with (first | (refine wpx_box hS rfl _ _ rfl _ rfl _ (by intro _; simp only [Act.put, List.setIfInBounds_toArray, List.set_cons_zero, List.set_cons_succ]; first | done | exact rfl) ?_; clear hS; intro _ _ hS; dsimp only [blit, List.set, List.cons_append, List.nil_append, Value.cells, List.toList_toArray] at hS) | (refine wpx_alloc hS rfl _ rfl _ (zer_any2 rfl) _ (by intro _; simp only [Act.put, List.setIfInBounds_toArray, List.set_cons_zero, List.set_cons_succ]; first | done | exact rfl) ?_; clear hS; intro _ _ hS; dsimp only [blit, List.set, List.cons_append, List.nil_append, Value.cells, List.toList_toArray] at hS) | (refine wpx_ld hS rfl _ _ rfl _ _ rfl ?_; (first | refine ⟨0, _, rfl, ?_⟩ | refine ⟨1, _, rfl, ?_⟩ | refine ⟨2, _, rfl, ?_⟩ | refine ⟨3, _, rfl, ?_⟩ | refine ⟨4, _, rfl, ?_⟩ | refine ⟨5, _, rfl, ?_⟩ | refine ⟨6, _, rfl, ?_⟩ | refine ⟨7, _, rfl, ?_⟩ | refine ⟨8, _, rfl, ?_⟩ | refine ⟨9, _, rfl, ?_⟩); first | refine .inl ⟨_, one_any2 rfl, rfl, _, (by simp only [Act.put, List.setIfInBounds_toArray, List.set_cons_zero, List.set_cons_succ]; first | done | exact rfl), ?_⟩ | refine .inr ⟨_, _, row_any2 rfl, rfl, (by dsimp only [cutL, List.drop, List.take]; first | done | exact rfl), _, (by simp only [Act.put, List.setIfInBounds_toArray, List.set_cons_zero, List.set_cons_succ]; first | done | exact rfl), ?_⟩) | (refine wpx_st hS rfl _ _ _ rfl rfl _ _ rfl ?_; (first | refine ⟨0, _, rfl, ?_⟩ | refine ⟨1, _, rfl, ?_⟩ | refine ⟨2, _, rfl, ?_⟩ | refine ⟨3, _, rfl, ?_⟩ | refine ⟨4, _, rfl, ?_⟩ | refine ⟨5, _, rfl, ?_⟩ | refine ⟨6, _, rfl, ?_⟩ | refine ⟨7, _, rfl, ?_⟩ | refine ⟨8, _, rfl, ?_⟩ | refine ⟨9, _, rfl, ?_⟩); refine ⟨_, (by first | exact shA rfl | exact shI rfl | exact shB rfl | exact shS rfl | exact shP rfl | exact shF rfl | exact shN rfl), _, siz_any2 rfl, (by exact rfl), (by exact rfl), (by exact rfl), ?_⟩; clear hS; intro _ hS; dsimp only [blit, List.set, List.cons_append, List.nil_append, Value.cells, List.toList_toArray] at hS))
          refine (mLoad_x hS 1 2 rfl rfl (by decide) (unhide HR) (unhide HW) 3 t (unhide HT).1 (unhide HT).2 _ rfl).mono ?_
          rintro r u ⟨rfl, hWn, hSn⟩
          clear hS
          have hS := hSn
          clear hSn
          dsimp only [putL, List.set, List.cons_append, List.nil_append] at hS
          have HW8 := hide hWn
          clear hWn
          rw [unhide HY]
          have hB := hS.bel
          clear hS
          go_wp2
          go_ret
          exact ⟨rfl, hB⟩

theorem walk {H : Type} {enc : TypeId × Value → H} {base : Nat} {v0 : Value} {d0 : DataW H} {p0 : List MemPlace} (w : World)
    (hv0 : Value.okWide Try.prog w .any base 24 v0) (h0 : DataW.Trod enc Try.prog w 0 (fun _ => true) true 24 v0 d0 p0) (t : Int) (wt : (Lit.int .i64 t).wf = true) (q : Int) (wq : (Lit.int .i64 q).wf = true) :
    Calls Try.prog 9 #[v0, .int .i64 t, .int .i64 q] w fun e w' => e = .returned (.bool true) ∧ Below w.heap.size w w' := by
  obtain ⟨t0, s, k, g, q0, rfl, _⟩ := open_cfg hv0 h0
  cases hr : (⟨t0, s, k, g, q0⟩ : Um.Cf).r with
  | false => exact walk_wrong w ⟨t0, s, k, g, q0⟩ t q hr
  | true =>
    by_cases h1 : t < 0
    · exact walk_neg w ⟨t0, s, k, g, q0⟩ t q hr h1
    by_cases h2 : t0 ≤ t
    · exact walk_big w ⟨t0, s, k, g, q0⟩ t q hr h1 h2
    by_cases h3 : q < 0
    · exact walk_tneg w ⟨t0, s, k, g, q0⟩ t q hr h1 h2 h3
    by_cases h4 : 1000 < q
    · exact walk_tbig w ⟨t0, s, k, g, q0⟩ t q hr h1 h2 h3 h4
    obtain ⟨n, rfl⟩ : ∃ n : Nat, q = n := ⟨q.toNat, by omega⟩
    exact walk_right w ⟨t0, s, k, g, q0⟩ t n hr h1 h2 h3 h4

set_option maxRecDepth 100000 in
theorem lifted (os : Os) (started : os.Started) (H : Type) (enc : TypeId × Value → H) :
    ReturnsInHanded {} Try.checked os 9 .any (Rows.pinTwiceSpec.pre6 enc Try.prog Try.f9 Rows.pinTwiceRow.domain false) (Rows.pinTwiceSpec.post enc Try.prog Try.f9 false true false false) := by
  refine returnsInHanded_of_change (C := Try.checked) own started (by kernel_rfl) Try.func9
    (ChangeSpec.witness6 (enc := enc) (C := Try.checked) false ⟨#[], #[.agg #[.int .i64 0, .int .i64 0, .int .i64 0, .int .i64 0, .int .u64 0], .int .i64 0, .int .i64 0], []⟩ 8 (by kernel_rfl) (by kernel_rfl) (by kernel_rfl) (by kernel_rfl)) ?_
  intro W base args ds gs before hval0 hW hcnd _
  have hval : ∀ (j : Nat) t v, Try.f9.params[j]? = some t → args[j]? = some v → Value.okWide Try.prog W .any base t v := hval0
  have hW' := hW
  obtain ⟨p, q, hA0, hV, rfl, hfz, hnd⟩ := hW
  have hA : DataW.TrodAll enc Try.prog W 0 (fun _ => true) true Try.f9.params.toList args.toList ds p := hA0
  rw [Try.params9] at hA hval
  obtain ⟨v0, vs0, d0, ds0, p0, q0, hargs, rfl, rfl, h0, r0⟩ := trodAll_cons hA
  obtain ⟨v1, vs1, d1, ds1, p1, q1, rfl, rfl, rfl, h1, r1⟩ := trodAll_cons r0
  obtain ⟨v2, vs2, d2, ds2, p2, q2, rfl, rfl, rfl, h2, r2⟩ := trodAll_cons r1
  obtain ⟨rfl, rfl, rfl⟩ := trodAll_nil r2
  obtain rfl : args = #[v0, v1, v2] := by cases args; simp_all
  obtain ⟨rfl, rfl⟩ := trodVars_none hV
  have k0 := h0
  have lt0 : ∀ x ∈ p0, x.block < W.heap.size := by obtain ⟨m, hm⟩ := k0; exact DataW.trod_lt m _ _ _ hm
  have k1 := h1
  have lt1 : ∀ x ∈ p1, x.block < W.heap.size := by obtain ⟨m, hm⟩ := k1; exact DataW.trod_lt m _ _ _ hm
  have k2 := h2
  have lt2 : ∀ x ∈ p2, x.block < W.heap.size := by obtain ⟨m, hm⟩ := k2; exact DataW.trod_lt m _ _ _ hm
  obtain ⟨a1, rfl, hd1, hp1, w1⟩ := open_int Try.underlying3 (hval 1 3 v1 rfl rfl) h1
  obtain ⟨a2, rfl, hd2, hp2, w2⟩ := open_int Try.underlying3 (hval 2 3 v2 rfl rfl) h2
  refine (walk W (hval 0 24 v0 rfl rfl) h0 a1 w1 a2 w2).mono fun e W' ⟨he, bel⟩ => ?_
  subst he
  exact ⟨_, rfl, _, _, _, [], _, [], hW', trodAll_mk1 (shut_bool Try.underlying4 _), (trodAll_cons_mk (Below.trod laidOut (by kernel_rfl) (of_decide_eq_true (by kernel_rfl)) k0 bel lt0) (trodAll_cons_mk (Below.trod laidOut (by kernel_rfl) (of_decide_eq_true (by kernel_rfl)) k1 bel lt1) (trodAll_cons_mk (Below.trod laidOut (by kernel_rfl) (of_decide_eq_true (by kernel_rfl)) k2 bel lt2) trodAll_mk0))), rfl, bel.frame _, fun h => by cases h⟩

theorem PinTwice_proved : Rows.PinTwiceSaid :=
  OpenClaim.holds_of_wide 9 Try.f9 rfl rfl rfl rfl rfl rfl rfl ⟨rfl, rfl, rfl, rfl, rfl⟩ rfl rfl rfl rfl rfl (by kernel_rfl) Try.func9 (by kernel_rfl)
    (of_decide_eq_true (by kernel_rfl)) (by unfold Func.isWrapper; first | (rw [if_pos (by decide +kernel)]; kernel_rfl) | (rw [if_neg (by decide +kernel)]; exact ⟨rfl, rfl⟩))
    (fun os started H enc _ => lifted os started H enc)

end Go.Proofs.Ytjicfonpldobdaa.pinTwice
