/-
  For every world's size, slot and row of sides, the law HelpSides answers true: whoever lays conflicts to its transaction while a help goes on, none of them is lost, and it is committed at the end. Conditions: none.
-/
import Derived.Test.YtglmniciojemfaaRows
import Derived.Test.YtglmniciojemfaaM11
import Derived.Test.YtglmniciojemfaaM6
import Derived.WalkKit
import Derived.ProofKit
import Derived.OpenShut
import Derived.ShutString
import Derived.LoopTactic
namespace Go.Proofs.Ytglmniciojemfaa.helpSides
set_option maxRecDepth 100000
open Go.ChangeShapes Go.WideShapes Go.ChangeAt Go.RowKit Go.Sort
set_option linter.unusedVariables false

theorem own : ownKnob Try.prog.godebug = none := by kernel_rfl
theorem laidOut : laidOutB Try.prog = true := by kernel_rfl

theorem with_ex (x : Nat) (a b : Int) (w : World) (hx : Um.Word x) :
    Calls Try.prog 33 #[.int .u64 x, .int .i64 a, .int .i64 b] w fun e w' => ∃ a', a' = a ∧ e = .returned (.int .u64 (Um.withN x a' b : Nat)) ∧ w' = w :=
  (refWith_any x a b w hx).mono fun _ _ ⟨h1, h2⟩ => ⟨a, rfl, h1, h2⟩

set_option maxHeartbeats 2000000 in
theorem walk_wrong (w : World) (c : Um.Cf) (sl : Int) (la : Option Addr) (nl cl : Nat) (h : c.r = false) :
    Calls Try.prog 7 #[(.agg #[.int .i64 (c.t), .int .i64 (c.s), .int .i64 (c.k), .int .i64 (c.g), .int .u64 (c.q : Int)]), .int .i64 sl, .slice la nl cl] w fun e w' => e = .returned (.bool true) ∧ Below w.heap.size w w' := by
  have HL := hide (fun w => sNew_wrong c w h)
  clear h
  have hS := Sx.new w
  go_enter Try.func7, Try.ntmps7
  go_wp2_with (first | (refine wpx_box hS rfl _ _ rfl _ rfl _ (by intro _; simp only [Act.put, List.setIfInBounds_toArray, List.set_cons_zero, List.set_cons_succ]; first | done | exact rfl) ?_; clear hS; intro _ _ hS; dsimp only [blit, List.set, List.cons_append, List.nil_append, Value.cells, List.toList_toArray] at hS) | (refine wpx_alloc hS rfl _ rfl _ (zer_any2 rfl) _ (by intro _; simp only [Act.put, List.setIfInBounds_toArray, List.set_cons_zero, List.set_cons_succ]; first | done | exact rfl) ?_; clear hS; intro _ _ hS; dsimp only [blit, List.set, List.cons_append, List.nil_append, Value.cells, List.toList_toArray] at hS) | (refine wpx_ld hS rfl _ _ rfl _ _ rfl ?_; (first | refine ⟨0, _, rfl, ?_⟩ | refine ⟨1, _, rfl, ?_⟩ | refine ⟨2, _, rfl, ?_⟩ | refine ⟨3, _, rfl, ?_⟩ | refine ⟨4, _, rfl, ?_⟩ | refine ⟨5, _, rfl, ?_⟩ | refine ⟨6, _, rfl, ?_⟩ | refine ⟨7, _, rfl, ?_⟩ | refine ⟨8, _, rfl, ?_⟩ | refine ⟨9, _, rfl, ?_⟩); first | refine .inl ⟨_, one_any2 rfl, rfl, _, (by simp only [Act.put, List.setIfInBounds_toArray, List.set_cons_zero, List.set_cons_succ]; first | done | exact rfl), ?_⟩ | refine .inr ⟨_, _, row_any2 rfl, rfl, (by dsimp only [cutL, List.drop, List.take]; first | done | exact rfl), _, (by simp only [Act.put, List.setIfInBounds_toArray, List.set_cons_zero, List.set_cons_succ]; first | done | exact rfl), ?_⟩) | (refine wpx_st hS rfl _ _ _ rfl rfl _ _ rfl ?_; (first | refine ⟨0, _, rfl, ?_⟩ | refine ⟨1, _, rfl, ?_⟩ | refine ⟨2, _, rfl, ?_⟩ | refine ⟨3, _, rfl, ?_⟩ | refine ⟨4, _, rfl, ?_⟩ | refine ⟨5, _, rfl, ?_⟩ | refine ⟨6, _, rfl, ?_⟩ | refine ⟨7, _, rfl, ?_⟩ | refine ⟨8, _, rfl, ?_⟩ | refine ⟨9, _, rfl, ?_⟩); refine ⟨_, (by first | exact shA rfl | exact shI rfl | exact shB rfl | exact shS rfl | exact shP rfl | exact shF rfl | exact shN rfl), _, siz_any2 rfl, (by exact rfl), (by exact rfl), (by exact rfl), ?_⟩; clear hS; intro _ hS; dsimp only [blit, List.set, List.cons_append, List.nil_append, Value.cells, List.toList_toArray] at hS))
  refine ((unhide HL) _).mono ?_
  rintro r u ⟨rfl, hb⟩
  replace hS := hS.call hb
  clear hb HL
  go_wp2_with fail
  refine (hAlive_any _).mono ?_
  rintro r u ⟨rfl, hb⟩
  replace hS := hS.call hb
  have hB := hS.bel
  clear hb hS
  go_wp2
  go_ret
  exact ⟨rfl, hB⟩

set_option maxHeartbeats 2000000 in
theorem walk_neg (w : World) (c : Um.Cf) (sl : Int) (la : Option Addr) (nl cl : Nat) (h : c.r = true) (hp : sl < 0) :
    Calls Try.prog 7 #[(.agg #[.int .i64 (c.t), .int .i64 (c.s), .int .i64 (c.k), .int .i64 (c.g), .int .u64 (c.q : Int)]), .int .i64 sl, .slice la nl cl] w fun e w' => e = .returned (.bool true) ∧ Below w.heap.size w w' := by
  have p1 : sl < 0 := hp
  have p2 : decide (sl < 0) = true := decide_eq_true p1
  clear hp
  have HR := hide h
  clear h
  have hS := Sx.new w
  go_enter Try.func7, Try.ntmps7
  go_wp2_with (first | (refine wpx_box hS rfl _ _ rfl _ rfl _ (by intro _; simp only [Act.put, List.setIfInBounds_toArray, List.set_cons_zero, List.set_cons_succ]; first | done | exact rfl) ?_; clear hS; intro _ _ hS; dsimp only [blit, List.set, List.cons_append, List.nil_append, Value.cells, List.toList_toArray] at hS) | (refine wpx_alloc hS rfl _ rfl _ (zer_any2 rfl) _ (by intro _; simp only [Act.put, List.setIfInBounds_toArray, List.set_cons_zero, List.set_cons_succ]; first | done | exact rfl) ?_; clear hS; intro _ _ hS; dsimp only [blit, List.set, List.cons_append, List.nil_append, Value.cells, List.toList_toArray] at hS) | (refine wpx_ld hS rfl _ _ rfl _ _ rfl ?_; (first | refine ⟨0, _, rfl, ?_⟩ | refine ⟨1, _, rfl, ?_⟩ | refine ⟨2, _, rfl, ?_⟩ | refine ⟨3, _, rfl, ?_⟩ | refine ⟨4, _, rfl, ?_⟩ | refine ⟨5, _, rfl, ?_⟩ | refine ⟨6, _, rfl, ?_⟩ | refine ⟨7, _, rfl, ?_⟩ | refine ⟨8, _, rfl, ?_⟩ | refine ⟨9, _, rfl, ?_⟩); first | refine .inl ⟨_, one_any2 rfl, rfl, _, (by simp only [Act.put, List.setIfInBounds_toArray, List.set_cons_zero, List.set_cons_succ]; first | done | exact rfl), ?_⟩ | refine .inr ⟨_, _, row_any2 rfl, rfl, (by dsimp only [cutL, List.drop, List.take]; first | done | exact rfl), _, (by simp only [Act.put, List.setIfInBounds_toArray, List.set_cons_zero, List.set_cons_succ]; first | done | exact rfl), ?_⟩) | (refine wpx_st hS rfl _ _ _ rfl rfl _ _ rfl ?_; (first | refine ⟨0, _, rfl, ?_⟩ | refine ⟨1, _, rfl, ?_⟩ | refine ⟨2, _, rfl, ?_⟩ | refine ⟨3, _, rfl, ?_⟩ | refine ⟨4, _, rfl, ?_⟩ | refine ⟨5, _, rfl, ?_⟩ | refine ⟨6, _, rfl, ?_⟩ | refine ⟨7, _, rfl, ?_⟩ | refine ⟨8, _, rfl, ?_⟩ | refine ⟨9, _, rfl, ?_⟩); refine ⟨_, (by first | exact shA rfl | exact shI rfl | exact shB rfl | exact shS rfl | exact shP rfl | exact shF rfl | exact shN rfl), _, siz_any2 rfl, (by exact rfl), (by exact rfl), (by exact rfl), ?_⟩; clear hS; intro _ hS; dsimp only [blit, List.set, List.cons_append, List.nil_append, Value.cells, List.toList_toArray] at hS))
  refine (new_x hS c (unhide HR)).mono ?_
  rintro r u ⟨B, C, rfl, hWn, hSn⟩
  clear hS
  have hS := hSn
  clear hSn
  dsimp only [putL, List.set, List.cons_append, List.nil_append] at hS
  have HW0 := hide hWn
  clear hWn
  go_wp2_with fail
  refine (hAlive_any _).mono ?_
  rintro r u ⟨rfl, hb⟩
  replace hS := hS.call hb
  have hB := hS.bel
  clear hb hS
  go_wp2
  go_ret
  exact ⟨rfl, hB⟩

set_option maxHeartbeats 2000000 in
theorem walk_big (w : World) (c : Um.Cf) (sl : Int) (la : Option Addr) (nl cl : Nat) (h : c.r = true) (hp0 : 0 ≤ sl) (hp1 : c.s ≤ sl) :
    Calls Try.prog 7 #[(.agg #[.int .i64 (c.t), .int .i64 (c.s), .int .i64 (c.k), .int .i64 (c.g), .int .u64 (c.q : Int)]), .int .i64 sl, .slice la nl cl] w fun e w' => e = .returned (.bool true) ∧ Below w.heap.size w w' := by
  have p1 : ¬ sl < 0 := by omega
  have p2 : decide (sl < 0) = false := decide_eq_false p1
  have p3 : c.s ≤ sl := hp1
  have p4 : decide (c.s ≤ sl) = true := decide_eq_true p3
  clear hp1
  have HR := hide h
  clear h
  have hS := Sx.new w
  go_enter Try.func7, Try.ntmps7
  go_wp2_with (first | (refine wpx_box hS rfl _ _ rfl _ rfl _ (by intro _; simp only [Act.put, List.setIfInBounds_toArray, List.set_cons_zero, List.set_cons_succ]; first | done | exact rfl) ?_; clear hS; intro _ _ hS; dsimp only [blit, List.set, List.cons_append, List.nil_append, Value.cells, List.toList_toArray] at hS) | (refine wpx_alloc hS rfl _ rfl _ (zer_any2 rfl) _ (by intro _; simp only [Act.put, List.setIfInBounds_toArray, List.set_cons_zero, List.set_cons_succ]; first | done | exact rfl) ?_; clear hS; intro _ _ hS; dsimp only [blit, List.set, List.cons_append, List.nil_append, Value.cells, List.toList_toArray] at hS) | (refine wpx_ld hS rfl _ _ rfl _ _ rfl ?_; (first | refine ⟨0, _, rfl, ?_⟩ | refine ⟨1, _, rfl, ?_⟩ | refine ⟨2, _, rfl, ?_⟩ | refine ⟨3, _, rfl, ?_⟩ | refine ⟨4, _, rfl, ?_⟩ | refine ⟨5, _, rfl, ?_⟩ | refine ⟨6, _, rfl, ?_⟩ | refine ⟨7, _, rfl, ?_⟩ | refine ⟨8, _, rfl, ?_⟩ | refine ⟨9, _, rfl, ?_⟩); first | refine .inl ⟨_, one_any2 rfl, rfl, _, (by simp only [Act.put, List.setIfInBounds_toArray, List.set_cons_zero, List.set_cons_succ]; first | done | exact rfl), ?_⟩ | refine .inr ⟨_, _, row_any2 rfl, rfl, (by dsimp only [cutL, List.drop, List.take]; first | done | exact rfl), _, (by simp only [Act.put, List.setIfInBounds_toArray, List.set_cons_zero, List.set_cons_succ]; first | done | exact rfl), ?_⟩) | (refine wpx_st hS rfl _ _ _ rfl rfl _ _ rfl ?_; (first | refine ⟨0, _, rfl, ?_⟩ | refine ⟨1, _, rfl, ?_⟩ | refine ⟨2, _, rfl, ?_⟩ | refine ⟨3, _, rfl, ?_⟩ | refine ⟨4, _, rfl, ?_⟩ | refine ⟨5, _, rfl, ?_⟩ | refine ⟨6, _, rfl, ?_⟩ | refine ⟨7, _, rfl, ?_⟩ | refine ⟨8, _, rfl, ?_⟩ | refine ⟨9, _, rfl, ?_⟩); refine ⟨_, (by first | exact shA rfl | exact shI rfl | exact shB rfl | exact shS rfl | exact shP rfl | exact shF rfl | exact shN rfl), _, siz_any2 rfl, (by exact rfl), (by exact rfl), (by exact rfl), ?_⟩; clear hS; intro _ hS; dsimp only [blit, List.set, List.cons_append, List.nil_append, Value.cells, List.toList_toArray] at hS))
  refine (new_x hS c (unhide HR)).mono ?_
  rintro r u ⟨B, C, rfl, hWn, hSn⟩
  clear hS
  have hS := hSn
  clear hSn
  dsimp only [putL, List.set, List.cons_append, List.nil_append] at hS
  have HW0 := hide hWn
  clear hWn
  go_wp2_with (first | (refine wpx_box hS rfl _ _ rfl _ rfl _ (by intro _; simp only [Act.put, List.setIfInBounds_toArray, List.set_cons_zero, List.set_cons_succ]; first | done | exact rfl) ?_; clear hS; intro _ _ hS; dsimp only [blit, List.set, List.cons_append, List.nil_append, Value.cells, List.toList_toArray] at hS) | (refine wpx_alloc hS rfl _ rfl _ (zer_any2 rfl) _ (by intro _; simp only [Act.put, List.setIfInBounds_toArray, List.set_cons_zero, List.set_cons_succ]; first | done | exact rfl) ?_; clear hS; intro _ _ hS; dsimp only [blit, List.set, List.cons_append, List.nil_append, Value.cells, List.toList_toArray] at hS) | (refine wpx_ld hS rfl _ _ rfl _ _ rfl ?_; (first | refine ⟨0, _, rfl, ?_⟩ | refine ⟨1, _, rfl, ?_⟩ | refine ⟨2, _, rfl, ?_⟩ | refine ⟨3, _, rfl, ?_⟩ | refine ⟨4, _, rfl, ?_⟩ | refine ⟨5, _, rfl, ?_⟩ | refine ⟨6, _, rfl, ?_⟩ | refine ⟨7, _, rfl, ?_⟩ | refine ⟨8, _, rfl, ?_⟩ | refine ⟨9, _, rfl, ?_⟩); first | refine .inl ⟨_, one_any2 rfl, rfl, _, (by simp only [Act.put, List.setIfInBounds_toArray, List.set_cons_zero, List.set_cons_succ]; first | done | exact rfl), ?_⟩ | refine .inr ⟨_, _, row_any2 rfl, rfl, (by dsimp only [cutL, List.drop, List.take]; first | done | exact rfl), _, (by simp only [Act.put, List.setIfInBounds_toArray, List.set_cons_zero, List.set_cons_succ]; first | done | exact rfl), ?_⟩) | (refine wpx_st hS rfl _ _ _ rfl rfl _ _ rfl ?_; (first | refine ⟨0, _, rfl, ?_⟩ | refine ⟨1, _, rfl, ?_⟩ | refine ⟨2, _, rfl, ?_⟩ | refine ⟨3, _, rfl, ?_⟩ | refine ⟨4, _, rfl, ?_⟩ | refine ⟨5, _, rfl, ?_⟩ | refine ⟨6, _, rfl, ?_⟩ | refine ⟨7, _, rfl, ?_⟩ | refine ⟨8, _, rfl, ?_⟩ | refine ⟨9, _, rfl, ?_⟩); refine ⟨_, (by first | exact shA rfl | exact shI rfl | exact shB rfl | exact shS rfl | exact shP rfl | exact shF rfl | exact shN rfl), _, siz_any2 rfl, (by exact rfl), (by exact rfl), (by exact rfl), ?_⟩; clear hS; intro _ hS; dsimp only [blit, List.set, List.cons_append, List.nil_append, Value.cells, List.toList_toArray] at hS))
  refine (hAlive_any _).mono ?_
  rintro r u ⟨rfl, hb⟩
  replace hS := hS.call hb
  have hB := hS.bel
  clear hb hS
  go_wp2
  go_ret
  exact ⟨rfl, hB⟩

set_option maxHeartbeats 2000000 in
theorem walk_long (w : World) (c : Um.Cf) (sl : Int) (la : Option Addr) (nl cl : Nat) (h : c.r = true) (hp0 : 0 ≤ sl) (hp1 : sl < c.s) (hb : 20 < nl) :
    Calls Try.prog 7 #[(.agg #[.int .i64 (c.t), .int .i64 (c.s), .int .i64 (c.k), .int .i64 (c.g), .int .u64 (c.q : Int)]), .int .i64 sl, .slice la nl cl] w fun e w' => e = .returned (.bool true) ∧ Below w.heap.size w w' := by
  have p1 : ¬ sl < 0 := by omega
  have p2 : decide (sl < 0) = false := decide_eq_false p1
  have p3 : ¬ c.s ≤ sl := by omega
  have p4 : decide (c.s ≤ sl) = false := decide_eq_false p3
  have b1 : (20 : Int) < (nl : Int) := by omega
  have b2 : decide ((20 : Int) < (nl : Int)) = true := decide_eq_true b1
  have HR := hide h
  clear h
  have hS := Sx.new w
  go_enter Try.func7, Try.ntmps7
  go_wp2_with (first | (refine wpx_box hS rfl _ _ rfl _ rfl _ (by intro _; simp only [Act.put, List.setIfInBounds_toArray, List.set_cons_zero, List.set_cons_succ]; first | done | exact rfl) ?_; clear hS; intro _ _ hS; dsimp only [blit, List.set, List.cons_append, List.nil_append, Value.cells, List.toList_toArray] at hS) | (refine wpx_alloc hS rfl _ rfl _ (zer_any2 rfl) _ (by intro _; simp only [Act.put, List.setIfInBounds_toArray, List.set_cons_zero, List.set_cons_succ]; first | done | exact rfl) ?_; clear hS; intro _ _ hS; dsimp only [blit, List.set, List.cons_append, List.nil_append, Value.cells, List.toList_toArray] at hS) | (refine wpx_ld hS rfl _ _ rfl _ _ rfl ?_; (first | refine ⟨0, _, rfl, ?_⟩ | refine ⟨1, _, rfl, ?_⟩ | refine ⟨2, _, rfl, ?_⟩ | refine ⟨3, _, rfl, ?_⟩ | refine ⟨4, _, rfl, ?_⟩ | refine ⟨5, _, rfl, ?_⟩ | refine ⟨6, _, rfl, ?_⟩ | refine ⟨7, _, rfl, ?_⟩ | refine ⟨8, _, rfl, ?_⟩ | refine ⟨9, _, rfl, ?_⟩); first | refine .inl ⟨_, one_any2 rfl, rfl, _, (by simp only [Act.put, List.setIfInBounds_toArray, List.set_cons_zero, List.set_cons_succ]; first | done | exact rfl), ?_⟩ | refine .inr ⟨_, _, row_any2 rfl, rfl, (by dsimp only [cutL, List.drop, List.take]; first | done | exact rfl), _, (by simp only [Act.put, List.setIfInBounds_toArray, List.set_cons_zero, List.set_cons_succ]; first | done | exact rfl), ?_⟩) | (refine wpx_st hS rfl _ _ _ rfl rfl _ _ rfl ?_; (first | refine ⟨0, _, rfl, ?_⟩ | refine ⟨1, _, rfl, ?_⟩ | refine ⟨2, _, rfl, ?_⟩ | refine ⟨3, _, rfl, ?_⟩ | refine ⟨4, _, rfl, ?_⟩ | refine ⟨5, _, rfl, ?_⟩ | refine ⟨6, _, rfl, ?_⟩ | refine ⟨7, _, rfl, ?_⟩ | refine ⟨8, _, rfl, ?_⟩ | refine ⟨9, _, rfl, ?_⟩); refine ⟨_, (by first | exact shA rfl | exact shI rfl | exact shB rfl | exact shS rfl | exact shP rfl | exact shF rfl | exact shN rfl), _, siz_any2 rfl, (by exact rfl), (by exact rfl), (by exact rfl), ?_⟩; clear hS; intro _ hS; dsimp only [blit, List.set, List.cons_append, List.nil_append, Value.cells, List.toList_toArray] at hS))
  refine (new_x hS c (unhide HR)).mono ?_
  rintro r u ⟨B, C, rfl, hWn, hSn⟩
  clear hS
  have hS := hSn
  clear hSn
  dsimp only [putL, List.set, List.cons_append, List.nil_append] at hS
  have HW0 := hide hWn
  clear hWn
  go_wp2_with (first | (refine wpx_box hS rfl _ _ rfl _ rfl _ (by intro _; simp only [Act.put, List.setIfInBounds_toArray, List.set_cons_zero, List.set_cons_succ]; first | done | exact rfl) ?_; clear hS; intro _ _ hS; dsimp only [blit, List.set, List.cons_append, List.nil_append, Value.cells, List.toList_toArray] at hS) | (refine wpx_alloc hS rfl _ rfl _ (zer_any2 rfl) _ (by intro _; simp only [Act.put, List.setIfInBounds_toArray, List.set_cons_zero, List.set_cons_succ]; first | done | exact rfl) ?_; clear hS; intro _ _ hS; dsimp only [blit, List.set, List.cons_append, List.nil_append, Value.cells, List.toList_toArray] at hS) | (refine wpx_ld hS rfl _ _ rfl _ _ rfl ?_; (first | refine ⟨0, _, rfl, ?_⟩ | refine ⟨1, _, rfl, ?_⟩ | refine ⟨2, _, rfl, ?_⟩ | refine ⟨3, _, rfl, ?_⟩ | refine ⟨4, _, rfl, ?_⟩ | refine ⟨5, _, rfl, ?_⟩ | refine ⟨6, _, rfl, ?_⟩ | refine ⟨7, _, rfl, ?_⟩ | refine ⟨8, _, rfl, ?_⟩ | refine ⟨9, _, rfl, ?_⟩); first | refine .inl ⟨_, one_any2 rfl, rfl, _, (by simp only [Act.put, List.setIfInBounds_toArray, List.set_cons_zero, List.set_cons_succ]; first | done | exact rfl), ?_⟩ | refine .inr ⟨_, _, row_any2 rfl, rfl, (by dsimp only [cutL, List.drop, List.take]; first | done | exact rfl), _, (by simp only [Act.put, List.setIfInBounds_toArray, List.set_cons_zero, List.set_cons_succ]; first | done | exact rfl), ?_⟩) | (refine wpx_st hS rfl _ _ _ rfl rfl _ _ rfl ?_; (first | refine ⟨0, _, rfl, ?_⟩ | refine ⟨1, _, rfl, ?_⟩ | refine ⟨2, _, rfl, ?_⟩ | refine ⟨3, _, rfl, ?_⟩ | refine ⟨4, _, rfl, ?_⟩ | refine ⟨5, _, rfl, ?_⟩ | refine ⟨6, _, rfl, ?_⟩ | refine ⟨7, _, rfl, ?_⟩ | refine ⟨8, _, rfl, ?_⟩ | refine ⟨9, _, rfl, ?_⟩); refine ⟨_, (by first | exact shA rfl | exact shI rfl | exact shB rfl | exact shS rfl | exact shP rfl | exact shF rfl | exact shN rfl), _, siz_any2 rfl, (by exact rfl), (by exact rfl), (by exact rfl), ?_⟩; clear hS; intro _ hS; dsimp only [blit, List.set, List.cons_append, List.nil_append, Value.cells, List.toList_toArray] at hS))
  refine (hAlive_any _).mono ?_
  rintro r u ⟨rfl, hb⟩
  replace hS := hS.call hb
  have hB := hS.bel
  clear hb hS
  go_wp2
  go_ret
  exact ⟨rfl, hB⟩

set_option maxHeartbeats 4000000 in
theorem walk_right (w : World) (c : Um.Cf) (n0 : Nat) (la : Option Addr) (nl cl : Nat) (Z : Nat → Int) (h : c.r = true) (hp1 : (n0 : Int) < c.s) (hb : ¬ 20 < nl) (hcl : nl ≤ cl) (hZ : RowOf w la nl (fun i => .int .i64 (Z i))) :
    Calls Try.prog 7 #[(.agg #[.int .i64 (c.t), .int .i64 (c.s), .int .i64 (c.k), .int .i64 (c.g), .int .u64 (c.q : Int)]), .int .i64 (n0 : Int), .slice la nl cl] w fun e w' => e = .returned (.bool true) ∧ Below w.heap.size w w' := by
  have p1 : ¬ (n0 : Int) < 0 := by omega
  have p2 : decide ((n0 : Int) < 0) = false := decide_eq_false p1
  have p3 : ¬ c.s ≤ (n0 : Int) := by omega
  have p4 : decide (c.s ≤ (n0 : Int)) = false := decide_eq_false p3
  have b1 : ¬ (20 : Int) < (nl : Int) := by omega
  have b2 : decide ((20 : Int) < (nl : Int)) = false := decide_eq_false b1
  have hs12 : c.s ≤ 12 := by have := c.rb h; omega
  have hn11 : n0 ≤ 11 := by omega
  obtain ⟨x, hx⟩ : ∃ x : Nat, x = 112 + n0 + 1 := ⟨_, rfl⟩
  have hpen : Um.penN x = (n0 : Int) := by unfold Um.penN; omega
  have HPN := hide hpen
  have HSQ := hide (show Um.seqN x = 7 by unfold Um.seqN; omega)
  have HXW := hide (show Um.Word x by unfold Um.Word; omega)
  have HI := hide (Um.iS_pos h (x := x) (by omega) (by omega))
  have HBD := hide (show -9223372036854775808 ≤ (n0 : Int) ∧ (n0 : Int) ≤ 9223372036854775807 by omega)
  have HF := hide (show Um.hfst x = 0 by unfold Um.hfst; rw [if_neg (by omega)])
  have z1 : 112 + (n0 : Int) + 1 = ((x : Nat) : Int) := by omega
  obtain ⟨m1, hm1⟩ : ∃ m1, m1 = Um.mtouch c ⟨fun _ => 0, 0, Um.noT⟩ 2 1 0 0 x := ⟨_, rfl⟩
  obtain ⟨m2, hm2⟩ : ∃ m2, m2 = Um.mtouch c m1 2 4 (n0 : Int) 0 402653184 := ⟨_, rfl⟩
  have HD0 := hide (Um.sid_new h (unhide HI) hpen m1 m2 hm1 hm2)
  have HM1 := hide hm1
  have HM2 := hide hm2
  have HR := hide h
  have HZ := hide hZ
  have hnl : nl ≤ 20 := by omega
  clear h hx hpen hm1 hm2 hZ
  have hS := Sx.new w
  go_enter Try.func7, Try.ntmps7
  go_wp2_with (first | (refine wpx_box hS rfl _ _ rfl _ rfl _ (by intro _; simp only [Act.put, List.setIfInBounds_toArray, List.set_cons_zero, List.set_cons_succ]; first | done | exact rfl) ?_; clear hS; intro _ _ hS; dsimp only [blit, List.set, List.cons_append, List.nil_append, Value.cells, List.toList_toArray] at hS) | (refine wpx_alloc hS rfl _ rfl _ (zer_any2 rfl) _ (by intro _; simp only [Act.put, List.setIfInBounds_toArray, List.set_cons_zero, List.set_cons_succ]; first | done | exact rfl) ?_; clear hS; intro _ _ hS; dsimp only [blit, List.set, List.cons_append, List.nil_append, Value.cells, List.toList_toArray] at hS) | (refine wpx_ld hS rfl _ _ rfl _ _ rfl ?_; (first | refine ⟨0, _, rfl, ?_⟩ | refine ⟨1, _, rfl, ?_⟩ | refine ⟨2, _, rfl, ?_⟩ | refine ⟨3, _, rfl, ?_⟩ | refine ⟨4, _, rfl, ?_⟩ | refine ⟨5, _, rfl, ?_⟩ | refine ⟨6, _, rfl, ?_⟩ | refine ⟨7, _, rfl, ?_⟩ | refine ⟨8, _, rfl, ?_⟩ | refine ⟨9, _, rfl, ?_⟩); first | refine .inl ⟨_, one_any2 rfl, rfl, _, (by simp only [Act.put, List.setIfInBounds_toArray, List.set_cons_zero, List.set_cons_succ]; first | done | exact rfl), ?_⟩ | refine .inr ⟨_, _, row_any2 rfl, rfl, (by dsimp only [cutL, List.drop, List.take]; first | done | exact rfl), _, (by simp only [Act.put, List.setIfInBounds_toArray, List.set_cons_zero, List.set_cons_succ]; first | done | exact rfl), ?_⟩) | (refine wpx_st hS rfl _ _ _ rfl rfl _ _ rfl ?_; (first | refine ⟨0, _, rfl, ?_⟩ | refine ⟨1, _, rfl, ?_⟩ | refine ⟨2, _, rfl, ?_⟩ | refine ⟨3, _, rfl, ?_⟩ | refine ⟨4, _, rfl, ?_⟩ | refine ⟨5, _, rfl, ?_⟩ | refine ⟨6, _, rfl, ?_⟩ | refine ⟨7, _, rfl, ?_⟩ | refine ⟨8, _, rfl, ?_⟩ | refine ⟨9, _, rfl, ?_⟩); refine ⟨_, (by first | exact shA rfl | exact shI rfl | exact shB rfl | exact shS rfl | exact shP rfl | exact shF rfl | exact shN rfl), _, siz_any2 rfl, (by exact rfl), (by exact rfl), (by exact rfl), ?_⟩; clear hS; intro _ hS; dsimp only [blit, List.set, List.cons_append, List.nil_append, Value.cells, List.toList_toArray] at hS))
  refine (new_x hS c (unhide HR)).mono ?_
  rintro r u ⟨B, C, rfl, hWn, hSn⟩
  clear hS
  have hS := hSn
  clear hSn
  dsimp only [putL, List.set, List.cons_append, List.nil_append] at hS
  have HW0 := hide hWn
  clear hWn
  go_wp2_with (first | (refine wpx_box hS rfl _ _ rfl _ rfl _ (by intro _; simp only [Act.put, List.setIfInBounds_toArray, List.set_cons_zero, List.set_cons_succ]; first | done | exact rfl) ?_; clear hS; intro _ _ hS; dsimp only [blit, List.set, List.cons_append, List.nil_append, Value.cells, List.toList_toArray] at hS) | (refine wpx_alloc hS rfl _ rfl _ (zer_any2 rfl) _ (by intro _; simp only [Act.put, List.setIfInBounds_toArray, List.set_cons_zero, List.set_cons_succ]; first | done | exact rfl) ?_; clear hS; intro _ _ hS; dsimp only [blit, List.set, List.cons_append, List.nil_append, Value.cells, List.toList_toArray] at hS) | (refine wpx_ld hS rfl _ _ rfl _ _ rfl ?_; (first | refine ⟨0, _, rfl, ?_⟩ | refine ⟨1, _, rfl, ?_⟩ | refine ⟨2, _, rfl, ?_⟩ | refine ⟨3, _, rfl, ?_⟩ | refine ⟨4, _, rfl, ?_⟩ | refine ⟨5, _, rfl, ?_⟩ | refine ⟨6, _, rfl, ?_⟩ | refine ⟨7, _, rfl, ?_⟩ | refine ⟨8, _, rfl, ?_⟩ | refine ⟨9, _, rfl, ?_⟩); first | refine .inl ⟨_, one_any2 rfl, rfl, _, (by simp only [Act.put, List.setIfInBounds_toArray, List.set_cons_zero, List.set_cons_succ]; first | done | exact rfl), ?_⟩ | refine .inr ⟨_, _, row_any2 rfl, rfl, (by dsimp only [cutL, List.drop, List.take]; first | done | exact rfl), _, (by simp only [Act.put, List.setIfInBounds_toArray, List.set_cons_zero, List.set_cons_succ]; first | done | exact rfl), ?_⟩) | (refine wpx_st hS rfl _ _ _ rfl rfl _ _ rfl ?_; (first | refine ⟨0, _, rfl, ?_⟩ | refine ⟨1, _, rfl, ?_⟩ | refine ⟨2, _, rfl, ?_⟩ | refine ⟨3, _, rfl, ?_⟩ | refine ⟨4, _, rfl, ?_⟩ | refine ⟨5, _, rfl, ?_⟩ | refine ⟨6, _, rfl, ?_⟩ | refine ⟨7, _, rfl, ?_⟩ | refine ⟨8, _, rfl, ?_⟩ | refine ⟨9, _, rfl, ?_⟩); refine ⟨_, (by first | exact shA rfl | exact shI rfl | exact shB rfl | exact shS rfl | exact shP rfl | exact shF rfl | exact shN rfl), _, siz_any2 rfl, (by exact rfl), (by exact rfl), (by exact rfl), ?_⟩; clear hS; intro _ hS; dsimp only [blit, List.set, List.cons_append, List.nil_append, Value.cells, List.toList_toArray] at hS))
  try rw [z1]
  refine (tallied_any _).mono ?_
  rintro r u ⟨rfl, hb⟩
  replace hS := hS.call hb
  clear hb
  clear p1 p2 p3 p4 b1 b2 z1
  go_wp2_with fail
  refine (mStore_x hS 1 2 rfl rfl (by decide) (unhide HR) (unhide HW0) 1 0 x (unhide HXW) (by decide) (by decide) m1 (unhide HM1)).mono ?_
  rintro r u ⟨rfl, hWn, hSn⟩
  clear hS
  have hS := hSn
  clear hSn
  dsimp only [putL, List.set, List.cons_append, List.nil_append] at hS
  have HW1 := hide hWn
  clear hWn
  go_wp2_with fail
  refine (of_any 4 (n0 : Int) _).mono ?_
  rintro r u ⟨rfl, hb⟩
  replace hS := hS.call hb
  clear hb
  go_wp2_with fail
  refine (rNew01_any 3 _).mono ?_
  rintro r u ⟨rfl, hb⟩
  replace hS := hS.call hb
  clear hb
  rw [show Um.packV 0 3 false false false 0 0 = 402653184 by decide +kernel]
  go_wp2_with fail
  refine (mStore_x hS 1 2 rfl rfl (by decide) (unhide HR) (unhide HW1) 4 (n0 : Int) 402653184 (by unfold Um.Word; omega) (unhide HBD).1 (unhide HBD).2 m2 (unhide HM2)).mono ?_
  rintro r u ⟨rfl, hWn, hSn⟩
  clear hS
  have hS := hSn
  clear hSn
  dsimp only [putL, List.set, List.cons_append, List.nil_append] at hS
  have HW2 := hide hWn
  clear hWn
  go_wp2_with fail
  refine (hNew_any hS x (unhide HXW)).mono ?_
  rintro r u ⟨P, rfl, hSn⟩
  clear hS
  have hS := hSn
  clear hSn
  dsimp only [putL, List.set, List.cons_append, List.nil_append] at hS
  go_wp2_with fail
  refine (rNew01_any 4 _).mono ?_
  rintro r u ⟨rfl, hb⟩
  replace hS := hS.call hb
  clear hb
  rw [show Um.packV 0 4 false false false 0 0 = 536870912 by decide +kernel]
  go_wp2_with fail
  obtain ⟨CF, rfl⟩ := nameB hS 0 rfl
  rw [unhide HF] at hS
  go_loopw [11, 62] (fun wn i wr => ∃ (j W : Nat) (m : Um.Mm) (nx s : Nat), j ≤ nl ∧ wn = .int .u64 (W : Nat) ∧ i = .int .i64 j ∧ Hid (Um.Word W) ∧ Hid (Um.Sid c x W m nx s) ∧ Hid (HOk c ⟨m, nx, s⟩) ∧ Hid (Sx [] w wr [(CF, [.int .i64 c.t, .int .i64 c.s, .int .i64 c.k, .int .i64 c.g, .int .u64 c.q]), (B, memL c C m), (C, rowW m.ws c.n), (P, hlpL x s nx)] [])) (fun _ i _ => nl - (intOf i).toNat)
  case atStart => exact ⟨0, 536870912, m2, 0, 0, Nat.zero_le _, rfl, rfl, hide (by unfold Um.Word; omega), HD0, hide ⟨unhide HW2, (show Um.Word 0 by unfold Um.Word; decide), (show 0 ≤ 4 by decide)⟩, hide hS⟩
  case round =>
    clear hS HW0 HW1 HW2 HD0
    rename_i wr
    obtain ⟨j, W, m, nx, s, hj, rfl, rfl, HWW, HD, HO, HS⟩ := hrel
    have hS := unhide HS
    clear HS
    by_cases hlt : j < nl
    · have hlti : (j : Int) < (nl : Int) := by omega
      obtain ⟨lb, lo, hla, hlb, hlc⟩ := (unhide HZ).resolve_left (by omega)
      have q2 : wr.cell? ⟨lb, lo + j, none⟩ = some (.int .i64 (Z j)) := (hS.bel.cell (p := ⟨lb, lo + j, none⟩) hlb).trans (hlc j hlt)
      subst hla
      clear hlc
      generalize Z j = zj at q2
      have hDn := hDone_any hS 3 nx (unhide HO).2.2 rfl
      by_cases h4 : nx = 4
      · rw [decide_eq_true h4] at hDn
        have HDn := hide hDn
        clear hDn h4
        go_wp2_with fail
        refine (unhide HDn).mono ?_
        rintro r u ⟨rfl, rfl⟩
        clear HDn q2
        obtain ⟨H, hH⟩ : ∃ H, H = Um.hit c x ⟨m, nx, s⟩ 20 := ⟨_, rfl⟩
        obtain ⟨hn4, hS4, hN4⟩ := Um.sid_ends (unhide HR) (unhide HI) (h := ⟨m, nx, s⟩) (unhide HD) (k := 20) (by decide) H hH
        obtain ⟨m3, hm3⟩ : ∃ m3, m3 = Um.mtouch c H.m 1 4 (n0 : Int) 0 0 := ⟨_, rfl⟩
        obtain ⟨m4, hm4⟩ : ∃ m4, m4 = Um.mtouch c m3 1 6 (n0 : Int) 0 0 := ⟨_, rfl⟩
        have o3 : m3.l.old = W := by rw [hm3, Um.load_old, ← unhide HPN]; show (if 0 ≤ Um.iS c x then H.m.ws (Um.iS c x).toNat else 0) = W; rw [if_pos (by have := (unhide HI).1; omega), hS4]
        have o4 : m4.l.old = 7 := by rw [hm4, Um.load_old, ← unhide HPN]; show (if 0 ≤ Um.iN c x then m3.ws (Um.iN c x).toNat else 0) = 7; rw [if_pos (by have := unhide HI; omega), hm3, Um.load_ws, hN4, unhide HSQ]
        have HH := hide hH
        have HM3 := hide hm3
        have HM4 := hide hm4
        have HO3 := hide o3
        have HO4 := hide o4
        have HN4 := hide hn4
        clear hH hm3 hm4 o3 o4 hn4 hS4 hN4
        go_wp2_with fail
        refine (ends_x hS 1 2 3 ⟨m, nx, s⟩ rfl rfl rfl (by decide) (by decide) (by decide) (unhide HR) (unhide HO) (unhide HXW) 20 (by decide) H (unhide HH)).mono ?_
        rintro r u ⟨n, rfl, _, _, _, hOn, hSn⟩
        clear hS
        have hS := hSn
        clear hSn
        dsimp only [putL, List.set, List.cons_append, List.nil_append] at hS
        have HOH := hide hOn
        clear hOn
        go_wp2_with fail
        refine (hAlive_any _).mono ?_
        rintro r u ⟨rfl, hb⟩
        replace hS := hS.call hb
        clear hb
        go_wp2_with fail
        refine (hDone_any hS 3 H.nx (unhide HOH).2.2 rfl).mono ?_
        rintro r u ⟨rfl, rfl⟩
        rw [decide_eq_true (unhide HN4)]
        go_wp2_with fail
        refine (of_any 4 (n0 : Int) _).mono ?_
        rintro r u ⟨rfl, hb⟩
        replace hS := hS.call hb
        clear hb
        go_wp2_with fail
        refine (mLoad_x hS 1 2 rfl rfl (by decide) (unhide HR) (unhide HOH).1 4 (n0 : Int) (unhide HBD).1 (unhide HBD).2 m3 (unhide HM3)).mono ?_
        rintro r u ⟨rfl, hWn, hSn⟩
        clear hS
        have hS := hSn
        clear hSn
        dsimp only [putL, List.set, List.cons_append, List.nil_append] at hS
        have HW3 := hide hWn
        clear hWn
        rw [unhide HO3]
        go_wp2_with fail
        refine (of_any 6 (n0 : Int) _).mono ?_
        rintro r u ⟨rfl, hb⟩
        replace hS := hS.call hb
        clear hb
        go_wp2_with fail
        refine (mLoad_x hS 1 2 rfl rfl (by decide) (unhide HR) (unhide HW3) 6 (n0 : Int) (unhide HBD).1 (unhide HBD).2 m4 (unhide HM4)).mono ?_
        rintro r u ⟨rfl, hWn, hSn⟩
        clear hS
        have hS := hSn
        clear hSn
        dsimp only [putL, List.set, List.cons_append, List.nil_append] at hS
        have HW4 := hide hWn
        clear hWn
        rw [unhide HO4]
        have hB := hS.bel
        clear hS
        go_wp2
        go_ret
        exact ⟨rfl, hB⟩
      · rw [decide_eq_false h4] at hDn
        have HDn := hide hDn
        clear hDn h4
        go_wp2_with fail
        refine (unhide HDn).mono ?_
        rintro r u ⟨rfl, rfl⟩
        clear HDn q2
        obtain ⟨m5, hm5⟩ : ∃ m5, m5 = Um.mtouch c m 1 4 (n0 : Int) 0 0 := ⟨_, rfl⟩
        have hw5 : m5.ws = m.ws := by rw [hm5, Um.load_ws]
        have o5 : m5.l.old = m5.ws (Um.iS c x).toNat := by rw [hw5, hm5, Um.load_old, ← unhide HPN]; show (if 0 ≤ Um.iS c x then m.ws (Um.iS c x).toNat else 0) = _; rw [if_pos (by have := (unhide HI).1; omega)]
        have HOW := hide (show Um.Word m5.l.old by rw [hm5]; exact Um.old_word (unhide HO).1)
        have HD5 := hide ((unhide HD).ws hw5)
        have HM5 := hide hm5
        have HO5 := hide o5
        clear hm5 hw5 o5
        go_wp2_with fail
        refine (of_any 4 (n0 : Int) _).mono ?_
        rintro r u ⟨rfl, hb⟩
        replace hS := hS.call hb
        clear hb
        go_wp2_with fail
        refine (mLoad_x hS 1 2 rfl rfl (by decide) (unhide HR) (unhide HO).1 4 (n0 : Int) (unhide HBD).1 (unhide HBD).2 m5 (unhide HM5)).mono ?_
        rintro r u ⟨rfl, hWn, hSn⟩
        clear hS
        have hS := hSn
        clear hSn
        dsimp only [putL, List.set, List.cons_append, List.nil_append] at hS
        have HW5 := hide hWn
        clear hWn
        go_wp2_with fail
        refine (of_any 4 (n0 : Int) _).mono ?_
        rintro r u ⟨rfl, hb⟩
        replace hS := hS.call hb
        clear hb
        go_wp2_with fail
        refine (with_ex m5.l.old _ (n0 : Int) _ (unhide HOW)).mono ?_
        rintro r u ⟨a1, ha1, rfl, rfl⟩
        have HA1 := hide ha1
        clear ha1
        go_wp2_with fail
        obtain ⟨m6, hm6⟩ : ∃ m6, m6 = Um.mtouch c m5 2 4 (n0 : Int) 0 (Um.withN m5.l.old a1 (n0 : Int)) := ⟨_, rfl⟩
        have HD6 := hide (Um.Sid.lay (unhide HI) (unhide HPN) (unhide HD5) a1 (n0 : Int) m5.l.old (unhide HO5) m6 hm6)
        have HM6 := hide hm6
        clear hm6
        refine (mStore_x hS 1 2 rfl rfl (by decide) (unhide HR) (unhide HW5) 4 (n0 : Int) (Um.withN m5.l.old a1 (n0 : Int)) (Um.with_word (unhide HOW) _ _) (unhide HBD).1 (unhide HBD).2 m6 (unhide HM6)).mono ?_
        rintro r u ⟨rfl, hWn, hSn⟩
        clear hS
        have hS := hSn
        clear hSn
        dsimp only [putL, List.set, List.cons_append, List.nil_append] at hS
        have HW6 := hide hWn
        clear hWn
        go_wp2_with fail
        refine (with_ex W _ (n0 : Int) _ (unhide HWW)).mono ?_
        rintro r u ⟨a2, ha2, rfl, rfl⟩
        obtain rfl : a2 = a1 := ha2.trans (unhide HA1).symm
        clear ha2 HA1
        go_wp2_with fail
        obtain ⟨H, hH⟩ : ∃ H, H = Um.hstep c x ⟨m6, nx, s⟩ := ⟨_, rfl⟩
        have HD7 := hide (Um.sid_step (unhide HR) (unhide HI) (h := ⟨m6, nx, s⟩) (unhide HD6))
        rw [← hH] at HD7
        have HH := hide hH
        clear hH
        refine (hStep_any hS 1 2 3 ⟨m6, nx, s⟩ H (unhide HH) rfl rfl rfl (by decide) (by decide) (by decide) (unhide HR) ⟨unhide HW6, (unhide HO).2.1, (unhide HO).2.2⟩ (unhide HXW)).mono ?_
        rintro r u ⟨rfl, hOn, hSn⟩
        clear hS
        have hS := hSn
        clear hSn
        dsimp only [putL, List.set, List.cons_append, List.nil_append] at hS
        have HO7 := hide hOn
        have HS7 := hide hS
        clear hOn hS
        have HW7 := hide (Um.with_word (unhide HWW) a2 (n0 : Int))
        generalize Um.withN W a2 (n0 : Int) = W2 at *
        go_wp2
        exact ⟨⟨j + 1, W2, H.m, H.nx, H.s, by omega, rfl, by go_num, HW7, HD7, HO7, HS7⟩, by simp [intOf]; omega⟩
    · have hge : ¬ (j : Int) < (nl : Int) := by omega
      obtain ⟨H, hH⟩ : ∃ H, H = Um.hit c x ⟨m, nx, s⟩ 20 := ⟨_, rfl⟩
      obtain ⟨hn4, hS4, hN4⟩ := Um.sid_ends (unhide HR) (unhide HI) (h := ⟨m, nx, s⟩) (unhide HD) (k := 20) (by decide) H hH
      obtain ⟨m3, hm3⟩ : ∃ m3, m3 = Um.mtouch c H.m 1 4 (n0 : Int) 0 0 := ⟨_, rfl⟩
      obtain ⟨m4, hm4⟩ : ∃ m4, m4 = Um.mtouch c m3 1 6 (n0 : Int) 0 0 := ⟨_, rfl⟩
      have o3 : m3.l.old = W := by rw [hm3, Um.load_old, ← unhide HPN]; show (if 0 ≤ Um.iS c x then H.m.ws (Um.iS c x).toNat else 0) = W; rw [if_pos (by have := (unhide HI).1; omega), hS4]
      have o4 : m4.l.old = 7 := by rw [hm4, Um.load_old, ← unhide HPN]; show (if 0 ≤ Um.iN c x then m3.ws (Um.iN c x).toNat else 0) = 7; rw [if_pos (by have := unhide HI; omega), hm3, Um.load_ws, hN4, unhide HSQ]
      have HH := hide hH
      have HM3 := hide hm3
      have HM4 := hide hm4
      have HO3 := hide o3
      have HO4 := hide o4
      have HN4 := hide hn4
      clear hH hm3 hm4 o3 o4 hn4 hS4 hN4
      go_wp2_with fail
      refine (ends_x hS 1 2 3 ⟨m, nx, s⟩ rfl rfl rfl (by decide) (by decide) (by decide) (unhide HR) (unhide HO) (unhide HXW) 20 (by decide) H (unhide HH)).mono ?_
      rintro r u ⟨n, rfl, _, _, _, hOn, hSn⟩
      clear hS
      have hS := hSn
      clear hSn
      dsimp only [putL, List.set, List.cons_append, List.nil_append] at hS
      have HOH := hide hOn
      clear hOn
      go_wp2_with fail
      refine (hAlive_any _).mono ?_
      rintro r u ⟨rfl, hb⟩
      replace hS := hS.call hb
      clear hb
      go_wp2_with fail
      refine (hDone_any hS 3 H.nx (unhide HOH).2.2 rfl).mono ?_
      rintro r u ⟨rfl, rfl⟩
      rw [decide_eq_true (unhide HN4)]
      go_wp2_with fail
      refine (of_any 4 (n0 : Int) _).mono ?_
      rintro r u ⟨rfl, hb⟩
      replace hS := hS.call hb
      clear hb
      go_wp2_with fail
      refine (mLoad_x hS 1 2 rfl rfl (by decide) (unhide HR) (unhide HOH).1 4 (n0 : Int) (unhide HBD).1 (unhide HBD).2 m3 (unhide HM3)).mono ?_
      rintro r u ⟨rfl, hWn, hSn⟩
      clear hS
      have hS := hSn
      clear hSn
      dsimp only [putL, List.set, List.cons_append, List.nil_append] at hS
      have HW3 := hide hWn
      clear hWn
      rw [unhide HO3]
      go_wp2_with fail
      refine (of_any 6 (n0 : Int) _).mono ?_
      rintro r u ⟨rfl, hb⟩
      replace hS := hS.call hb
      clear hb
      go_wp2_with fail
      refine (mLoad_x hS 1 2 rfl rfl (by decide) (unhide HR) (unhide HW3) 6 (n0 : Int) (unhide HBD).1 (unhide HBD).2 m4 (unhide HM4)).mono ?_
      rintro r u ⟨rfl, hWn, hSn⟩
      clear hS
      have hS := hSn
      clear hSn
      dsimp only [putL, List.set, List.cons_append, List.nil_append] at hS
      have HW4 := hide hWn
      clear hWn
      rw [unhide HO4]
      have hB := hS.bel
      clear hS
      go_wp2
      go_ret
      exact ⟨rfl, hB⟩

theorem walk {H : Type} {enc : TypeId × Value → H} {base : Nat} {v0 v2 : Value} {d0 d2 : DataW H} {p0 p2 : List MemPlace} (w : World)
    (hv0 : Value.okWide Try.prog w .any base 24 v0) (h0 : DataW.Trod enc Try.prog w 0 (fun _ => true) true 24 v0 d0 p0)
    (a1 : Int) (w1 : (Lit.int .i64 a1).wf = true)
    (hv2 : Value.okWide Try.prog w .any base 71 v2) (h2 : DataW.Trod enc Try.prog w 0 (fun _ => true) true 71 v2 d2 p2) :
    Calls Try.prog 7 #[v0, .int .i64 a1, v2] w fun e w' => e = .returned (.bool true) ∧ Below w.heap.size w w' := by
  obtain ⟨ct, s, k, g, q, rfl, hsb⟩ := open_cfg hv0 h0
  obtain ⟨la, nl, cl, Z, rfl, hnc, hZ⟩ := open_row hv2 h2
  cases hr : (⟨ct, s, k, g, q⟩ : Um.Cf).r with
  | false => exact walk_wrong w ⟨ct, s, k, g, q⟩ a1 la nl cl hr
  | true =>
    by_cases hp0 : a1 < 0
    · exact walk_neg w ⟨ct, s, k, g, q⟩ a1 la nl cl hr hp0
    by_cases hp1 : s ≤ a1
    · exact walk_big w ⟨ct, s, k, g, q⟩ a1 la nl cl hr (by omega) hp1
    by_cases hb : 20 < nl
    · exact walk_long w ⟨ct, s, k, g, q⟩ a1 la nl cl hr (by omega) (show a1 < s by omega) hb
    obtain ⟨n0, rfl⟩ : ∃ n0 : Nat, a1 = n0 := ⟨a1.toNat, by omega⟩
    exact walk_right w ⟨ct, s, k, g, q⟩ n0 la nl cl Z hr (show (n0 : Int) < s by omega) hb hnc hZ

set_option maxRecDepth 100000 in
theorem lifted (os : Os) (started : os.Started) (H : Type) (enc : TypeId × Value → H) :
    ReturnsInHanded {} Try.checked os 7 .any (Rows.helpSidesSpec.pre6 enc Try.prog Try.f7 Rows.helpSidesRow.domain false) (Rows.helpSidesSpec.post enc Try.prog Try.f7 false true false false) := by
  refine returnsInHanded_of_change (C := Try.checked) own started (by kernel_rfl) Try.func7
    (ChangeSpec.witness6 (enc := enc) (C := Try.checked) false ⟨#[], #[.agg #[.int .i64 0, .int .i64 0, .int .i64 0, .int .i64 0, .int .u64 0], .int .i64 0, .slice none 0 0], []⟩ 8 (by kernel_rfl) (by kernel_rfl) (by kernel_rfl) (by kernel_rfl)) ?_
  intro W base args ds gs before hval0 hW hcnd _
  have hval : ∀ (j : Nat) t v, Try.f7.params[j]? = some t → args[j]? = some v → Value.okWide Try.prog W .any base t v := hval0
  have hW' := hW
  obtain ⟨p, q, hA0, hV, rfl, hfz, hnd⟩ := hW
  have hA : DataW.TrodAll enc Try.prog W 0 (fun _ => true) true Try.f7.params.toList args.toList ds p := hA0
  rw [Try.params7] at hA hval
  obtain ⟨v0, vs0, d0, ds0, p0, q0, hargs, rfl, rfl, h0, r0⟩ := trodAll_cons hA
  obtain ⟨v1, vs1, d1, ds1, p1, q1, rfl, rfl, rfl, h1, r1⟩ := trodAll_cons r0
  obtain ⟨v2, vs2, d2, ds2, p2, q2, rfl, rfl, rfl, h2, r2⟩ := trodAll_cons r1
  obtain ⟨rfl, rfl, rfl⟩ := trodAll_nil r2
  obtain rfl : args = #[v0, v1, v2] := by cases args; simp_all
  obtain ⟨rfl, rfl⟩ := trodVars_none hV
  have k0 := h0
  have lt0 : ∀ x ∈ p0, x.block < W.heap.size := by obtain ⟨m, hm⟩ := k0; exact DataW.trod_lt m _ _ _ hm
  have k1 := h1
  have lt1 : ∀ x ∈ p1, x.block < W.heap.size := by obtain ⟨m, hm⟩ := k1; exact DataW.trod_lt m _ _ _ hm
  have k2 := h2
  have lt2 : ∀ x ∈ p2, x.block < W.heap.size := by obtain ⟨m, hm⟩ := k2; exact DataW.trod_lt m _ _ _ hm
  obtain ⟨a1, rfl, hd1, hp1, w1⟩ := open_int Try.underlying3 (hval 1 3 v1 rfl rfl) h1
  refine (walk W (hval 0 24 v0 rfl rfl) h0 a1 w1 (hval 2 71 v2 rfl rfl) h2).mono fun e W' ⟨he, bel⟩ => ?_
  subst he
  exact ⟨_, rfl, _, _, _, [], _, [], hW', trodAll_mk1 (shut_bool Try.underlying4 _), (trodAll_cons_mk (Below.trod laidOut (by kernel_rfl) (of_decide_eq_true (by kernel_rfl)) k0 bel lt0) (trodAll_cons_mk (Below.trod laidOut (by kernel_rfl) (of_decide_eq_true (by kernel_rfl)) k1 bel lt1) (trodAll_cons_mk (Below.trod laidOut (by kernel_rfl) (of_decide_eq_true (by kernel_rfl)) k2 bel lt2) trodAll_mk0))), rfl, bel.frame _, fun h => by cases h⟩

theorem HelpSides_proved : Rows.HelpSidesSaid :=
  OpenClaim.holds_of_wide 7 Try.f7 rfl rfl rfl rfl rfl rfl rfl ⟨rfl, rfl, rfl, rfl, rfl⟩ rfl rfl rfl rfl rfl (by kernel_rfl) Try.func7 (by kernel_rfl)
    (of_decide_eq_true (by kernel_rfl)) (by unfold Func.isWrapper; first | (rw [if_pos (by decide +kernel)]; kernel_rfl) | (rw [if_neg (by decide +kernel)]; exact ⟨rfl, rfl⟩))
    (fun os started H enc _ => lifted os started H enc)

end Go.Proofs.Ytglmniciojemfaa.helpSides
