/-
  For every world's size and words, the law StoreOwn answers true: what is written into the words that were handed in, or told, changes nothing of a memory. Conditions: none.
-/
import Derived.Test.YtafnoloamfdanaaRows
import Derived.Test.YtafnoloamfdanaaStoreAlive
import Derived.Test.YtafnoloamfdanaaBlkClone
import Derived.Test.YtafnoloamfdanaaStoreQ
import Derived.Test.YtafnoloamfdanaaChartD
import Derived.Test.YtafnoloamfdanaaOpenCfg
import Derived.Test.YtafnoloamfdanaaOpenWords
import Derived.WalkKit
import Derived.ProofKit
import Derived.OpenShut
import Derived.ShutString
import Derived.Lib.QuietBelow
import Derived.LoopTactic
import Derived.SizedLaws
namespace Go.Proofs.Ytafnoloamfdanaa.storeOwn
set_option maxRecDepth 100000
open Go.ChangeShapes Go.WideShapes Go.ChangeAt Go.RowKit Go.Sort
set_option linter.unusedVariables false

theorem own : ownKnob Try.prog.godebug = none := by kernel_rfl
theorem laidOut : laidOutB Try.prog = true := by kernel_rfl

set_option maxHeartbeats 2000000 in
theorem walk_wrong0 (w : World) (c : Um.Cf) (ao : Option Addr) (cap : Nat) (hao : ao = none → cap = 0) (h : c.r = false) :
    Calls Try.prog 5 #[(.agg #[.int .i64 (c.t), .int .i64 (c.s), .int .i64 (c.k), .int .i64 (c.g), .int .u64 (c.q : Int)]), .slice ao 0 cap] w fun e w' => e = .returned (.bool true) ∧ Below w.heap.size w w' := by
  have hR := rRight_any c.t c.s c.k c.g c.q
  rw [show Um.rt c.t c.s c.k c.g c.q = false from h] at hR
  clear h
  have hS := St.new w
  go_enter Try.func5, Try.ntmps5
  go_wp2_with (first | (refine wpl_clone0 hS rfl _ _ rfl rfl _ _ rfl hao ?_; clear hS; intro v' w' hS) | (first | (refine wpl_box hS rfl _ _ rfl _ rfl _ (by intro _; simp only [Act.put, List.setIfInBounds_toArray, List.set_cons_zero, List.set_cons_succ]; first | done | exact rfl) ?_; clear hS; intro _ _ hS; dsimp only [blit, List.set, List.cons_append, List.nil_append, Value.cells, List.toList_toArray] at hS) | (refine wpl_alloc hS rfl _ rfl _ (zer_any rfl) _ (by intro _; simp only [Act.put, List.setIfInBounds_toArray, List.set_cons_zero, List.set_cons_succ]; first | done | exact rfl) ?_; clear hS; intro _ _ hS; dsimp only [blit, List.set, List.cons_append, List.nil_append, Value.cells, List.toList_toArray] at hS) | (refine wpl_ld hS rfl _ _ rfl _ _ rfl ?_; (first | refine ⟨0, _, rfl, ?_⟩ | refine ⟨1, _, rfl, ?_⟩ | refine ⟨2, _, rfl, ?_⟩ | refine ⟨3, _, rfl, ?_⟩ | refine ⟨4, _, rfl, ?_⟩ | refine ⟨5, _, rfl, ?_⟩ | refine ⟨6, _, rfl, ?_⟩ | refine ⟨7, _, rfl, ?_⟩ | refine ⟨8, _, rfl, ?_⟩ | refine ⟨9, _, rfl, ?_⟩); first | refine .inl ⟨_, one_any rfl, rfl, _, (by simp only [Act.put, List.setIfInBounds_toArray, List.set_cons_zero, List.set_cons_succ]; first | done | exact rfl), ?_⟩ | refine .inr ⟨_, _, row_any rfl, rfl, (by dsimp only [cutL, List.drop, List.take]; first | done | exact rfl), _, (by simp only [Act.put, List.setIfInBounds_toArray, List.set_cons_zero, List.set_cons_succ]; first | done | exact rfl), ?_⟩) | (refine wpl_st hS rfl _ _ _ rfl rfl _ _ rfl ?_; (first | refine ⟨0, _, rfl, ?_⟩ | refine ⟨1, _, rfl, ?_⟩ | refine ⟨2, _, rfl, ?_⟩ | refine ⟨3, _, rfl, ?_⟩ | refine ⟨4, _, rfl, ?_⟩ | refine ⟨5, _, rfl, ?_⟩ | refine ⟨6, _, rfl, ?_⟩ | refine ⟨7, _, rfl, ?_⟩ | refine ⟨8, _, rfl, ?_⟩ | refine ⟨9, _, rfl, ?_⟩); refine ⟨_, (by first | exact shA rfl | exact shI rfl | exact shB rfl | exact shS rfl | exact shP rfl | exact shF rfl | exact shN rfl), _, siz_any rfl, (by exact rfl), (by exact rfl), (by exact rfl), ?_⟩; clear hS; intro _ hS; dsimp only [blit, List.set, List.cons_append, List.nil_append, Value.cells, List.toList_toArray] at hS)))
  refine (hR _).mono ?_
  rintro e u1 ⟨rfl, hb⟩
  replace hS := hS.call hb
  clear hb hR
  go_wp2_with (first | (refine wpl_box hS rfl _ _ rfl _ rfl _ (by intro _; simp only [Act.put, List.setIfInBounds_toArray, List.set_cons_zero, List.set_cons_succ]; first | done | exact rfl) ?_; clear hS; intro _ _ hS; dsimp only [blit, List.set, List.cons_append, List.nil_append, Value.cells, List.toList_toArray] at hS) | (refine wpl_alloc hS rfl _ rfl _ (zer_any rfl) _ (by intro _; simp only [Act.put, List.setIfInBounds_toArray, List.set_cons_zero, List.set_cons_succ]; first | done | exact rfl) ?_; clear hS; intro _ _ hS; dsimp only [blit, List.set, List.cons_append, List.nil_append, Value.cells, List.toList_toArray] at hS) | (refine wpl_ld hS rfl _ _ rfl _ _ rfl ?_; (first | refine ⟨0, _, rfl, ?_⟩ | refine ⟨1, _, rfl, ?_⟩ | refine ⟨2, _, rfl, ?_⟩ | refine ⟨3, _, rfl, ?_⟩ | refine ⟨4, _, rfl, ?_⟩ | refine ⟨5, _, rfl, ?_⟩ | refine ⟨6, _, rfl, ?_⟩ | refine ⟨7, _, rfl, ?_⟩ | refine ⟨8, _, rfl, ?_⟩ | refine ⟨9, _, rfl, ?_⟩); first | refine .inl ⟨_, one_any rfl, rfl, _, (by simp only [Act.put, List.setIfInBounds_toArray, List.set_cons_zero, List.set_cons_succ]; first | done | exact rfl), ?_⟩ | refine .inr ⟨_, _, row_any rfl, rfl, (by dsimp only [cutL, List.drop, List.take]; first | done | exact rfl), _, (by simp only [Act.put, List.setIfInBounds_toArray, List.set_cons_zero, List.set_cons_succ]; first | done | exact rfl), ?_⟩) | (refine wpl_st hS rfl _ _ _ rfl rfl _ _ rfl ?_; (first | refine ⟨0, _, rfl, ?_⟩ | refine ⟨1, _, rfl, ?_⟩ | refine ⟨2, _, rfl, ?_⟩ | refine ⟨3, _, rfl, ?_⟩ | refine ⟨4, _, rfl, ?_⟩ | refine ⟨5, _, rfl, ?_⟩ | refine ⟨6, _, rfl, ?_⟩ | refine ⟨7, _, rfl, ?_⟩ | refine ⟨8, _, rfl, ?_⟩ | refine ⟨9, _, rfl, ?_⟩); refine ⟨_, (by first | exact shA rfl | exact shI rfl | exact shB rfl | exact shS rfl | exact shP rfl | exact shF rfl | exact shN rfl), _, siz_any rfl, (by exact rfl), (by exact rfl), (by exact rfl), ?_⟩; clear hS; intro _ hS; dsimp only [blit, List.set, List.cons_append, List.nil_append, Value.cells, List.toList_toArray] at hS))
  refine (sAlive_any _).mono ?_
  rintro e u3 ⟨rfl, hb⟩
  replace hS := hS.call hb
  clear hb
  go_wp2
  go_ret
  exact ⟨rfl, hS.bel⟩

set_option maxHeartbeats 2000000 in
theorem walk_short0 (w : World) (c : Um.Cf) (ao : Option Addr) (cap : Nat) (hao : ao = none → cap = 0) (h : c.r = true) :
    Calls Try.prog 5 #[(.agg #[.int .i64 (c.t), .int .i64 (c.s), .int .i64 (c.k), .int .i64 (c.g), .int .u64 (c.q : Int)]), .slice ao 0 cap] w fun e w' => e = .returned (.bool true) ∧ Below w.heap.size w w' := by
  have hR := rRight_any c.t c.s c.k c.g c.q
  rw [show Um.rt c.t c.s c.k c.g c.q = true from h] at hR
  have hL := rLen_any c.t c.s c.k c.g c.q
  rw [Cf_len] at hL
  have hp := Um.Cf.n_pos h
  have hne : ((c.n : Int) == 0) = false := by simp; omega
  have hne' : ((0 : Int) == (c.n : Int)) = false := by simp; omega
  have hn1 : ¬ ((0 : Int) = (c.n : Int)) := by omega
  have hn2 : ((0 : Int) != (c.n : Int)) = true := by simp; omega
  clear h hp
  generalize c.n = m at *
  have hS := St.new w
  go_enter Try.func5, Try.ntmps5
  go_wp2_with (first | (refine wpl_clone0 hS rfl _ _ rfl rfl _ _ rfl hao ?_; clear hS; intro v' w' hS) | (first | (refine wpl_box hS rfl _ _ rfl _ rfl _ (by intro _; simp only [Act.put, List.setIfInBounds_toArray, List.set_cons_zero, List.set_cons_succ]; first | done | exact rfl) ?_; clear hS; intro _ _ hS; dsimp only [blit, List.set, List.cons_append, List.nil_append, Value.cells, List.toList_toArray] at hS) | (refine wpl_alloc hS rfl _ rfl _ (zer_any rfl) _ (by intro _; simp only [Act.put, List.setIfInBounds_toArray, List.set_cons_zero, List.set_cons_succ]; first | done | exact rfl) ?_; clear hS; intro _ _ hS; dsimp only [blit, List.set, List.cons_append, List.nil_append, Value.cells, List.toList_toArray] at hS) | (refine wpl_ld hS rfl _ _ rfl _ _ rfl ?_; (first | refine ⟨0, _, rfl, ?_⟩ | refine ⟨1, _, rfl, ?_⟩ | refine ⟨2, _, rfl, ?_⟩ | refine ⟨3, _, rfl, ?_⟩ | refine ⟨4, _, rfl, ?_⟩ | refine ⟨5, _, rfl, ?_⟩ | refine ⟨6, _, rfl, ?_⟩ | refine ⟨7, _, rfl, ?_⟩ | refine ⟨8, _, rfl, ?_⟩ | refine ⟨9, _, rfl, ?_⟩); first | refine .inl ⟨_, one_any rfl, rfl, _, (by simp only [Act.put, List.setIfInBounds_toArray, List.set_cons_zero, List.set_cons_succ]; first | done | exact rfl), ?_⟩ | refine .inr ⟨_, _, row_any rfl, rfl, (by dsimp only [cutL, List.drop, List.take]; first | done | exact rfl), _, (by simp only [Act.put, List.setIfInBounds_toArray, List.set_cons_zero, List.set_cons_succ]; first | done | exact rfl), ?_⟩) | (refine wpl_st hS rfl _ _ _ rfl rfl _ _ rfl ?_; (first | refine ⟨0, _, rfl, ?_⟩ | refine ⟨1, _, rfl, ?_⟩ | refine ⟨2, _, rfl, ?_⟩ | refine ⟨3, _, rfl, ?_⟩ | refine ⟨4, _, rfl, ?_⟩ | refine ⟨5, _, rfl, ?_⟩ | refine ⟨6, _, rfl, ?_⟩ | refine ⟨7, _, rfl, ?_⟩ | refine ⟨8, _, rfl, ?_⟩ | refine ⟨9, _, rfl, ?_⟩); refine ⟨_, (by first | exact shA rfl | exact shI rfl | exact shB rfl | exact shS rfl | exact shP rfl | exact shF rfl | exact shN rfl), _, siz_any rfl, (by exact rfl), (by exact rfl), (by exact rfl), ?_⟩; clear hS; intro _ hS; dsimp only [blit, List.set, List.cons_append, List.nil_append, Value.cells, List.toList_toArray] at hS)))
  refine (hR _).mono ?_
  rintro e u1 ⟨rfl, hb⟩
  replace hS := hS.call hb
  clear hb hR
  go_wp2_with (first | (refine wpl_box hS rfl _ _ rfl _ rfl _ (by intro _; simp only [Act.put, List.setIfInBounds_toArray, List.set_cons_zero, List.set_cons_succ]; first | done | exact rfl) ?_; clear hS; intro _ _ hS; dsimp only [blit, List.set, List.cons_append, List.nil_append, Value.cells, List.toList_toArray] at hS) | (refine wpl_alloc hS rfl _ rfl _ (zer_any rfl) _ (by intro _; simp only [Act.put, List.setIfInBounds_toArray, List.set_cons_zero, List.set_cons_succ]; first | done | exact rfl) ?_; clear hS; intro _ _ hS; dsimp only [blit, List.set, List.cons_append, List.nil_append, Value.cells, List.toList_toArray] at hS) | (refine wpl_ld hS rfl _ _ rfl _ _ rfl ?_; (first | refine ⟨0, _, rfl, ?_⟩ | refine ⟨1, _, rfl, ?_⟩ | refine ⟨2, _, rfl, ?_⟩ | refine ⟨3, _, rfl, ?_⟩ | refine ⟨4, _, rfl, ?_⟩ | refine ⟨5, _, rfl, ?_⟩ | refine ⟨6, _, rfl, ?_⟩ | refine ⟨7, _, rfl, ?_⟩ | refine ⟨8, _, rfl, ?_⟩ | refine ⟨9, _, rfl, ?_⟩); first | refine .inl ⟨_, one_any rfl, rfl, _, (by simp only [Act.put, List.setIfInBounds_toArray, List.set_cons_zero, List.set_cons_succ]; first | done | exact rfl), ?_⟩ | refine .inr ⟨_, _, row_any rfl, rfl, (by dsimp only [cutL, List.drop, List.take]; first | done | exact rfl), _, (by simp only [Act.put, List.setIfInBounds_toArray, List.set_cons_zero, List.set_cons_succ]; first | done | exact rfl), ?_⟩) | (refine wpl_st hS rfl _ _ _ rfl rfl _ _ rfl ?_; (first | refine ⟨0, _, rfl, ?_⟩ | refine ⟨1, _, rfl, ?_⟩ | refine ⟨2, _, rfl, ?_⟩ | refine ⟨3, _, rfl, ?_⟩ | refine ⟨4, _, rfl, ?_⟩ | refine ⟨5, _, rfl, ?_⟩ | refine ⟨6, _, rfl, ?_⟩ | refine ⟨7, _, rfl, ?_⟩ | refine ⟨8, _, rfl, ?_⟩ | refine ⟨9, _, rfl, ?_⟩); refine ⟨_, (by first | exact shA rfl | exact shI rfl | exact shB rfl | exact shS rfl | exact shP rfl | exact shF rfl | exact shN rfl), _, siz_any rfl, (by exact rfl), (by exact rfl), (by exact rfl), ?_⟩; clear hS; intro _ hS; dsimp only [blit, List.set, List.cons_append, List.nil_append, Value.cells, List.toList_toArray] at hS))
  refine (hL _).mono ?_
  rintro e u2 ⟨rfl, hb⟩
  replace hS := hS.call hb
  clear hb hL
  go_wp2_with (first | (refine wpl_box hS rfl _ _ rfl _ rfl _ (by intro _; simp only [Act.put, List.setIfInBounds_toArray, List.set_cons_zero, List.set_cons_succ]; first | done | exact rfl) ?_; clear hS; intro _ _ hS; dsimp only [blit, List.set, List.cons_append, List.nil_append, Value.cells, List.toList_toArray] at hS) | (refine wpl_alloc hS rfl _ rfl _ (zer_any rfl) _ (by intro _; simp only [Act.put, List.setIfInBounds_toArray, List.set_cons_zero, List.set_cons_succ]; first | done | exact rfl) ?_; clear hS; intro _ _ hS; dsimp only [blit, List.set, List.cons_append, List.nil_append, Value.cells, List.toList_toArray] at hS) | (refine wpl_ld hS rfl _ _ rfl _ _ rfl ?_; (first | refine ⟨0, _, rfl, ?_⟩ | refine ⟨1, _, rfl, ?_⟩ | refine ⟨2, _, rfl, ?_⟩ | refine ⟨3, _, rfl, ?_⟩ | refine ⟨4, _, rfl, ?_⟩ | refine ⟨5, _, rfl, ?_⟩ | refine ⟨6, _, rfl, ?_⟩ | refine ⟨7, _, rfl, ?_⟩ | refine ⟨8, _, rfl, ?_⟩ | refine ⟨9, _, rfl, ?_⟩); first | refine .inl ⟨_, one_any rfl, rfl, _, (by simp only [Act.put, List.setIfInBounds_toArray, List.set_cons_zero, List.set_cons_succ]; first | done | exact rfl), ?_⟩ | refine .inr ⟨_, _, row_any rfl, rfl, (by dsimp only [cutL, List.drop, List.take]; first | done | exact rfl), _, (by simp only [Act.put, List.setIfInBounds_toArray, List.set_cons_zero, List.set_cons_succ]; first | done | exact rfl), ?_⟩) | (refine wpl_st hS rfl _ _ _ rfl rfl _ _ rfl ?_; (first | refine ⟨0, _, rfl, ?_⟩ | refine ⟨1, _, rfl, ?_⟩ | refine ⟨2, _, rfl, ?_⟩ | refine ⟨3, _, rfl, ?_⟩ | refine ⟨4, _, rfl, ?_⟩ | refine ⟨5, _, rfl, ?_⟩ | refine ⟨6, _, rfl, ?_⟩ | refine ⟨7, _, rfl, ?_⟩ | refine ⟨8, _, rfl, ?_⟩ | refine ⟨9, _, rfl, ?_⟩); refine ⟨_, (by first | exact shA rfl | exact shI rfl | exact shB rfl | exact shS rfl | exact shP rfl | exact shF rfl | exact shN rfl), _, siz_any rfl, (by exact rfl), (by exact rfl), (by exact rfl), ?_⟩; clear hS; intro _ hS; dsimp only [blit, List.set, List.cons_append, List.nil_append, Value.cells, List.toList_toArray] at hS))
  refine (sAlive_any _).mono ?_
  rintro e u3 ⟨rfl, hb⟩
  replace hS := hS.call hb
  clear hb
  go_wp2
  go_ret
  exact ⟨rfl, hS.bel⟩

set_option maxHeartbeats 2000000 in
theorem walk_wrong1 (w : World) (c : Um.Cf) (g0 off n cap : Nat) (ws : Nat → Nat) (h0 : 0 < n) (hb8 : n * 8 ≤ 140737488355328) (hg0 : g0 < w.heap.size) (hcell : ∀ j, j < n → w.cell? ⟨g0, off + j, none⟩ = some (.int .u64 (ws j)) ∧ Um.Word (ws j)) (h : c.r = false) :
    Calls Try.prog 5 #[(.agg #[.int .i64 (c.t), .int .i64 (c.s), .int .i64 (c.k), .int .i64 (c.g), .int .u64 (c.q : Int)]), .slice (some ⟨g0, off, none⟩) n cap] w fun e w' => e = .returned (.bool true) ∧ Below w.heap.size w w' := by
  have hR := rRight_any c.t c.s c.k c.g c.q
  rw [show Um.rt c.t c.s c.k c.g c.q = false from h] at hR
  clear h
  have HX := hide hcell
  clear hcell
  have hS := St.new w
  go_enter Try.func5, Try.ntmps5
  go_wp2_with (first | (refine wpl_clone (hS.skip _) rfl _ _ rfl _ rfl _ _ _ _ rfl ws (fun j hj => ((hS.skip _).bel.cell (p := ⟨g0, off + j, none⟩) hg0).trans ((unhide HX) j hj).1) h0 hb8 ?_; clear hS; intro g cg w' hS hc1 hc2; dsimp only [List.cons_append, List.nil_append] at hS) | (first | (refine wpl_box hS rfl _ _ rfl _ rfl _ (by intro _; simp only [Act.put, List.setIfInBounds_toArray, List.set_cons_zero, List.set_cons_succ]; first | done | exact rfl) ?_; clear hS; intro _ _ hS; dsimp only [blit, List.set, List.cons_append, List.nil_append, Value.cells, List.toList_toArray] at hS) | (refine wpl_alloc hS rfl _ rfl _ (zer_any rfl) _ (by intro _; simp only [Act.put, List.setIfInBounds_toArray, List.set_cons_zero, List.set_cons_succ]; first | done | exact rfl) ?_; clear hS; intro _ _ hS; dsimp only [blit, List.set, List.cons_append, List.nil_append, Value.cells, List.toList_toArray] at hS) | (refine wpl_ld hS rfl _ _ rfl _ _ rfl ?_; (first | refine ⟨0, _, rfl, ?_⟩ | refine ⟨1, _, rfl, ?_⟩ | refine ⟨2, _, rfl, ?_⟩ | refine ⟨3, _, rfl, ?_⟩ | refine ⟨4, _, rfl, ?_⟩ | refine ⟨5, _, rfl, ?_⟩ | refine ⟨6, _, rfl, ?_⟩ | refine ⟨7, _, rfl, ?_⟩ | refine ⟨8, _, rfl, ?_⟩ | refine ⟨9, _, rfl, ?_⟩); first | refine .inl ⟨_, one_any rfl, rfl, _, (by simp only [Act.put, List.setIfInBounds_toArray, List.set_cons_zero, List.set_cons_succ]; first | done | exact rfl), ?_⟩ | refine .inr ⟨_, _, row_any rfl, rfl, (by dsimp only [cutL, List.drop, List.take]; first | done | exact rfl), _, (by simp only [Act.put, List.setIfInBounds_toArray, List.set_cons_zero, List.set_cons_succ]; first | done | exact rfl), ?_⟩) | (refine wpl_st hS rfl _ _ _ rfl rfl _ _ rfl ?_; (first | refine ⟨0, _, rfl, ?_⟩ | refine ⟨1, _, rfl, ?_⟩ | refine ⟨2, _, rfl, ?_⟩ | refine ⟨3, _, rfl, ?_⟩ | refine ⟨4, _, rfl, ?_⟩ | refine ⟨5, _, rfl, ?_⟩ | refine ⟨6, _, rfl, ?_⟩ | refine ⟨7, _, rfl, ?_⟩ | refine ⟨8, _, rfl, ?_⟩ | refine ⟨9, _, rfl, ?_⟩); refine ⟨_, (by first | exact shA rfl | exact shI rfl | exact shB rfl | exact shS rfl | exact shP rfl | exact shF rfl | exact shN rfl), _, siz_any rfl, (by exact rfl), (by exact rfl), (by exact rfl), ?_⟩; clear hS; intro _ hS; dsimp only [blit, List.set, List.cons_append, List.nil_append, Value.cells, List.toList_toArray] at hS)))
  refine (hR _).mono ?_
  rintro e u1 ⟨rfl, hb⟩
  replace hS := hS.call hb
  clear hb hR
  go_wp2_with (first | (refine wpl_box hS rfl _ _ rfl _ rfl _ (by intro _; simp only [Act.put, List.setIfInBounds_toArray, List.set_cons_zero, List.set_cons_succ]; first | done | exact rfl) ?_; clear hS; intro _ _ hS; dsimp only [blit, List.set, List.cons_append, List.nil_append, Value.cells, List.toList_toArray] at hS) | (refine wpl_alloc hS rfl _ rfl _ (zer_any rfl) _ (by intro _; simp only [Act.put, List.setIfInBounds_toArray, List.set_cons_zero, List.set_cons_succ]; first | done | exact rfl) ?_; clear hS; intro _ _ hS; dsimp only [blit, List.set, List.cons_append, List.nil_append, Value.cells, List.toList_toArray] at hS) | (refine wpl_ld hS rfl _ _ rfl _ _ rfl ?_; (first | refine ⟨0, _, rfl, ?_⟩ | refine ⟨1, _, rfl, ?_⟩ | refine ⟨2, _, rfl, ?_⟩ | refine ⟨3, _, rfl, ?_⟩ | refine ⟨4, _, rfl, ?_⟩ | refine ⟨5, _, rfl, ?_⟩ | refine ⟨6, _, rfl, ?_⟩ | refine ⟨7, _, rfl, ?_⟩ | refine ⟨8, _, rfl, ?_⟩ | refine ⟨9, _, rfl, ?_⟩); first | refine .inl ⟨_, one_any rfl, rfl, _, (by simp only [Act.put, List.setIfInBounds_toArray, List.set_cons_zero, List.set_cons_succ]; first | done | exact rfl), ?_⟩ | refine .inr ⟨_, _, row_any rfl, rfl, (by dsimp only [cutL, List.drop, List.take]; first | done | exact rfl), _, (by simp only [Act.put, List.setIfInBounds_toArray, List.set_cons_zero, List.set_cons_succ]; first | done | exact rfl), ?_⟩) | (refine wpl_st hS rfl _ _ _ rfl rfl _ _ rfl ?_; (first | refine ⟨0, _, rfl, ?_⟩ | refine ⟨1, _, rfl, ?_⟩ | refine ⟨2, _, rfl, ?_⟩ | refine ⟨3, _, rfl, ?_⟩ | refine ⟨4, _, rfl, ?_⟩ | refine ⟨5, _, rfl, ?_⟩ | refine ⟨6, _, rfl, ?_⟩ | refine ⟨7, _, rfl, ?_⟩ | refine ⟨8, _, rfl, ?_⟩ | refine ⟨9, _, rfl, ?_⟩); refine ⟨_, (by first | exact shA rfl | exact shI rfl | exact shB rfl | exact shS rfl | exact shP rfl | exact shF rfl | exact shN rfl), _, siz_any rfl, (by exact rfl), (by exact rfl), (by exact rfl), ?_⟩; clear hS; intro _ hS; dsimp only [blit, List.set, List.cons_append, List.nil_append, Value.cells, List.toList_toArray] at hS))
  refine (sAlive_any _).mono ?_
  rintro e u3 ⟨rfl, hb⟩
  replace hS := hS.call hb
  clear hb
  go_wp2
  go_ret
  exact ⟨rfl, hS.bel⟩

set_option maxHeartbeats 2000000 in
theorem walk_short1 (w : World) (c : Um.Cf) (g0 off n cap : Nat) (ws : Nat → Nat) (h0 : 0 < n) (hb8 : n * 8 ≤ 140737488355328) (hg0 : g0 < w.heap.size) (hcell : ∀ j, j < n → w.cell? ⟨g0, off + j, none⟩ = some (.int .u64 (ws j)) ∧ Um.Word (ws j)) (h : c.r = true) (hn : n ≠ c.n) :
    Calls Try.prog 5 #[(.agg #[.int .i64 (c.t), .int .i64 (c.s), .int .i64 (c.k), .int .i64 (c.g), .int .u64 (c.q : Int)]), .slice (some ⟨g0, off, none⟩) n cap] w fun e w' => e = .returned (.bool true) ∧ Below w.heap.size w w' := by
  have hR := rRight_any c.t c.s c.k c.g c.q
  rw [show Um.rt c.t c.s c.k c.g c.q = true from h] at hR
  have hL := rLen_any c.t c.s c.k c.g c.q
  rw [Cf_len] at hL
  have hp := Um.Cf.n_pos h
  have HX := hide hcell
  clear hcell
  have hn1 : ¬ ((n : Int) = (c.n : Int)) := by omega
  have hn2 : ((n : Int) != (c.n : Int)) = true := by simp; omega
  clear h hp hn
  generalize c.n = m at *
  have hS := St.new w
  go_enter Try.func5, Try.ntmps5
  go_wp2_with (first | (refine wpl_clone (hS.skip _) rfl _ _ rfl _ rfl _ _ _ _ rfl ws (fun j hj => ((hS.skip _).bel.cell (p := ⟨g0, off + j, none⟩) hg0).trans ((unhide HX) j hj).1) h0 hb8 ?_; clear hS; intro g cg w' hS hc1 hc2; dsimp only [List.cons_append, List.nil_append] at hS) | (first | (refine wpl_box hS rfl _ _ rfl _ rfl _ (by intro _; simp only [Act.put, List.setIfInBounds_toArray, List.set_cons_zero, List.set_cons_succ]; first | done | exact rfl) ?_; clear hS; intro _ _ hS; dsimp only [blit, List.set, List.cons_append, List.nil_append, Value.cells, List.toList_toArray] at hS) | (refine wpl_alloc hS rfl _ rfl _ (zer_any rfl) _ (by intro _; simp only [Act.put, List.setIfInBounds_toArray, List.set_cons_zero, List.set_cons_succ]; first | done | exact rfl) ?_; clear hS; intro _ _ hS; dsimp only [blit, List.set, List.cons_append, List.nil_append, Value.cells, List.toList_toArray] at hS) | (refine wpl_ld hS rfl _ _ rfl _ _ rfl ?_; (first | refine ⟨0, _, rfl, ?_⟩ | refine ⟨1, _, rfl, ?_⟩ | refine ⟨2, _, rfl, ?_⟩ | refine ⟨3, _, rfl, ?_⟩ | refine ⟨4, _, rfl, ?_⟩ | refine ⟨5, _, rfl, ?_⟩ | refine ⟨6, _, rfl, ?_⟩ | refine ⟨7, _, rfl, ?_⟩ | refine ⟨8, _, rfl, ?_⟩ | refine ⟨9, _, rfl, ?_⟩); first | refine .inl ⟨_, one_any rfl, rfl, _, (by simp only [Act.put, List.setIfInBounds_toArray, List.set_cons_zero, List.set_cons_succ]; first | done | exact rfl), ?_⟩ | refine .inr ⟨_, _, row_any rfl, rfl, (by dsimp only [cutL, List.drop, List.take]; first | done | exact rfl), _, (by simp only [Act.put, List.setIfInBounds_toArray, List.set_cons_zero, List.set_cons_succ]; first | done | exact rfl), ?_⟩) | (refine wpl_st hS rfl _ _ _ rfl rfl _ _ rfl ?_; (first | refine ⟨0, _, rfl, ?_⟩ | refine ⟨1, _, rfl, ?_⟩ | refine ⟨2, _, rfl, ?_⟩ | refine ⟨3, _, rfl, ?_⟩ | refine ⟨4, _, rfl, ?_⟩ | refine ⟨5, _, rfl, ?_⟩ | refine ⟨6, _, rfl, ?_⟩ | refine ⟨7, _, rfl, ?_⟩ | refine ⟨8, _, rfl, ?_⟩ | refine ⟨9, _, rfl, ?_⟩); refine ⟨_, (by first | exact shA rfl | exact shI rfl | exact shB rfl | exact shS rfl | exact shP rfl | exact shF rfl | exact shN rfl), _, siz_any rfl, (by exact rfl), (by exact rfl), (by exact rfl), ?_⟩; clear hS; intro _ hS; dsimp only [blit, List.set, List.cons_append, List.nil_append, Value.cells, List.toList_toArray] at hS)))
  refine (hR _).mono ?_
  rintro e u1 ⟨rfl, hb⟩
  replace hS := hS.call hb
  clear hb hR
  go_wp2_with (first | (refine wpl_box hS rfl _ _ rfl _ rfl _ (by intro _; simp only [Act.put, List.setIfInBounds_toArray, List.set_cons_zero, List.set_cons_succ]; first | done | exact rfl) ?_; clear hS; intro _ _ hS; dsimp only [blit, List.set, List.cons_append, List.nil_append, Value.cells, List.toList_toArray] at hS) | (refine wpl_alloc hS rfl _ rfl _ (zer_any rfl) _ (by intro _; simp only [Act.put, List.setIfInBounds_toArray, List.set_cons_zero, List.set_cons_succ]; first | done | exact rfl) ?_; clear hS; intro _ _ hS; dsimp only [blit, List.set, List.cons_append, List.nil_append, Value.cells, List.toList_toArray] at hS) | (refine wpl_ld hS rfl _ _ rfl _ _ rfl ?_; (first | refine ⟨0, _, rfl, ?_⟩ | refine ⟨1, _, rfl, ?_⟩ | refine ⟨2, _, rfl, ?_⟩ | refine ⟨3, _, rfl, ?_⟩ | refine ⟨4, _, rfl, ?_⟩ | refine ⟨5, _, rfl, ?_⟩ | refine ⟨6, _, rfl, ?_⟩ | refine ⟨7, _, rfl, ?_⟩ | refine ⟨8, _, rfl, ?_⟩ | refine ⟨9, _, rfl, ?_⟩); first | refine .inl ⟨_, one_any rfl, rfl, _, (by simp only [Act.put, List.setIfInBounds_toArray, List.set_cons_zero, List.set_cons_succ]; first | done | exact rfl), ?_⟩ | refine .inr ⟨_, _, row_any rfl, rfl, (by dsimp only [cutL, List.drop, List.take]; first | done | exact rfl), _, (by simp only [Act.put, List.setIfInBounds_toArray, List.set_cons_zero, List.set_cons_succ]; first | done | exact rfl), ?_⟩) | (refine wpl_st hS rfl _ _ _ rfl rfl _ _ rfl ?_; (first | refine ⟨0, _, rfl, ?_⟩ | refine ⟨1, _, rfl, ?_⟩ | refine ⟨2, _, rfl, ?_⟩ | refine ⟨3, _, rfl, ?_⟩ | refine ⟨4, _, rfl, ?_⟩ | refine ⟨5, _, rfl, ?_⟩ | refine ⟨6, _, rfl, ?_⟩ | refine ⟨7, _, rfl, ?_⟩ | refine ⟨8, _, rfl, ?_⟩ | refine ⟨9, _, rfl, ?_⟩); refine ⟨_, (by first | exact shA rfl | exact shI rfl | exact shB rfl | exact shS rfl | exact shP rfl | exact shF rfl | exact shN rfl), _, siz_any rfl, (by exact rfl), (by exact rfl), (by exact rfl), ?_⟩; clear hS; intro _ hS; dsimp only [blit, List.set, List.cons_append, List.nil_append, Value.cells, List.toList_toArray] at hS))
  refine (hL _).mono ?_
  rintro e u2 ⟨rfl, hb⟩
  replace hS := hS.call hb
  clear hb hL
  go_wp2_with (first | (refine wpl_box hS rfl _ _ rfl _ rfl _ (by intro _; simp only [Act.put, List.setIfInBounds_toArray, List.set_cons_zero, List.set_cons_succ]; first | done | exact rfl) ?_; clear hS; intro _ _ hS; dsimp only [blit, List.set, List.cons_append, List.nil_append, Value.cells, List.toList_toArray] at hS) | (refine wpl_alloc hS rfl _ rfl _ (zer_any rfl) _ (by intro _; simp only [Act.put, List.setIfInBounds_toArray, List.set_cons_zero, List.set_cons_succ]; first | done | exact rfl) ?_; clear hS; intro _ _ hS; dsimp only [blit, List.set, List.cons_append, List.nil_append, Value.cells, List.toList_toArray] at hS) | (refine wpl_ld hS rfl _ _ rfl _ _ rfl ?_; (first | refine ⟨0, _, rfl, ?_⟩ | refine ⟨1, _, rfl, ?_⟩ | refine ⟨2, _, rfl, ?_⟩ | refine ⟨3, _, rfl, ?_⟩ | refine ⟨4, _, rfl, ?_⟩ | refine ⟨5, _, rfl, ?_⟩ | refine ⟨6, _, rfl, ?_⟩ | refine ⟨7, _, rfl, ?_⟩ | refine ⟨8, _, rfl, ?_⟩ | refine ⟨9, _, rfl, ?_⟩); first | refine .inl ⟨_, one_any rfl, rfl, _, (by simp only [Act.put, List.setIfInBounds_toArray, List.set_cons_zero, List.set_cons_succ]; first | done | exact rfl), ?_⟩ | refine .inr ⟨_, _, row_any rfl, rfl, (by dsimp only [cutL, List.drop, List.take]; first | done | exact rfl), _, (by simp only [Act.put, List.setIfInBounds_toArray, List.set_cons_zero, List.set_cons_succ]; first | done | exact rfl), ?_⟩) | (refine wpl_st hS rfl _ _ _ rfl rfl _ _ rfl ?_; (first | refine ⟨0, _, rfl, ?_⟩ | refine ⟨1, _, rfl, ?_⟩ | refine ⟨2, _, rfl, ?_⟩ | refine ⟨3, _, rfl, ?_⟩ | refine ⟨4, _, rfl, ?_⟩ | refine ⟨5, _, rfl, ?_⟩ | refine ⟨6, _, rfl, ?_⟩ | refine ⟨7, _, rfl, ?_⟩ | refine ⟨8, _, rfl, ?_⟩ | refine ⟨9, _, rfl, ?_⟩); refine ⟨_, (by first | exact shA rfl | exact shI rfl | exact shB rfl | exact shS rfl | exact shP rfl | exact shF rfl | exact shN rfl), _, siz_any rfl, (by exact rfl), (by exact rfl), (by exact rfl), ?_⟩; clear hS; intro _ hS; dsimp only [blit, List.set, List.cons_append, List.nil_append, Value.cells, List.toList_toArray] at hS))
  refine (sAlive_any _).mono ?_
  rintro e u3 ⟨rfl, hb⟩
  replace hS := hS.call hb
  clear hb
  go_wp2
  go_ret
  exact ⟨rfl, hS.bel⟩

set_option maxHeartbeats 4000000 in
theorem walk_right (w : World) (c : Um.Cf) (g0 off n cap : Nat) (ws : Nat → Nat) (hnc : n = c.n) (h0 : 0 < n) (hcap : n ≤ cap) (hcm : cap ≤ maxLen) (hb8 : n * 8 ≤ 140737488355328) (hg0 : g0 < w.heap.size) (hcell : ∀ j, j < n → w.cell? ⟨g0, off + j, none⟩ = some (.int .u64 (ws j)) ∧ Um.Word (ws j)) (h : c.r = true) :
    Calls Try.prog 5 #[(.agg #[.int .i64 (c.t), .int .i64 (c.s), .int .i64 (c.k), .int .i64 (c.g), .int .u64 (c.q : Int)]), .slice (some ⟨g0, off, none⟩) n cap] w fun e w' => e = .returned (.bool true) ∧ Below w.heap.size w w' := by
  have hR := rRight_any c.t c.s c.k c.g c.q
  rw [show Um.rt c.t c.s c.k c.g c.q = true from h] at hR
  have hL := rLen_any c.t c.s c.k c.g c.q
  rw [Cf_len] at hL
  have hp := Um.Cf.n_pos h
  have hO := fun v w hv => sOf_right c v ws w h hv
  have HO := hide hO
  have HR := hide h
  have HX := hide hcell
  have hle := c.n_le
  have hI : IsWords w (.slice (some ⟨g0, off, none⟩) n cap) n ws := .inr ⟨g0, off, cap, rfl, h0, hcap, hcm, hg0, hcell⟩
  have HI := hide hI
  clear hcell h hO hI
  subst hnc
  have hS := St.new w
  go_enter Try.func5, Try.ntmps5
  go_wp2_with (first | (refine wpl_clone (hS.skip _) rfl _ _ rfl _ rfl _ _ _ _ rfl ws (fun j hj => ((hS.skip _).bel.cell (p := ⟨g0, off + j, none⟩) hg0).trans ((unhide HX) j hj).1) h0 hb8 ?_; clear hS; intro g cg w' hS hc1 hc2; dsimp only [List.cons_append, List.nil_append] at hS) | (first | (refine wpl_box hS rfl _ _ rfl _ rfl _ (by intro _; simp only [Act.put, List.setIfInBounds_toArray, List.set_cons_zero, List.set_cons_succ]; first | done | exact rfl) ?_; clear hS; intro _ _ hS; dsimp only [blit, List.set, List.cons_append, List.nil_append, Value.cells, List.toList_toArray] at hS) | (refine wpl_alloc hS rfl _ rfl _ (zer_any rfl) _ (by intro _; simp only [Act.put, List.setIfInBounds_toArray, List.set_cons_zero, List.set_cons_succ]; first | done | exact rfl) ?_; clear hS; intro _ _ hS; dsimp only [blit, List.set, List.cons_append, List.nil_append, Value.cells, List.toList_toArray] at hS) | (refine wpl_ld hS rfl _ _ rfl _ _ rfl ?_; (first | refine ⟨0, _, rfl, ?_⟩ | refine ⟨1, _, rfl, ?_⟩ | refine ⟨2, _, rfl, ?_⟩ | refine ⟨3, _, rfl, ?_⟩ | refine ⟨4, _, rfl, ?_⟩ | refine ⟨5, _, rfl, ?_⟩ | refine ⟨6, _, rfl, ?_⟩ | refine ⟨7, _, rfl, ?_⟩ | refine ⟨8, _, rfl, ?_⟩ | refine ⟨9, _, rfl, ?_⟩); first | refine .inl ⟨_, one_any rfl, rfl, _, (by simp only [Act.put, List.setIfInBounds_toArray, List.set_cons_zero, List.set_cons_succ]; first | done | exact rfl), ?_⟩ | refine .inr ⟨_, _, row_any rfl, rfl, (by dsimp only [cutL, List.drop, List.take]; first | done | exact rfl), _, (by simp only [Act.put, List.setIfInBounds_toArray, List.set_cons_zero, List.set_cons_succ]; first | done | exact rfl), ?_⟩) | (refine wpl_st hS rfl _ _ _ rfl rfl _ _ rfl ?_; (first | refine ⟨0, _, rfl, ?_⟩ | refine ⟨1, _, rfl, ?_⟩ | refine ⟨2, _, rfl, ?_⟩ | refine ⟨3, _, rfl, ?_⟩ | refine ⟨4, _, rfl, ?_⟩ | refine ⟨5, _, rfl, ?_⟩ | refine ⟨6, _, rfl, ?_⟩ | refine ⟨7, _, rfl, ?_⟩ | refine ⟨8, _, rfl, ?_⟩ | refine ⟨9, _, rfl, ?_⟩); refine ⟨_, (by first | exact shA rfl | exact shI rfl | exact shB rfl | exact shS rfl | exact shP rfl | exact shF rfl | exact shN rfl), _, siz_any rfl, (by exact rfl), (by exact rfl), (by exact rfl), ?_⟩; clear hS; intro _ hS; dsimp only [blit, List.set, List.cons_append, List.nil_append, Value.cells, List.toList_toArray] at hS)))
  refine (hR _).mono ?_
  rintro e u1 ⟨rfl, hb⟩
  replace hS := hS.call hb
  clear hb hR
  go_wp2_with (first | (refine wpl_box hS rfl _ _ rfl _ rfl _ (by intro _; simp only [Act.put, List.setIfInBounds_toArray, List.set_cons_zero, List.set_cons_succ]; first | done | exact rfl) ?_; clear hS; intro _ _ hS; dsimp only [blit, List.set, List.cons_append, List.nil_append, Value.cells, List.toList_toArray] at hS) | (refine wpl_alloc hS rfl _ rfl _ (zer_any rfl) _ (by intro _; simp only [Act.put, List.setIfInBounds_toArray, List.set_cons_zero, List.set_cons_succ]; first | done | exact rfl) ?_; clear hS; intro _ _ hS; dsimp only [blit, List.set, List.cons_append, List.nil_append, Value.cells, List.toList_toArray] at hS) | (refine wpl_ld hS rfl _ _ rfl _ _ rfl ?_; (first | refine ⟨0, _, rfl, ?_⟩ | refine ⟨1, _, rfl, ?_⟩ | refine ⟨2, _, rfl, ?_⟩ | refine ⟨3, _, rfl, ?_⟩ | refine ⟨4, _, rfl, ?_⟩ | refine ⟨5, _, rfl, ?_⟩ | refine ⟨6, _, rfl, ?_⟩ | refine ⟨7, _, rfl, ?_⟩ | refine ⟨8, _, rfl, ?_⟩ | refine ⟨9, _, rfl, ?_⟩); first | refine .inl ⟨_, one_any rfl, rfl, _, (by simp only [Act.put, List.setIfInBounds_toArray, List.set_cons_zero, List.set_cons_succ]; first | done | exact rfl), ?_⟩ | refine .inr ⟨_, _, row_any rfl, rfl, (by dsimp only [cutL, List.drop, List.take]; first | done | exact rfl), _, (by simp only [Act.put, List.setIfInBounds_toArray, List.set_cons_zero, List.set_cons_succ]; first | done | exact rfl), ?_⟩) | (refine wpl_st hS rfl _ _ _ rfl rfl _ _ rfl ?_; (first | refine ⟨0, _, rfl, ?_⟩ | refine ⟨1, _, rfl, ?_⟩ | refine ⟨2, _, rfl, ?_⟩ | refine ⟨3, _, rfl, ?_⟩ | refine ⟨4, _, rfl, ?_⟩ | refine ⟨5, _, rfl, ?_⟩ | refine ⟨6, _, rfl, ?_⟩ | refine ⟨7, _, rfl, ?_⟩ | refine ⟨8, _, rfl, ?_⟩ | refine ⟨9, _, rfl, ?_⟩); refine ⟨_, (by first | exact shA rfl | exact shI rfl | exact shB rfl | exact shS rfl | exact shP rfl | exact shF rfl | exact shN rfl), _, siz_any rfl, (by exact rfl), (by exact rfl), (by exact rfl), ?_⟩; clear hS; intro _ hS; dsimp only [blit, List.set, List.cons_append, List.nil_append, Value.cells, List.toList_toArray] at hS))
  refine (hL _).mono ?_
  rintro e u2 ⟨rfl, hb⟩
  replace hS := hS.call hb
  clear hb hL
  go_wp2_with (first | (refine wpl_box hS rfl _ _ rfl _ rfl _ (by intro _; simp only [Act.put, List.setIfInBounds_toArray, List.set_cons_zero, List.set_cons_succ]; first | done | exact rfl) ?_; clear hS; intro _ _ hS; dsimp only [blit, List.set, List.cons_append, List.nil_append, Value.cells, List.toList_toArray] at hS) | (refine wpl_alloc hS rfl _ rfl _ (zer_any rfl) _ (by intro _; simp only [Act.put, List.setIfInBounds_toArray, List.set_cons_zero, List.set_cons_succ]; first | done | exact rfl) ?_; clear hS; intro _ _ hS; dsimp only [blit, List.set, List.cons_append, List.nil_append, Value.cells, List.toList_toArray] at hS) | (refine wpl_ld hS rfl _ _ rfl _ _ rfl ?_; (first | refine ⟨0, _, rfl, ?_⟩ | refine ⟨1, _, rfl, ?_⟩ | refine ⟨2, _, rfl, ?_⟩ | refine ⟨3, _, rfl, ?_⟩ | refine ⟨4, _, rfl, ?_⟩ | refine ⟨5, _, rfl, ?_⟩ | refine ⟨6, _, rfl, ?_⟩ | refine ⟨7, _, rfl, ?_⟩ | refine ⟨8, _, rfl, ?_⟩ | refine ⟨9, _, rfl, ?_⟩); first | refine .inl ⟨_, one_any rfl, rfl, _, (by simp only [Act.put, List.setIfInBounds_toArray, List.set_cons_zero, List.set_cons_succ]; first | done | exact rfl), ?_⟩ | refine .inr ⟨_, _, row_any rfl, rfl, (by dsimp only [cutL, List.drop, List.take]; first | done | exact rfl), _, (by simp only [Act.put, List.setIfInBounds_toArray, List.set_cons_zero, List.set_cons_succ]; first | done | exact rfl), ?_⟩) | (refine wpl_st hS rfl _ _ _ rfl rfl _ _ rfl ?_; (first | refine ⟨0, _, rfl, ?_⟩ | refine ⟨1, _, rfl, ?_⟩ | refine ⟨2, _, rfl, ?_⟩ | refine ⟨3, _, rfl, ?_⟩ | refine ⟨4, _, rfl, ?_⟩ | refine ⟨5, _, rfl, ?_⟩ | refine ⟨6, _, rfl, ?_⟩ | refine ⟨7, _, rfl, ?_⟩ | refine ⟨8, _, rfl, ?_⟩ | refine ⟨9, _, rfl, ?_⟩); refine ⟨_, (by first | exact shA rfl | exact shI rfl | exact shB rfl | exact shS rfl | exact shP rfl | exact shF rfl | exact shN rfl), _, siz_any rfl, (by exact rfl), (by exact rfl), (by exact rfl), ?_⟩; clear hS; intro _ hS; dsimp only [blit, List.set, List.cons_append, List.nil_append, Value.cells, List.toList_toArray] at hS))
  refine ((unhide HO) _ _ (.inr ⟨g, 0, cg, rfl, h0, hc1, hc2, (hS.get 1 rfl).lt, fun j hj => ⟨by rw [Nat.zero_add]; exact (hS.get 1 rfl).cell j _ (rowW_get ws c.n j hj), ((unhide HX) j hj).2⟩⟩)).mono ?_
  rintro e u3 ⟨B, C, rfl, hl1, hl2, hM, hb⟩
  have hne := hM.ne
  have HW := hide hM.wd
  have HM := hide hM
  replace hS := hS.addMem hb hM hl1 hl2
  dsimp only [List.cons_append, List.nil_append] at hS
  clear hb hM hl1 hl2 HO
  go_wp2_with (first | (refine wpl_box hS rfl _ _ rfl _ rfl _ (by intro _; simp only [Act.put, List.setIfInBounds_toArray, List.set_cons_zero, List.set_cons_succ]; first | done | exact rfl) ?_; clear hS; intro _ _ hS; dsimp only [blit, List.set, List.cons_append, List.nil_append, Value.cells, List.toList_toArray] at hS) | (refine wpl_alloc hS rfl _ rfl _ (zer_any rfl) _ (by intro _; simp only [Act.put, List.setIfInBounds_toArray, List.set_cons_zero, List.set_cons_succ]; first | done | exact rfl) ?_; clear hS; intro _ _ hS; dsimp only [blit, List.set, List.cons_append, List.nil_append, Value.cells, List.toList_toArray] at hS) | (refine wpl_ld hS rfl _ _ rfl _ _ rfl ?_; (first | refine ⟨0, _, rfl, ?_⟩ | refine ⟨1, _, rfl, ?_⟩ | refine ⟨2, _, rfl, ?_⟩ | refine ⟨3, _, rfl, ?_⟩ | refine ⟨4, _, rfl, ?_⟩ | refine ⟨5, _, rfl, ?_⟩ | refine ⟨6, _, rfl, ?_⟩ | refine ⟨7, _, rfl, ?_⟩ | refine ⟨8, _, rfl, ?_⟩ | refine ⟨9, _, rfl, ?_⟩); first | refine .inl ⟨_, one_any rfl, rfl, _, (by simp only [Act.put, List.setIfInBounds_toArray, List.set_cons_zero, List.set_cons_succ]; first | done | exact rfl), ?_⟩ | refine .inr ⟨_, _, row_any rfl, rfl, (by dsimp only [cutL, List.drop, List.take]; first | done | exact rfl), _, (by simp only [Act.put, List.setIfInBounds_toArray, List.set_cons_zero, List.set_cons_succ]; first | done | exact rfl), ?_⟩) | (refine wpl_st hS rfl _ _ _ rfl rfl _ _ rfl ?_; (first | refine ⟨0, _, rfl, ?_⟩ | refine ⟨1, _, rfl, ?_⟩ | refine ⟨2, _, rfl, ?_⟩ | refine ⟨3, _, rfl, ?_⟩ | refine ⟨4, _, rfl, ?_⟩ | refine ⟨5, _, rfl, ?_⟩ | refine ⟨6, _, rfl, ?_⟩ | refine ⟨7, _, rfl, ?_⟩ | refine ⟨8, _, rfl, ?_⟩ | refine ⟨9, _, rfl, ?_⟩); refine ⟨_, (by first | exact shA rfl | exact shI rfl | exact shB rfl | exact shS rfl | exact shP rfl | exact shF rfl | exact shN rfl), _, siz_any rfl, (by exact rfl), (by exact rfl), (by exact rfl), ?_⟩; clear hS; intro _ hS; dsimp only [blit, List.set, List.cons_append, List.nil_append, Value.cells, List.toList_toArray] at hS))
  refine (mCells_any (unhide HM)).mono ?_
  rintro e u4 ⟨rfl, hg, hb⟩
  replace hS := hS.add hb (blkAt_new hg) (Nat.le_refl _)
  dsimp only [List.cons_append, List.nil_append, List.toList_toArray] at hS
  generalize u3.heap.size = z at *
  clear hb hg HM
  go_wp2_with (first | (refine wpl_box hS rfl _ _ rfl _ rfl _ (by intro _; simp only [Act.put, List.setIfInBounds_toArray, List.set_cons_zero, List.set_cons_succ]; first | done | exact rfl) ?_; clear hS; intro _ _ hS; dsimp only [blit, List.set, List.cons_append, List.nil_append, Value.cells, List.toList_toArray] at hS) | (refine wpl_alloc hS rfl _ rfl _ (zer_any rfl) _ (by intro _; simp only [Act.put, List.setIfInBounds_toArray, List.set_cons_zero, List.set_cons_succ]; first | done | exact rfl) ?_; clear hS; intro _ _ hS; dsimp only [blit, List.set, List.cons_append, List.nil_append, Value.cells, List.toList_toArray] at hS) | (refine wpl_ld hS rfl _ _ rfl _ _ rfl ?_; (first | refine ⟨0, _, rfl, ?_⟩ | refine ⟨1, _, rfl, ?_⟩ | refine ⟨2, _, rfl, ?_⟩ | refine ⟨3, _, rfl, ?_⟩ | refine ⟨4, _, rfl, ?_⟩ | refine ⟨5, _, rfl, ?_⟩ | refine ⟨6, _, rfl, ?_⟩ | refine ⟨7, _, rfl, ?_⟩ | refine ⟨8, _, rfl, ?_⟩ | refine ⟨9, _, rfl, ?_⟩); first | refine .inl ⟨_, one_any rfl, rfl, _, (by simp only [Act.put, List.setIfInBounds_toArray, List.set_cons_zero, List.set_cons_succ]; first | done | exact rfl), ?_⟩ | refine .inr ⟨_, _, row_any rfl, rfl, (by dsimp only [cutL, List.drop, List.take]; first | done | exact rfl), _, (by simp only [Act.put, List.setIfInBounds_toArray, List.set_cons_zero, List.set_cons_succ]; first | done | exact rfl), ?_⟩) | (refine wpl_st hS rfl _ _ _ rfl rfl _ _ rfl ?_; (first | refine ⟨0, _, rfl, ?_⟩ | refine ⟨1, _, rfl, ?_⟩ | refine ⟨2, _, rfl, ?_⟩ | refine ⟨3, _, rfl, ?_⟩ | refine ⟨4, _, rfl, ?_⟩ | refine ⟨5, _, rfl, ?_⟩ | refine ⟨6, _, rfl, ?_⟩ | refine ⟨7, _, rfl, ?_⟩ | refine ⟨8, _, rfl, ?_⟩ | refine ⟨9, _, rfl, ?_⟩); refine ⟨_, (by first | exact shA rfl | exact shI rfl | exact shB rfl | exact shS rfl | exact shP rfl | exact shF rfl | exact shN rfl), _, siz_any rfl, (by exact rfl), (by exact rfl), (by exact rfl), ?_⟩; clear hS; intro _ hS; dsimp only [blit, List.set, List.cons_append, List.nil_append, Value.cells, List.toList_toArray] at hS))
  go_loopw [41] (fun i wr => ∃ (j : Nat) (xs : Nat → Nat), j ≤ c.n ∧ i = .int .i64 j ∧ Hid (Off g g u4 wr) ∧ Hid (BlkAt wr g (rowW xs c.n))) (fun i _ => c.n - (intOf i).toNat)
  case atStart => exact ⟨0, ws, by omega, rfl, Off.refl _ _ _, hS.get 1 rfl⟩
  case round =>
    rename_i wr
    obtain ⟨j, xs, hj, rfl, hOf, hBk⟩ := hrel
    by_cases hlt : j < c.n
    · have hlti : (j : Int) < (c.n : Int) := by omega
      have c0 := (unhide hBk).cell j _ (rowW_get xs c.n j hlt)
      have c1 := (unhide hBk).fz j
      have e1 : IntKind.u64.wrap ((xs j : Int) + 1) = (Um.addW (xs j) 1 : Nat) := addW_wrap (xs j) 1
      clear hS
      go_wp2
      exact ⟨⟨j + 1, Um.putW xs j (Um.addW (xs j) 1), by omega, by go_num, (unhide hOf).set (.inl rfl) _, row_put (unhide hBk)⟩, by simp [intOf]; omega⟩
    · obtain rfl : j = c.n := by omega
      replace hS := hS.turn 1 rfl (unhide hOf) (unhide hBk)
      dsimp only [List.set] at hS
      clear hOf hBk hlt hj
      go_wp2_with (first | (refine wpl_box hS rfl _ _ rfl _ rfl _ (by intro _; simp only [Act.put, List.setIfInBounds_toArray, List.set_cons_zero, List.set_cons_succ]; first | done | exact rfl) ?_; clear hS; intro _ _ hS; dsimp only [blit, List.set, List.cons_append, List.nil_append, Value.cells, List.toList_toArray] at hS) | (refine wpl_alloc hS rfl _ rfl _ (zer_any rfl) _ (by intro _; simp only [Act.put, List.setIfInBounds_toArray, List.set_cons_zero, List.set_cons_succ]; first | done | exact rfl) ?_; clear hS; intro _ _ hS; dsimp only [blit, List.set, List.cons_append, List.nil_append, Value.cells, List.toList_toArray] at hS) | (refine wpl_ld hS rfl _ _ rfl _ _ rfl ?_; (first | refine ⟨0, _, rfl, ?_⟩ | refine ⟨1, _, rfl, ?_⟩ | refine ⟨2, _, rfl, ?_⟩ | refine ⟨3, _, rfl, ?_⟩ | refine ⟨4, _, rfl, ?_⟩ | refine ⟨5, _, rfl, ?_⟩ | refine ⟨6, _, rfl, ?_⟩ | refine ⟨7, _, rfl, ?_⟩ | refine ⟨8, _, rfl, ?_⟩ | refine ⟨9, _, rfl, ?_⟩); first | refine .inl ⟨_, one_any rfl, rfl, _, (by simp only [Act.put, List.setIfInBounds_toArray, List.set_cons_zero, List.set_cons_succ]; first | done | exact rfl), ?_⟩ | refine .inr ⟨_, _, row_any rfl, rfl, (by dsimp only [cutL, List.drop, List.take]; first | done | exact rfl), _, (by simp only [Act.put, List.setIfInBounds_toArray, List.set_cons_zero, List.set_cons_succ]; first | done | exact rfl), ?_⟩) | (refine wpl_st hS rfl _ _ _ rfl rfl _ _ rfl ?_; (first | refine ⟨0, _, rfl, ?_⟩ | refine ⟨1, _, rfl, ?_⟩ | refine ⟨2, _, rfl, ?_⟩ | refine ⟨3, _, rfl, ?_⟩ | refine ⟨4, _, rfl, ?_⟩ | refine ⟨5, _, rfl, ?_⟩ | refine ⟨6, _, rfl, ?_⟩ | refine ⟨7, _, rfl, ?_⟩ | refine ⟨8, _, rfl, ?_⟩ | refine ⟨9, _, rfl, ?_⟩); refine ⟨_, (by first | exact shA rfl | exact shI rfl | exact shB rfl | exact shS rfl | exact shP rfl | exact shF rfl | exact shN rfl), _, siz_any rfl, (by exact rfl), (by exact rfl), (by exact rfl), ?_⟩; clear hS; intro _ hS; dsimp only [blit, List.set, List.cons_append, List.nil_append, Value.cells, List.toList_toArray] at hS))
      go_loopw [53] (fun i ws2 => ∃ (j : Nat) (ys : Nat → Nat), j ≤ c.n ∧ i = .int .i64 j ∧ Hid (Off z z wr ws2) ∧ Hid (BlkAt ws2 z (rowW ys c.n))) (fun i _ => c.n - (intOf i).toNat)
      case atStart => exact ⟨0, ws, by omega, rfl, Off.refl _ _ _, hS.get 4 rfl⟩
      case round =>
        rename_i wq
        obtain ⟨j, ys, hj, rfl, hOf, hBk⟩ := hrel
        by_cases hlt : j < c.n
        · have hlti : (j : Int) < (c.n : Int) := by omega
          have c0 := (unhide hBk).cell j _ (rowW_get ys c.n j hlt)
          have c1 := (unhide hBk).fz j
          have e1 : IntKind.u64.wrap ((ys j : Int) - 1) = (Um.addW (ys j) 18446744073709551615 : Nat) := by rw [IntKind.wrap_u64]; unfold Um.addW; omega
          clear hS
          go_wp2
          exact ⟨⟨j + 1, Um.putW ys j (Um.addW (ys j) 18446744073709551615), by omega, by go_num, (unhide hOf).set (.inl rfl) _, row_put (unhide hBk)⟩, by simp [intOf]; omega⟩
        · obtain rfl : j = c.n := by omega
          replace hS := hS.turn 4 rfl (unhide hOf) (unhide hBk)
          dsimp only [List.set] at hS
          clear hOf hBk hlt hj
          go_wp2_with (first | (refine wpl_box hS rfl _ _ rfl _ rfl _ (by intro _; simp only [Act.put, List.setIfInBounds_toArray, List.set_cons_zero, List.set_cons_succ]; first | done | exact rfl) ?_; clear hS; intro _ _ hS; dsimp only [blit, List.set, List.cons_append, List.nil_append, Value.cells, List.toList_toArray] at hS) | (refine wpl_alloc hS rfl _ rfl _ (zer_any rfl) _ (by intro _; simp only [Act.put, List.setIfInBounds_toArray, List.set_cons_zero, List.set_cons_succ]; first | done | exact rfl) ?_; clear hS; intro _ _ hS; dsimp only [blit, List.set, List.cons_append, List.nil_append, Value.cells, List.toList_toArray] at hS) | (refine wpl_ld hS rfl _ _ rfl _ _ rfl ?_; (first | refine ⟨0, _, rfl, ?_⟩ | refine ⟨1, _, rfl, ?_⟩ | refine ⟨2, _, rfl, ?_⟩ | refine ⟨3, _, rfl, ?_⟩ | refine ⟨4, _, rfl, ?_⟩ | refine ⟨5, _, rfl, ?_⟩ | refine ⟨6, _, rfl, ?_⟩ | refine ⟨7, _, rfl, ?_⟩ | refine ⟨8, _, rfl, ?_⟩ | refine ⟨9, _, rfl, ?_⟩); first | refine .inl ⟨_, one_any rfl, rfl, _, (by simp only [Act.put, List.setIfInBounds_toArray, List.set_cons_zero, List.set_cons_succ]; first | done | exact rfl), ?_⟩ | refine .inr ⟨_, _, row_any rfl, rfl, (by dsimp only [cutL, List.drop, List.take]; first | done | exact rfl), _, (by simp only [Act.put, List.setIfInBounds_toArray, List.set_cons_zero, List.set_cons_succ]; first | done | exact rfl), ?_⟩) | (refine wpl_st hS rfl _ _ _ rfl rfl _ _ rfl ?_; (first | refine ⟨0, _, rfl, ?_⟩ | refine ⟨1, _, rfl, ?_⟩ | refine ⟨2, _, rfl, ?_⟩ | refine ⟨3, _, rfl, ?_⟩ | refine ⟨4, _, rfl, ?_⟩ | refine ⟨5, _, rfl, ?_⟩ | refine ⟨6, _, rfl, ?_⟩ | refine ⟨7, _, rfl, ?_⟩ | refine ⟨8, _, rfl, ?_⟩ | refine ⟨9, _, rfl, ?_⟩); refine ⟨_, (by first | exact shA rfl | exact shI rfl | exact shB rfl | exact shS rfl | exact shP rfl | exact shF rfl | exact shN rfl), _, siz_any rfl, (by exact rfl), (by exact rfl), (by exact rfl), ?_⟩; clear hS; intro _ hS; dsimp only [blit, List.set, List.cons_append, List.nil_append, Value.cells, List.toList_toArray] at hS))
          refine (sAlive_any _).mono ?_
          rintro e u5 ⟨rfl, hb⟩
          replace hS := hS.call hb
          clear hb
          go_wp2_with (first | (refine wpl_box hS rfl _ _ rfl _ rfl _ (by intro _; simp only [Act.put, List.setIfInBounds_toArray, List.set_cons_zero, List.set_cons_succ]; first | done | exact rfl) ?_; clear hS; intro _ _ hS; dsimp only [blit, List.set, List.cons_append, List.nil_append, Value.cells, List.toList_toArray] at hS) | (refine wpl_alloc hS rfl _ rfl _ (zer_any rfl) _ (by intro _; simp only [Act.put, List.setIfInBounds_toArray, List.set_cons_zero, List.set_cons_succ]; first | done | exact rfl) ?_; clear hS; intro _ _ hS; dsimp only [blit, List.set, List.cons_append, List.nil_append, Value.cells, List.toList_toArray] at hS) | (refine wpl_ld hS rfl _ _ rfl _ _ rfl ?_; (first | refine ⟨0, _, rfl, ?_⟩ | refine ⟨1, _, rfl, ?_⟩ | refine ⟨2, _, rfl, ?_⟩ | refine ⟨3, _, rfl, ?_⟩ | refine ⟨4, _, rfl, ?_⟩ | refine ⟨5, _, rfl, ?_⟩ | refine ⟨6, _, rfl, ?_⟩ | refine ⟨7, _, rfl, ?_⟩ | refine ⟨8, _, rfl, ?_⟩ | refine ⟨9, _, rfl, ?_⟩); first | refine .inl ⟨_, one_any rfl, rfl, _, (by simp only [Act.put, List.setIfInBounds_toArray, List.set_cons_zero, List.set_cons_succ]; first | done | exact rfl), ?_⟩ | refine .inr ⟨_, _, row_any rfl, rfl, (by dsimp only [cutL, List.drop, List.take]; first | done | exact rfl), _, (by simp only [Act.put, List.setIfInBounds_toArray, List.set_cons_zero, List.set_cons_succ]; first | done | exact rfl), ?_⟩) | (refine wpl_st hS rfl _ _ _ rfl rfl _ _ rfl ?_; (first | refine ⟨0, _, rfl, ?_⟩ | refine ⟨1, _, rfl, ?_⟩ | refine ⟨2, _, rfl, ?_⟩ | refine ⟨3, _, rfl, ?_⟩ | refine ⟨4, _, rfl, ?_⟩ | refine ⟨5, _, rfl, ?_⟩ | refine ⟨6, _, rfl, ?_⟩ | refine ⟨7, _, rfl, ?_⟩ | refine ⟨8, _, rfl, ?_⟩ | refine ⟨9, _, rfl, ?_⟩); refine ⟨_, (by first | exact shA rfl | exact shI rfl | exact shB rfl | exact shS rfl | exact shP rfl | exact shF rfl | exact shN rfl), _, siz_any rfl, (by exact rfl), (by exact rfl), (by exact rfl), ?_⟩; clear hS; intro _ hS; dsimp only [blit, List.set, List.cons_append, List.nil_append, Value.cells, List.toList_toArray] at hS))
          refine (mCells_any (memAt_of (hS.get 2 rfl) (hS.get 3 rfl) hne (unhide HR) (unhide HW))).mono ?_
          rintro e u6 ⟨rfl, hg, hb⟩
          have hI6 := (LowWords.of_row (n := c.n) h0 (by omega) hg (unhide HW)).is (Nat.succ_le_of_lt (Array.getElem?_eq_some_iff.1 hg).1)
          replace hS := hS.call hb
          clear hb hg
          go_wp2_with (first | (refine wpl_box hS rfl _ _ rfl _ rfl _ (by intro _; simp only [Act.put, List.setIfInBounds_toArray, List.set_cons_zero, List.set_cons_succ]; first | done | exact rfl) ?_; clear hS; intro _ _ hS; dsimp only [blit, List.set, List.cons_append, List.nil_append, Value.cells, List.toList_toArray] at hS) | (refine wpl_alloc hS rfl _ rfl _ (zer_any rfl) _ (by intro _; simp only [Act.put, List.setIfInBounds_toArray, List.set_cons_zero, List.set_cons_succ]; first | done | exact rfl) ?_; clear hS; intro _ _ hS; dsimp only [blit, List.set, List.cons_append, List.nil_append, Value.cells, List.toList_toArray] at hS) | (refine wpl_ld hS rfl _ _ rfl _ _ rfl ?_; (first | refine ⟨0, _, rfl, ?_⟩ | refine ⟨1, _, rfl, ?_⟩ | refine ⟨2, _, rfl, ?_⟩ | refine ⟨3, _, rfl, ?_⟩ | refine ⟨4, _, rfl, ?_⟩ | refine ⟨5, _, rfl, ?_⟩ | refine ⟨6, _, rfl, ?_⟩ | refine ⟨7, _, rfl, ?_⟩ | refine ⟨8, _, rfl, ?_⟩ | refine ⟨9, _, rfl, ?_⟩); first | refine .inl ⟨_, one_any rfl, rfl, _, (by simp only [Act.put, List.setIfInBounds_toArray, List.set_cons_zero, List.set_cons_succ]; first | done | exact rfl), ?_⟩ | refine .inr ⟨_, _, row_any rfl, rfl, (by dsimp only [cutL, List.drop, List.take]; first | done | exact rfl), _, (by simp only [Act.put, List.setIfInBounds_toArray, List.set_cons_zero, List.set_cons_succ]; first | done | exact rfl), ?_⟩) | (refine wpl_st hS rfl _ _ _ rfl rfl _ _ rfl ?_; (first | refine ⟨0, _, rfl, ?_⟩ | refine ⟨1, _, rfl, ?_⟩ | refine ⟨2, _, rfl, ?_⟩ | refine ⟨3, _, rfl, ?_⟩ | refine ⟨4, _, rfl, ?_⟩ | refine ⟨5, _, rfl, ?_⟩ | refine ⟨6, _, rfl, ?_⟩ | refine ⟨7, _, rfl, ?_⟩ | refine ⟨8, _, rfl, ?_⟩ | refine ⟨9, _, rfl, ?_⟩); refine ⟨_, (by first | exact shA rfl | exact shI rfl | exact shB rfl | exact shS rfl | exact shP rfl | exact shF rfl | exact shN rfl), _, siz_any rfl, (by exact rfl), (by exact rfl), (by exact rfl), ?_⟩; clear hS; intro _ hS; dsimp only [blit, List.set, List.cons_append, List.nil_append, Value.cells, List.toList_toArray] at hS))
          refine (rSame_true hI6 (((unhide HI).low.below hS.bel).is hS.bel.size) (by omega) (fun _ _ => rfl)).mono ?_
          rintro e u7 ⟨rfl, hb⟩
          replace hS := hS.call hb
          clear hb hI6
          go_wp2
          go_ret
          exact ⟨rfl, hS.bel⟩

theorem walk {H : Type} {enc : TypeId × Value → H} {base : Nat} {v0 v1 : Value} {d0 d1 : DataW H} {p0 p1 : List MemPlace} (w : World)
    (hv0 : Value.okWide Try.prog w .any base 24 v0) (h0 : DataW.Trod enc Try.prog w 0 (fun _ => true) true 24 v0 d0 p0)
    (hv1 : Value.okWide Try.prog w .any base 25 v1) (h1 : DataW.Trod enc Try.prog w 0 (fun _ => true) true 25 v1 d1 p1)
    (hz : ∀ elems spare, d1 = .slice elems spare → (elems.length + spare.length) * Try.prog.bytesOf 22 ≤ reachBytes) :
    Calls Try.prog 5 #[v0, v1] w fun e w' => e = .returned (.bool true) ∧ Below w.heap.size w w' := by
  obtain ⟨t, s, k, g, q, rfl, _⟩ := open_cfg hv0 h0
  obtain ⟨n, ws, hI, hb8⟩ := open_words_sized hv1 h1 hz
  have hao := open_nil hv1 h1
  rcases hI with ⟨ao, cap, rfl, rfl⟩ | ⟨g0, off, cap, rfl, hn0, hcap, hcm, hg0, hcell⟩
  · cases hr : (⟨t, s, k, g, q⟩ : Um.Cf).r with
    | false => exact walk_wrong0 w ⟨t, s, k, g, q⟩ ao cap (hao ao 0 cap rfl) hr
    | true => exact walk_short0 w ⟨t, s, k, g, q⟩ ao cap (hao ao 0 cap rfl) hr
  · cases hr : (⟨t, s, k, g, q⟩ : Um.Cf).r with
    | false => exact walk_wrong1 w ⟨t, s, k, g, q⟩ g0 off n cap ws hn0 hb8 hg0 hcell hr
    | true =>
      by_cases hn : n = (⟨t, s, k, g, q⟩ : Um.Cf).n
      · exact walk_right w ⟨t, s, k, g, q⟩ g0 off n cap ws hn hn0 hcap hcm hb8 hg0 hcell hr
      · exact walk_short1 w ⟨t, s, k, g, q⟩ g0 off n cap ws hn0 hb8 hg0 hcell hr hn

set_option maxRecDepth 100000 in
theorem lifted (os : Os) (started : os.Started) (H : Type) (enc : TypeId × Value → H) :
    ReturnsInHanded {} Try.checked os 5 .any (Rows.storeOwnSpec.pre6 enc Try.prog Try.f5 Rows.storeOwnRow.domain false) (Rows.storeOwnSpec.post enc Try.prog Try.f5 false true false false) := by
  refine returnsInHanded_of_change_sized (C := Try.checked) own started (by kernel_rfl) Try.func5
    (ChangeSpec.witness6 (enc := enc) (C := Try.checked) false ⟨#[], #[.agg #[.int .i64 0, .int .i64 0, .int .i64 0, .int .i64 0, .int .u64 0], .slice none 0 0], []⟩ 8 (by kernel_rfl) (by kernel_rfl) (by kernel_rfl) (by kernel_rfl)) ?_
  intro W base args ds gs before hval0 hW hcnd hsz0 _
  have hval : ∀ (j : Nat) t v, Try.f5.params[j]? = some t → args[j]? = some v → Value.okWide Try.prog W .any base t v := hval0
  have hW' := hW
  obtain ⟨p, q, hA0, hV, rfl, hfz, hnd⟩ := hW
  have hA : DataW.TrodAll enc Try.prog W 0 (fun _ => true) true Try.f5.params.toList args.toList ds p := hA0
  rw [Try.params5] at hA hval
  obtain ⟨v0, vs0, d0, ds0, p0, q0, hargs, rfl, rfl, h0, r0⟩ := trodAll_cons hA
  obtain ⟨v1, vs1, d1, ds1, p1, q1, rfl, rfl, rfl, h1, r1⟩ := trodAll_cons r0
  obtain ⟨rfl, rfl, rfl⟩ := trodAll_nil r1
  obtain rfl : args = #[v0, v1] := by cases args; simp_all
  obtain ⟨rfl, rfl⟩ := trodVars_none hV
  have hsz : ∀ elems spare, d1 = .slice elems spare → (elems.length + spare.length) * Try.prog.bytesOf 22 ≤ reachBytes := fun elems spare e => by subst e; exact sized_slice hsz0 (j := 1) rfl rfl Try.underlying25
  have k0 := h0
  have lt0 : ∀ x ∈ p0, x.block < W.heap.size := by obtain ⟨m, hm⟩ := k0; exact DataW.trod_lt m _ _ _ hm
  have k1 := h1
  have lt1 : ∀ x ∈ p1, x.block < W.heap.size := by obtain ⟨m, hm⟩ := k1; exact DataW.trod_lt m _ _ _ hm
  refine (walk W (hval 0 24 v0 rfl rfl) h0 (hval 1 25 v1 rfl rfl) h1 hsz).mono fun e W' ⟨he, bel⟩ => ?_
  subst he
  exact ⟨_, rfl, _, _, _, [], _, [], hW', trodAll_mk1 (shut_bool Try.underlying4 _), (trodAll_cons_mk (Below.trod laidOut (by kernel_rfl) (of_decide_eq_true (by kernel_rfl)) k0 bel lt0) (trodAll_cons_mk (Below.trod laidOut (by kernel_rfl) (of_decide_eq_true (by kernel_rfl)) k1 bel lt1) trodAll_mk0)), rfl, bel.frame _, fun h => by cases h⟩

theorem StoreOwn_proved : Rows.StoreOwnSaid :=
  OpenClaim.holds_of_wide 5 Try.f5 rfl rfl rfl rfl rfl rfl rfl ⟨rfl, rfl, rfl, rfl, rfl⟩ rfl rfl rfl rfl rfl (by kernel_rfl) Try.func5 (by kernel_rfl)
    (of_decide_eq_true (by kernel_rfl)) (by unfold Func.isWrapper; first | (rw [if_pos (by decide +kernel)]; kernel_rfl) | (rw [if_neg (by decide +kernel)]; exact ⟨rfl, rfl⟩))
    (fun os started H enc _ => lifted os started H enc)

end Go.Proofs.Ytafnoloamfdanaa.storeOwn
