/-
  For every world's size, status and turns, the law JoinBoth answers true: a status that is committing, or committed, and has conflicts of one side at most, never has them of both, whoever lays what to it, however their steps are mixed. Conditions: none.
-/
import Derived.Test.YtcpmclidndmgeaaRows
import Derived.Test.YtcpmclidndmgeaaK8
import Derived.Test.YtcpmclidndmgeaaK5
import Derived.Test.YtcpmclidndmgeaaK3
import Derived.Test.YtcpmclidndmgeaaK4
import Derived.WalkKit
import Derived.ProofKit
import Derived.OpenShut
import Derived.ShutString
import Derived.LoopTactic
import Derived.Lib.QuietBelow
import Derived.Deep.DeepCutAuto
namespace Go.Proofs.Ytcpmclidndmgeaa.joinBoth
set_option maxRecDepth 100000
open Go.ChangeShapes Go.WideShapes Go.ChangeAt Go.RowKit Go.Sort
set_option linter.unusedVariables false
set_option linter.unusedSimpArgs false

theorem own : ownKnob Try.prog.godebug = none := by kernel_rfl
theorem laidOut : laidOutB Try.prog = true := by kernel_rfl

/-- the same blocks, told in another order -/
theorem Sx.perm {bs : List Nat} {w0 w : World} {l l' e : List (Nat × List Value)} (h : Sx bs w0 w l e) (p : l'.Perm l) : Sx bs w0 w l' e :=
  ⟨h.off, fun q hq => h.low q (p.mem_iff.1 hq), fun q hq => h.blk q (p.mem_iff.1 hq), (p.pairwise_iff (fun hab => Ne.symm hab)).2 h.nd, h.eb, fun q hq r hr => h.ed q hq r (p.mem_iff.1 hr)⟩

theorem and7 (a : Int) : 0 ≤ bits .and .i64 a 7 ∧ bits .and .i64 a 7 ≤ 7 := by
  have h1 : (BitVec.ofInt 64 a &&& BitVec.ofInt 64 7).toNat ≤ 7 := by
    rw [BitVec.toNat_and]
    exact Nat.and_le_right
  show 0 ≤ IntKind.i64.wrap ((BitVec.ofInt 64 a &&& BitVec.ofInt 64 7).toNat : Int) ∧ IntKind.i64.wrap ((BitVec.ofInt 64 a &&& BitVec.ofInt 64 7).toNat : Int) ≤ 7
  rw [IntKind.wrap_i64]
  omega

set_option maxHeartbeats 4000000 in
theorem walk_wrong (w : World) (c : Um.Cf) (g st : Int) (b i o : Bool) (n t : Int) (ta tb : Int) (la : Option Addr) (nl cl : Nat) (h : c.r = false) :
    Calls Try.prog 6 #[(.agg #[.int .i64 (c.t), .int .i64 (c.s), .int .i64 (c.k), .int .i64 (c.g), .int .u64 (c.q : Int)]), .agg #[.int .i64 g, .int .i64 st, .bool b, .bool i, .bool o, .int .i64 n, .int .i64 t], .agg #[.int .i64 ta, .int .i64 tb, .slice la nl cl]] w fun e w' => e = .returned (.bool true) ∧ Below w.heap.size w w' := by
  have HL := hide (fun w => sNew_wrong c w h)
  clear h
  have hS := Sx.new w
  go_enter Try.func6, Try.ntmps6
  go_wp2_with (first | (refine wpx_box hS rfl _ _ rfl _ rfl _ (by intro _; simp only [Act.put, sx1, sx2, sx3]; first | done | exact rfl) ?_; clear hS; intro _ _ hS; dsimp only [blit, List.set, sx4, sx5, Value.cells, sx6] at hS) | (refine wpx_alloc hS rfl _ rfl _ (zer_any2 rfl) _ (by intro _; simp only [Act.put, sx1, sx2, sx3]; first | done | exact rfl) ?_; clear hS; intro _ _ hS; dsimp only [blit, List.set, sx4, sx5, Value.cells, sx6] at hS) | (refine wpx_ld hS rfl _ _ rfl _ _ rfl ?_; (repeat (first | refine sxh ?_ | refine sxn ?_)); first | refine .inl ⟨_, one_any2 rfl, rfl, _, (by simp only [Act.put, sx1, sx2, sx3]; first | done | exact rfl), ?_⟩ | refine .inr ⟨_, _, row_any2 rfl, rfl, (by dsimp only [cutL, List.drop, List.take]; first | done | exact rfl), _, (by simp only [Act.put, sx1, sx2, sx3]; first | done | exact rfl), ?_⟩) | (refine wpx_st hS rfl _ _ _ rfl rfl _ _ rfl ?_; (repeat (first | refine sxh ?_ | refine sxn ?_)); refine ⟨_, (by first | exact shA rfl | exact shI rfl | exact shB rfl | exact shS rfl | exact shP rfl | exact shF rfl | exact shN rfl), _, siz_any2 rfl, (by exact rfl), (by exact rfl), (by exact rfl), ?_⟩; clear hS; intro _ hS; dsimp only [blit, List.set, sx4, sx5, Value.cells, sx6] at hS))
  refine ((unhide HL) _).mono ?_
  rintro r u ⟨rfl, hb⟩
  replace hS := hS.call hb
  clear hb HL
  go_wp2_with (first | (refine wpx_box hS rfl _ _ rfl _ rfl _ (by intro _; simp only [Act.put, sx1, sx2, sx3]; first | done | exact rfl) ?_; clear hS; intro _ _ hS; dsimp only [blit, List.set, sx4, sx5, Value.cells, sx6] at hS) | (refine wpx_alloc hS rfl _ rfl _ (zer_any2 rfl) _ (by intro _; simp only [Act.put, sx1, sx2, sx3]; first | done | exact rfl) ?_; clear hS; intro _ _ hS; dsimp only [blit, List.set, sx4, sx5, Value.cells, sx6] at hS) | (refine wpx_ld hS rfl _ _ rfl _ _ rfl ?_; (repeat (first | refine sxh ?_ | refine sxn ?_)); first | refine .inl ⟨_, one_any2 rfl, rfl, _, (by simp only [Act.put, sx1, sx2, sx3]; first | done | exact rfl), ?_⟩ | refine .inr ⟨_, _, row_any2 rfl, rfl, (by dsimp only [cutL, List.drop, List.take]; first | done | exact rfl), _, (by simp only [Act.put, sx1, sx2, sx3]; first | done | exact rfl), ?_⟩) | (refine wpx_st hS rfl _ _ _ rfl rfl _ _ rfl ?_; (repeat (first | refine sxh ?_ | refine sxn ?_)); refine ⟨_, (by first | exact shA rfl | exact shI rfl | exact shB rfl | exact shS rfl | exact shP rfl | exact shF rfl | exact shN rfl), _, siz_any2 rfl, (by exact rfl), (by exact rfl), (by exact rfl), ?_⟩; clear hS; intro _ hS; dsimp only [blit, List.set, sx4, sx5, Value.cells, sx6] at hS))
  refine (refPack_any g st b i o n t _).mono ?_
  rintro r u ⟨rfl, hb⟩
  replace hS := hS.call hb
  clear hb
  generalize Um.okSt g st n t = okb
  generalize Um.packV g st b i o n t = pv
  go_wp2_with fail
  refine (jAlive_any _).mono ?_
  rintro r u ⟨rfl, hb⟩
  replace hS := hS.call hb
  have hB := hS.bel
  clear hb hS
  go_wp2
  go_ret
  exact ⟨rfl, hB⟩

set_option maxHeartbeats 4000000 in
theorem walk_bad (w : World) (c : Um.Cf) (g st : Int) (b i o : Bool) (n t : Int) (ta tb : Int) (la : Option Addr) (nl cl : Nat) (h : c.r = true) (hk : Um.okSt g st n t = false) :
    Calls Try.prog 6 #[(.agg #[.int .i64 (c.t), .int .i64 (c.s), .int .i64 (c.k), .int .i64 (c.g), .int .u64 (c.q : Int)]), .agg #[.int .i64 g, .int .i64 st, .bool b, .bool i, .bool o, .int .i64 n, .int .i64 t], .agg #[.int .i64 ta, .int .i64 tb, .slice la nl cl]] w fun e w' => e = .returned (.bool true) ∧ Below w.heap.size w w' := by
  have HK := hide hk
  clear hk
  have HR := hide h
  clear h
  have hS := Sx.new w
  go_enter Try.func6, Try.ntmps6
  go_wp2_with (first | (refine wpx_box hS rfl _ _ rfl _ rfl _ (by intro _; simp only [Act.put, sx1, sx2, sx3]; first | done | exact rfl) ?_; clear hS; intro _ _ hS; dsimp only [blit, List.set, sx4, sx5, Value.cells, sx6] at hS) | (refine wpx_alloc hS rfl _ rfl _ (zer_any2 rfl) _ (by intro _; simp only [Act.put, sx1, sx2, sx3]; first | done | exact rfl) ?_; clear hS; intro _ _ hS; dsimp only [blit, List.set, sx4, sx5, Value.cells, sx6] at hS) | (refine wpx_ld hS rfl _ _ rfl _ _ rfl ?_; (repeat (first | refine sxh ?_ | refine sxn ?_)); first | refine .inl ⟨_, one_any2 rfl, rfl, _, (by simp only [Act.put, sx1, sx2, sx3]; first | done | exact rfl), ?_⟩ | refine .inr ⟨_, _, row_any2 rfl, rfl, (by dsimp only [cutL, List.drop, List.take]; first | done | exact rfl), _, (by simp only [Act.put, sx1, sx2, sx3]; first | done | exact rfl), ?_⟩) | (refine wpx_st hS rfl _ _ _ rfl rfl _ _ rfl ?_; (repeat (first | refine sxh ?_ | refine sxn ?_)); refine ⟨_, (by first | exact shA rfl | exact shI rfl | exact shB rfl | exact shS rfl | exact shP rfl | exact shF rfl | exact shN rfl), _, siz_any2 rfl, (by exact rfl), (by exact rfl), (by exact rfl), ?_⟩; clear hS; intro _ hS; dsimp only [blit, List.set, sx4, sx5, Value.cells, sx6] at hS))
  refine (new_x hS c (unhide HR)).mono ?_
  rintro r u ⟨B, C, rfl, hWn, hSn⟩
  clear hS
  have hS := hSn
  clear hSn
  dsimp only [putL, List.set, List.cons_append, List.nil_append] at hS
  have HW0 := hide hWn
  clear hWn
  go_wp2_with (first | (refine wpx_box hS rfl _ _ rfl _ rfl _ (by intro _; simp only [Act.put, sx1, sx2, sx3]; first | done | exact rfl) ?_; clear hS; intro _ _ hS; dsimp only [blit, List.set, sx4, sx5, Value.cells, sx6] at hS) | (refine wpx_alloc hS rfl _ rfl _ (zer_any2 rfl) _ (by intro _; simp only [Act.put, sx1, sx2, sx3]; first | done | exact rfl) ?_; clear hS; intro _ _ hS; dsimp only [blit, List.set, sx4, sx5, Value.cells, sx6] at hS) | (refine wpx_ld hS rfl _ _ rfl _ _ rfl ?_; (repeat (first | refine sxh ?_ | refine sxn ?_)); first | refine .inl ⟨_, one_any2 rfl, rfl, _, (by simp only [Act.put, sx1, sx2, sx3]; first | done | exact rfl), ?_⟩ | refine .inr ⟨_, _, row_any2 rfl, rfl, (by dsimp only [cutL, List.drop, List.take]; first | done | exact rfl), _, (by simp only [Act.put, sx1, sx2, sx3]; first | done | exact rfl), ?_⟩) | (refine wpx_st hS rfl _ _ _ rfl rfl _ _ rfl ?_; (repeat (first | refine sxh ?_ | refine sxn ?_)); refine ⟨_, (by first | exact shA rfl | exact shI rfl | exact shB rfl | exact shS rfl | exact shP rfl | exact shF rfl | exact shN rfl), _, siz_any2 rfl, (by exact rfl), (by exact rfl), (by exact rfl), ?_⟩; clear hS; intro _ hS; dsimp only [blit, List.set, sx4, sx5, Value.cells, sx6] at hS))
  refine (refPack_any g st b i o n t _).mono ?_
  rintro r u ⟨rfl, hb⟩
  replace hS := hS.call hb
  clear hb
  rw [unhide HK]
  generalize Um.packV g st b i o n t = pv
  go_wp2_with fail
  refine (jAlive_any _).mono ?_
  rintro r u ⟨rfl, hb⟩
  replace hS := hS.call hb
  have hB := hS.bel
  clear hb hS
  go_wp2
  go_ret
  exact ⟨rfl, hB⟩

set_option maxHeartbeats 4000000 in
theorem walk_long (w : World) (c : Um.Cf) (g st : Int) (b i o : Bool) (n t : Int) (ta tb : Int) (la : Option Addr) (nl cl : Nat) (h : c.r = true) (hk : Um.okSt g st n t = true) (hb : 100 < nl) :
    Calls Try.prog 6 #[(.agg #[.int .i64 (c.t), .int .i64 (c.s), .int .i64 (c.k), .int .i64 (c.g), .int .u64 (c.q : Int)]), .agg #[.int .i64 g, .int .i64 st, .bool b, .bool i, .bool o, .int .i64 n, .int .i64 t], .agg #[.int .i64 ta, .int .i64 tb, .slice la nl cl]] w fun e w' => e = .returned (.bool true) ∧ Below w.heap.size w w' := by
  have HK := hide hk
  clear hk
  have b1 : (100 : Int) < (nl : Int) := by omega
  have b2 : decide ((100 : Int) < (nl : Int)) = true := decide_eq_true b1
  have HR := hide h
  clear h
  have hS := Sx.new w
  go_enter Try.func6, Try.ntmps6
  go_wp2_with (first | (refine wpx_box hS rfl _ _ rfl _ rfl _ (by intro _; simp only [Act.put, sx1, sx2, sx3]; first | done | exact rfl) ?_; clear hS; intro _ _ hS; dsimp only [blit, List.set, sx4, sx5, Value.cells, sx6] at hS) | (refine wpx_alloc hS rfl _ rfl _ (zer_any2 rfl) _ (by intro _; simp only [Act.put, sx1, sx2, sx3]; first | done | exact rfl) ?_; clear hS; intro _ _ hS; dsimp only [blit, List.set, sx4, sx5, Value.cells, sx6] at hS) | (refine wpx_ld hS rfl _ _ rfl _ _ rfl ?_; (repeat (first | refine sxh ?_ | refine sxn ?_)); first | refine .inl ⟨_, one_any2 rfl, rfl, _, (by simp only [Act.put, sx1, sx2, sx3]; first | done | exact rfl), ?_⟩ | refine .inr ⟨_, _, row_any2 rfl, rfl, (by dsimp only [cutL, List.drop, List.take]; first | done | exact rfl), _, (by simp only [Act.put, sx1, sx2, sx3]; first | done | exact rfl), ?_⟩) | (refine wpx_st hS rfl _ _ _ rfl rfl _ _ rfl ?_; (repeat (first | refine sxh ?_ | refine sxn ?_)); refine ⟨_, (by first | exact shA rfl | exact shI rfl | exact shB rfl | exact shS rfl | exact shP rfl | exact shF rfl | exact shN rfl), _, siz_any2 rfl, (by exact rfl), (by exact rfl), (by exact rfl), ?_⟩; clear hS; intro _ hS; dsimp only [blit, List.set, sx4, sx5, Value.cells, sx6] at hS))
  refine (new_x hS c (unhide HR)).mono ?_
  rintro r u ⟨B, C, rfl, hWn, hSn⟩
  clear hS
  have hS := hSn
  clear hSn
  dsimp only [putL, List.set, List.cons_append, List.nil_append] at hS
  have HW0 := hide hWn
  clear hWn
  go_wp2_with (first | (refine wpx_box hS rfl _ _ rfl _ rfl _ (by intro _; simp only [Act.put, sx1, sx2, sx3]; first | done | exact rfl) ?_; clear hS; intro _ _ hS; dsimp only [blit, List.set, sx4, sx5, Value.cells, sx6] at hS) | (refine wpx_alloc hS rfl _ rfl _ (zer_any2 rfl) _ (by intro _; simp only [Act.put, sx1, sx2, sx3]; first | done | exact rfl) ?_; clear hS; intro _ _ hS; dsimp only [blit, List.set, sx4, sx5, Value.cells, sx6] at hS) | (refine wpx_ld hS rfl _ _ rfl _ _ rfl ?_; (repeat (first | refine sxh ?_ | refine sxn ?_)); first | refine .inl ⟨_, one_any2 rfl, rfl, _, (by simp only [Act.put, sx1, sx2, sx3]; first | done | exact rfl), ?_⟩ | refine .inr ⟨_, _, row_any2 rfl, rfl, (by dsimp only [cutL, List.drop, List.take]; first | done | exact rfl), _, (by simp only [Act.put, sx1, sx2, sx3]; first | done | exact rfl), ?_⟩) | (refine wpx_st hS rfl _ _ _ rfl rfl _ _ rfl ?_; (repeat (first | refine sxh ?_ | refine sxn ?_)); refine ⟨_, (by first | exact shA rfl | exact shI rfl | exact shB rfl | exact shS rfl | exact shP rfl | exact shF rfl | exact shN rfl), _, siz_any2 rfl, (by exact rfl), (by exact rfl), (by exact rfl), ?_⟩; clear hS; intro _ hS; dsimp only [blit, List.set, sx4, sx5, Value.cells, sx6] at hS))
  refine (refPack_any g st b i o n t _).mono ?_
  rintro r u ⟨rfl, hb⟩
  replace hS := hS.call hb
  clear hb
  rw [unhide HK]
  generalize Um.packV g st b i o n t = pv
  have kz := (hS.get 2 rfl).cell 2 _ rfl
  have ks := (hS.get 1 rfl).cell 1 _ rfl
  go_wp2_with fail
  refine (jAlive_any _).mono ?_
  rintro r u ⟨rfl, hb⟩
  replace hS := hS.call hb
  have hB := hS.bel
  clear hb hS
  go_wp2
  go_ret
  exact ⟨rfl, hB⟩

set_option maxHeartbeats 4000000 in
theorem walk_st (w : World) (c : Um.Cf) (g st : Int) (b i o : Bool) (n t : Int) (ta tb : Int) (la : Option Addr) (nl cl : Nat) (h : c.r = true) (hk : Um.okSt g st n t = true) (hb : ¬ 100 < nl) (h3 : ¬ st = 3) (h4 : ¬ st = 4) :
    Calls Try.prog 6 #[(.agg #[.int .i64 (c.t), .int .i64 (c.s), .int .i64 (c.k), .int .i64 (c.g), .int .u64 (c.q : Int)]), .agg #[.int .i64 g, .int .i64 st, .bool b, .bool i, .bool o, .int .i64 n, .int .i64 t], .agg #[.int .i64 ta, .int .i64 tb, .slice la nl cl]] w fun e w' => e = .returned (.bool true) ∧ Below w.heap.size w w' := by
  have HK := hide hk
  clear hk
  have b1 : ¬ (100 : Int) < (nl : Int) := by omega
  have b2 : decide ((100 : Int) < (nl : Int)) = false := decide_eq_false b1
  have e1 : ¬ st = 3 := h3
  have e2 : (st != 3) = true := by simpa using e1
  have e3 : ¬ st = 4 := h4
  have e4 : (st != 4) = true := by simpa using e3
  have HR := hide h
  clear h
  have hS := Sx.new w
  go_enter Try.func6, Try.ntmps6
  go_wp2_with (first | (refine wpx_box hS rfl _ _ rfl _ rfl _ (by intro _; simp only [Act.put, sx1, sx2, sx3]; first | done | exact rfl) ?_; clear hS; intro _ _ hS; dsimp only [blit, List.set, sx4, sx5, Value.cells, sx6] at hS) | (refine wpx_alloc hS rfl _ rfl _ (zer_any2 rfl) _ (by intro _; simp only [Act.put, sx1, sx2, sx3]; first | done | exact rfl) ?_; clear hS; intro _ _ hS; dsimp only [blit, List.set, sx4, sx5, Value.cells, sx6] at hS) | (refine wpx_ld hS rfl _ _ rfl _ _ rfl ?_; (repeat (first | refine sxh ?_ | refine sxn ?_)); first | refine .inl ⟨_, one_any2 rfl, rfl, _, (by simp only [Act.put, sx1, sx2, sx3]; first | done | exact rfl), ?_⟩ | refine .inr ⟨_, _, row_any2 rfl, rfl, (by dsimp only [cutL, List.drop, List.take]; first | done | exact rfl), _, (by simp only [Act.put, sx1, sx2, sx3]; first | done | exact rfl), ?_⟩) | (refine wpx_st hS rfl _ _ _ rfl rfl _ _ rfl ?_; (repeat (first | refine sxh ?_ | refine sxn ?_)); refine ⟨_, (by first | exact shA rfl | exact shI rfl | exact shB rfl | exact shS rfl | exact shP rfl | exact shF rfl | exact shN rfl), _, siz_any2 rfl, (by exact rfl), (by exact rfl), (by exact rfl), ?_⟩; clear hS; intro _ hS; dsimp only [blit, List.set, sx4, sx5, Value.cells, sx6] at hS))
  refine (new_x hS c (unhide HR)).mono ?_
  rintro r u ⟨B, C, rfl, hWn, hSn⟩
  clear hS
  have hS := hSn
  clear hSn
  dsimp only [putL, List.set, List.cons_append, List.nil_append] at hS
  have HW0 := hide hWn
  clear hWn
  go_wp2_with (first | (refine wpx_box hS rfl _ _ rfl _ rfl _ (by intro _; simp only [Act.put, sx1, sx2, sx3]; first | done | exact rfl) ?_; clear hS; intro _ _ hS; dsimp only [blit, List.set, sx4, sx5, Value.cells, sx6] at hS) | (refine wpx_alloc hS rfl _ rfl _ (zer_any2 rfl) _ (by intro _; simp only [Act.put, sx1, sx2, sx3]; first | done | exact rfl) ?_; clear hS; intro _ _ hS; dsimp only [blit, List.set, sx4, sx5, Value.cells, sx6] at hS) | (refine wpx_ld hS rfl _ _ rfl _ _ rfl ?_; (repeat (first | refine sxh ?_ | refine sxn ?_)); first | refine .inl ⟨_, one_any2 rfl, rfl, _, (by simp only [Act.put, sx1, sx2, sx3]; first | done | exact rfl), ?_⟩ | refine .inr ⟨_, _, row_any2 rfl, rfl, (by dsimp only [cutL, List.drop, List.take]; first | done | exact rfl), _, (by simp only [Act.put, sx1, sx2, sx3]; first | done | exact rfl), ?_⟩) | (refine wpx_st hS rfl _ _ _ rfl rfl _ _ rfl ?_; (repeat (first | refine sxh ?_ | refine sxn ?_)); refine ⟨_, (by first | exact shA rfl | exact shI rfl | exact shB rfl | exact shS rfl | exact shP rfl | exact shF rfl | exact shN rfl), _, siz_any2 rfl, (by exact rfl), (by exact rfl), (by exact rfl), ?_⟩; clear hS; intro _ hS; dsimp only [blit, List.set, sx4, sx5, Value.cells, sx6] at hS))
  refine (refPack_any g st b i o n t _).mono ?_
  rintro r u ⟨rfl, hb⟩
  replace hS := hS.call hb
  clear hb
  rw [unhide HK]
  generalize Um.packV g st b i o n t = pv
  have kz := (hS.get 2 rfl).cell 2 _ rfl
  have ks := (hS.get 1 rfl).cell 1 _ rfl
  go_wp2_with fail
  refine (jAlive_any _).mono ?_
  rintro r u ⟨rfl, hb⟩
  replace hS := hS.call hb
  have hB := hS.bel
  clear hb hS
  go_wp2
  go_ret
  exact ⟨rfl, hB⟩

set_option maxHeartbeats 4000000 in
theorem walk_two3 (w : World) (c : Um.Cf) (g st : Int) (b i o : Bool) (n t : Int) (ta tb : Int) (la : Option Addr) (nl cl : Nat) (h : c.r = true) (hk : Um.okSt g st n t = true) (hb : ¬ 100 < nl) (hq : st = 3) (ha : Um.anyN (Um.packV g st b i o n t) 0 = true) (hd : Um.anyN (Um.packV g st b i o n t) 1 = true) :
    Calls Try.prog 6 #[(.agg #[.int .i64 (c.t), .int .i64 (c.s), .int .i64 (c.k), .int .i64 (c.g), .int .u64 (c.q : Int)]), .agg #[.int .i64 g, .int .i64 st, .bool b, .bool i, .bool o, .int .i64 n, .int .i64 t], .agg #[.int .i64 ta, .int .i64 tb, .slice la nl cl]] w fun e w' => e = .returned (.bool true) ∧ Below w.heap.size w w' := by
  subst hq
  have HK := hide hk
  clear hk
  have HVW := hide (show Um.Word (Um.packV g 3 b i o n t) by rw [Um.packV_yes (unhide HK)]; exact Um.pack_word (unhide HK))
  have HY0 := hide ha
  have HY1 := hide hd
  clear ha hd
  have b1 : ¬ (100 : Int) < (nl : Int) := by omega
  have b2 : decide ((100 : Int) < (nl : Int)) = false := decide_eq_false b1
  have HR := hide h
  clear h
  have hS := Sx.new w
  go_enter Try.func6, Try.ntmps6
  go_wp2_with (first | (refine wpx_box hS rfl _ _ rfl _ rfl _ (by intro _; simp only [Act.put, sx1, sx2, sx3]; first | done | exact rfl) ?_; clear hS; intro _ _ hS; dsimp only [blit, List.set, sx4, sx5, Value.cells, sx6] at hS) | (refine wpx_alloc hS rfl _ rfl _ (zer_any2 rfl) _ (by intro _; simp only [Act.put, sx1, sx2, sx3]; first | done | exact rfl) ?_; clear hS; intro _ _ hS; dsimp only [blit, List.set, sx4, sx5, Value.cells, sx6] at hS) | (refine wpx_ld hS rfl _ _ rfl _ _ rfl ?_; (repeat (first | refine sxh ?_ | refine sxn ?_)); first | refine .inl ⟨_, one_any2 rfl, rfl, _, (by simp only [Act.put, sx1, sx2, sx3]; first | done | exact rfl), ?_⟩ | refine .inr ⟨_, _, row_any2 rfl, rfl, (by dsimp only [cutL, List.drop, List.take]; first | done | exact rfl), _, (by simp only [Act.put, sx1, sx2, sx3]; first | done | exact rfl), ?_⟩) | (refine wpx_st hS rfl _ _ _ rfl rfl _ _ rfl ?_; (repeat (first | refine sxh ?_ | refine sxn ?_)); refine ⟨_, (by first | exact shA rfl | exact shI rfl | exact shB rfl | exact shS rfl | exact shP rfl | exact shF rfl | exact shN rfl), _, siz_any2 rfl, (by exact rfl), (by exact rfl), (by exact rfl), ?_⟩; clear hS; intro _ hS; dsimp only [blit, List.set, sx4, sx5, Value.cells, sx6] at hS))
  refine (new_x hS c (unhide HR)).mono ?_
  rintro r u ⟨B, C, rfl, hWn, hSn⟩
  clear hS
  have hS := hSn
  clear hSn
  dsimp only [putL, List.set, List.cons_append, List.nil_append] at hS
  have HW0 := hide hWn
  clear hWn
  go_wp2_with (first | (refine wpx_box hS rfl _ _ rfl _ rfl _ (by intro _; simp only [Act.put, sx1, sx2, sx3]; first | done | exact rfl) ?_; clear hS; intro _ _ hS; dsimp only [blit, List.set, sx4, sx5, Value.cells, sx6] at hS) | (refine wpx_alloc hS rfl _ rfl _ (zer_any2 rfl) _ (by intro _; simp only [Act.put, sx1, sx2, sx3]; first | done | exact rfl) ?_; clear hS; intro _ _ hS; dsimp only [blit, List.set, sx4, sx5, Value.cells, sx6] at hS) | (refine wpx_ld hS rfl _ _ rfl _ _ rfl ?_; (repeat (first | refine sxh ?_ | refine sxn ?_)); first | refine .inl ⟨_, one_any2 rfl, rfl, _, (by simp only [Act.put, sx1, sx2, sx3]; first | done | exact rfl), ?_⟩ | refine .inr ⟨_, _, row_any2 rfl, rfl, (by dsimp only [cutL, List.drop, List.take]; first | done | exact rfl), _, (by simp only [Act.put, sx1, sx2, sx3]; first | done | exact rfl), ?_⟩) | (refine wpx_st hS rfl _ _ _ rfl rfl _ _ rfl ?_; (repeat (first | refine sxh ?_ | refine sxn ?_)); refine ⟨_, (by first | exact shA rfl | exact shI rfl | exact shB rfl | exact shS rfl | exact shP rfl | exact shF rfl | exact shN rfl), _, siz_any2 rfl, (by exact rfl), (by exact rfl), (by exact rfl), ?_⟩; clear hS; intro _ hS; dsimp only [blit, List.set, sx4, sx5, Value.cells, sx6] at hS))
  refine (refPack_any g 3 b i o n t _).mono ?_
  rintro r u ⟨rfl, hb⟩
  replace hS := hS.call hb
  clear hb
  rw [unhide HK]
  have kz := (hS.get 2 rfl).cell 2 _ rfl
  have ks := (hS.get 1 rfl).cell 1 _ rfl
  go_wp2_with fail
  refine (drew_below (refAny_any (Um.packV g 3 b i o n t) 0 _ (unhide HVW))).mono ?_
  rintro r u ⟨rfl, hb⟩
  replace hS := hS.call hb
  clear hb
  rw [unhide HY0]
  go_wp2_with fail
  refine (drew_below (refAny_any (Um.packV g 3 b i o n t) 1 _ (unhide HVW))).mono ?_
  rintro r u ⟨rfl, hb⟩
  replace hS := hS.call hb
  clear hb
  rw [unhide HY1]
  go_wp2_with fail
  refine (jAlive_any _).mono ?_
  rintro r u ⟨rfl, hb⟩
  replace hS := hS.call hb
  have hB := hS.bel
  clear hb hS
  go_wp2
  go_ret
  exact ⟨rfl, hB⟩

set_option maxHeartbeats 4000000 in
theorem walk_two4 (w : World) (c : Um.Cf) (g st : Int) (b i o : Bool) (n t : Int) (ta tb : Int) (la : Option Addr) (nl cl : Nat) (h : c.r = true) (hk : Um.okSt g st n t = true) (hb : ¬ 100 < nl) (hq : st = 4) (ha : Um.anyN (Um.packV g st b i o n t) 0 = true) (hd : Um.anyN (Um.packV g st b i o n t) 1 = true) :
    Calls Try.prog 6 #[(.agg #[.int .i64 (c.t), .int .i64 (c.s), .int .i64 (c.k), .int .i64 (c.g), .int .u64 (c.q : Int)]), .agg #[.int .i64 g, .int .i64 st, .bool b, .bool i, .bool o, .int .i64 n, .int .i64 t], .agg #[.int .i64 ta, .int .i64 tb, .slice la nl cl]] w fun e w' => e = .returned (.bool true) ∧ Below w.heap.size w w' := by
  subst hq
  have HK := hide hk
  clear hk
  have HVW := hide (show Um.Word (Um.packV g 4 b i o n t) by rw [Um.packV_yes (unhide HK)]; exact Um.pack_word (unhide HK))
  have HY0 := hide ha
  have HY1 := hide hd
  clear ha hd
  have b1 : ¬ (100 : Int) < (nl : Int) := by omega
  have b2 : decide ((100 : Int) < (nl : Int)) = false := decide_eq_false b1
  have HR := hide h
  clear h
  have hS := Sx.new w
  go_enter Try.func6, Try.ntmps6
  go_wp2_with (first | (refine wpx_box hS rfl _ _ rfl _ rfl _ (by intro _; simp only [Act.put, sx1, sx2, sx3]; first | done | exact rfl) ?_; clear hS; intro _ _ hS; dsimp only [blit, List.set, sx4, sx5, Value.cells, sx6] at hS) | (refine wpx_alloc hS rfl _ rfl _ (zer_any2 rfl) _ (by intro _; simp only [Act.put, sx1, sx2, sx3]; first | done | exact rfl) ?_; clear hS; intro _ _ hS; dsimp only [blit, List.set, sx4, sx5, Value.cells, sx6] at hS) | (refine wpx_ld hS rfl _ _ rfl _ _ rfl ?_; (repeat (first | refine sxh ?_ | refine sxn ?_)); first | refine .inl ⟨_, one_any2 rfl, rfl, _, (by simp only [Act.put, sx1, sx2, sx3]; first | done | exact rfl), ?_⟩ | refine .inr ⟨_, _, row_any2 rfl, rfl, (by dsimp only [cutL, List.drop, List.take]; first | done | exact rfl), _, (by simp only [Act.put, sx1, sx2, sx3]; first | done | exact rfl), ?_⟩) | (refine wpx_st hS rfl _ _ _ rfl rfl _ _ rfl ?_; (repeat (first | refine sxh ?_ | refine sxn ?_)); refine ⟨_, (by first | exact shA rfl | exact shI rfl | exact shB rfl | exact shS rfl | exact shP rfl | exact shF rfl | exact shN rfl), _, siz_any2 rfl, (by exact rfl), (by exact rfl), (by exact rfl), ?_⟩; clear hS; intro _ hS; dsimp only [blit, List.set, sx4, sx5, Value.cells, sx6] at hS))
  refine (new_x hS c (unhide HR)).mono ?_
  rintro r u ⟨B, C, rfl, hWn, hSn⟩
  clear hS
  have hS := hSn
  clear hSn
  dsimp only [putL, List.set, List.cons_append, List.nil_append] at hS
  have HW0 := hide hWn
  clear hWn
  go_wp2_with (first | (refine wpx_box hS rfl _ _ rfl _ rfl _ (by intro _; simp only [Act.put, sx1, sx2, sx3]; first | done | exact rfl) ?_; clear hS; intro _ _ hS; dsimp only [blit, List.set, sx4, sx5, Value.cells, sx6] at hS) | (refine wpx_alloc hS rfl _ rfl _ (zer_any2 rfl) _ (by intro _; simp only [Act.put, sx1, sx2, sx3]; first | done | exact rfl) ?_; clear hS; intro _ _ hS; dsimp only [blit, List.set, sx4, sx5, Value.cells, sx6] at hS) | (refine wpx_ld hS rfl _ _ rfl _ _ rfl ?_; (repeat (first | refine sxh ?_ | refine sxn ?_)); first | refine .inl ⟨_, one_any2 rfl, rfl, _, (by simp only [Act.put, sx1, sx2, sx3]; first | done | exact rfl), ?_⟩ | refine .inr ⟨_, _, row_any2 rfl, rfl, (by dsimp only [cutL, List.drop, List.take]; first | done | exact rfl), _, (by simp only [Act.put, sx1, sx2, sx3]; first | done | exact rfl), ?_⟩) | (refine wpx_st hS rfl _ _ _ rfl rfl _ _ rfl ?_; (repeat (first | refine sxh ?_ | refine sxn ?_)); refine ⟨_, (by first | exact shA rfl | exact shI rfl | exact shB rfl | exact shS rfl | exact shP rfl | exact shF rfl | exact shN rfl), _, siz_any2 rfl, (by exact rfl), (by exact rfl), (by exact rfl), ?_⟩; clear hS; intro _ hS; dsimp only [blit, List.set, sx4, sx5, Value.cells, sx6] at hS))
  refine (refPack_any g 4 b i o n t _).mono ?_
  rintro r u ⟨rfl, hb⟩
  replace hS := hS.call hb
  clear hb
  rw [unhide HK]
  have kz := (hS.get 2 rfl).cell 2 _ rfl
  have ks := (hS.get 1 rfl).cell 1 _ rfl
  go_wp2_with fail
  refine (drew_below (refAny_any (Um.packV g 4 b i o n t) 0 _ (unhide HVW))).mono ?_
  rintro r u ⟨rfl, hb⟩
  replace hS := hS.call hb
  clear hb
  rw [unhide HY0]
  go_wp2_with fail
  refine (drew_below (refAny_any (Um.packV g 4 b i o n t) 1 _ (unhide HVW))).mono ?_
  rintro r u ⟨rfl, hb⟩
  replace hS := hS.call hb
  clear hb
  rw [unhide HY1]
  go_wp2_with fail
  refine (jAlive_any _).mono ?_
  rintro r u ⟨rfl, hb⟩
  replace hS := hS.call hb
  have hB := hS.bel
  clear hb hS
  go_wp2
  go_ret
  exact ⟨rfl, hB⟩

set_option maxRecDepth 100000 in
set_option maxHeartbeats 16000000 in
theorem walk_right (w : World) (c : Um.Cf) (g st : Int) (b i o : Bool) (n t : Int) (ta tb : Int) (la : Option Addr) (nl cl : Nat) (Z : Nat → Bool) (h : c.r = true) (hk : Um.okSt g st n t = true) (hst : st = 3 ∨ st = 4) (hany : ¬ (Um.anyN (Um.packV g st b i o n t) 0 = true ∧ Um.anyN (Um.packV g st b i o n t) 1 = true)) (hb : ¬ 100 < nl) (hcl : nl ≤ cl) (hZ : RowOf w la nl (fun i => .bool (Z i))) :
    Calls Try.prog 6 #[(.agg #[.int .i64 (c.t), .int .i64 (c.s), .int .i64 (c.k), .int .i64 (c.g), .int .u64 (c.q : Int)]), .agg #[.int .i64 g, .int .i64 st, .bool b, .bool i, .bool o, .int .i64 n, .int .i64 t], .agg #[.int .i64 ta, .int .i64 tb, .slice la nl cl]] w fun e w' => e = .returned (.bool true) ∧ Below w.heap.size w w' := by
  have b1 : ¬ (100 : Int) < (nl : Int) := by omega
  have b2 : decide ((100 : Int) < (nl : Int)) = false := decide_eq_false b1
  have HK := hide hk
  clear hk
  obtain ⟨v, hv⟩ : ∃ v, v = (Um.packV g st b i o n t) := ⟨_, rfl⟩
  have hstv : ((Um.stN v : Nat) : Int) = st := by rw [hv]; exact Um.st_pack (unhide HK)
  have HVW := hide (show Um.Word v by rw [hv, Um.packV_yes (unhide HK)]; exact Um.pack_word (unhide HK))
  have HVE := hide hv
  obtain ⟨a70, a71⟩ := and7 ta
  obtain ⟨b70, b71⟩ := and7 tb
  obtain ⟨a7, ha7⟩ : ∃ a7, bits .and .i64 ta 7 = a7 := ⟨_, rfl⟩
  obtain ⟨b7, hb7⟩ : ∃ b7, bits .and .i64 tb 7 = b7 := ⟨_, rfl⟩
  rw [ha7] at a70 a71
  rw [hb7] at b70 b71
  have HOA := hide (Um.ok0 a70 a71)
  have HOB := hide (Um.ok1 b70 b71)
  have HS1 := hide (Um.slot0 h)
  obtain ⟨m1, hm1⟩ : ∃ m1, m1 = Um.mtouch c (⟨fun _ => 0, 0, Um.noT⟩ : Um.Mm) 2 4 0 0 v := ⟨_, rfl⟩
  have HM1 := hide hm1
  obtain ⟨m2, hm2⟩ : ∃ m2, m2 = Um.mtouch c m1 2 6 0 0 9 := ⟨_, rfl⟩
  have HM2 := hide hm2
  rw [← hv] at hany
  have HB0 := hide (show Um.Bj (m2.ws (c.cl 4 0).toNat) 0 1 a7 b7 (Um.jnew m2) (Um.jnew m2) ∧ Um.past (m2.ws (c.cl 6 0).toNat) 5 = false by
    obtain ⟨s1, s2⟩ := Um.two_start h _ m1 m2 v 9 hm1 hm2
    rw [s1, s2]
    exact ⟨⟨⟨by omega, by omega⟩, by omega, hany, Um.sj_new _ _ _ _, Um.sj_new _ _ _ _⟩, by decide⟩)
  have HNY := hide hany
  clear a70 a71 b70 b71 hstv hm1 hm2 hany hv
  have HZ := hide hZ
  have hnb : nl ≤ 100 := by omega
  have HR := hide h
  clear hZ hb h
  have hS := Sx.new w
  go_enter Try.func6, Try.ntmps6
  go_wp2_with (first | (refine wpx_box hS rfl _ _ rfl _ rfl _ (by intro _; simp only [Act.put, sx1, sx2, sx3]; first | done | exact rfl) ?_; clear hS; intro _ _ hS; dsimp only [blit, List.set, sx4, sx5, Value.cells, sx6] at hS) | (refine wpx_alloc hS rfl _ rfl _ (zer_any2 rfl) _ (by intro _; simp only [Act.put, sx1, sx2, sx3]; first | done | exact rfl) ?_; clear hS; intro _ _ hS; dsimp only [blit, List.set, sx4, sx5, Value.cells, sx6] at hS) | (refine wpx_ld hS rfl _ _ rfl _ _ rfl ?_; (repeat (first | refine sxh ?_ | refine sxn ?_)); first | refine .inl ⟨_, one_any2 rfl, rfl, _, (by simp only [Act.put, sx1, sx2, sx3]; first | done | exact rfl), ?_⟩ | refine .inr ⟨_, _, row_any2 rfl, rfl, (by dsimp only [cutL, List.drop, List.take]; first | done | exact rfl), _, (by simp only [Act.put, sx1, sx2, sx3]; first | done | exact rfl), ?_⟩) | (refine wpx_st hS rfl _ _ _ rfl rfl _ _ rfl ?_; (repeat (first | refine sxh ?_ | refine sxn ?_)); refine ⟨_, (by first | exact shA rfl | exact shI rfl | exact shB rfl | exact shS rfl | exact shP rfl | exact shF rfl | exact shN rfl), _, siz_any2 rfl, (by exact rfl), (by exact rfl), (by exact rfl), ?_⟩; clear hS; intro _ hS; dsimp only [blit, List.set, sx4, sx5, Value.cells, sx6] at hS))
  refine (new_x hS c (unhide HR)).mono ?_
  rintro r u ⟨B, C, rfl, hWn, hSn⟩
  clear hS
  have hS := hSn
  clear hSn
  dsimp only [putL, List.set, List.cons_append, List.nil_append] at hS
  have HW0 := hide hWn
  clear hWn
  go_wp2_with (first | (refine wpx_box hS rfl _ _ rfl _ rfl _ (by intro _; simp only [Act.put, sx1, sx2, sx3]; first | done | exact rfl) ?_; clear hS; intro _ _ hS; dsimp only [blit, List.set, sx4, sx5, Value.cells, sx6] at hS) | (refine wpx_alloc hS rfl _ rfl _ (zer_any2 rfl) _ (by intro _; simp only [Act.put, sx1, sx2, sx3]; first | done | exact rfl) ?_; clear hS; intro _ _ hS; dsimp only [blit, List.set, sx4, sx5, Value.cells, sx6] at hS) | (refine wpx_ld hS rfl _ _ rfl _ _ rfl ?_; (repeat (first | refine sxh ?_ | refine sxn ?_)); first | refine .inl ⟨_, one_any2 rfl, rfl, _, (by simp only [Act.put, sx1, sx2, sx3]; first | done | exact rfl), ?_⟩ | refine .inr ⟨_, _, row_any2 rfl, rfl, (by dsimp only [cutL, List.drop, List.take]; first | done | exact rfl), _, (by simp only [Act.put, sx1, sx2, sx3]; first | done | exact rfl), ?_⟩) | (refine wpx_st hS rfl _ _ _ rfl rfl _ _ rfl ?_; (repeat (first | refine sxh ?_ | refine sxn ?_)); refine ⟨_, (by first | exact shA rfl | exact shI rfl | exact shB rfl | exact shS rfl | exact shP rfl | exact shF rfl | exact shN rfl), _, siz_any2 rfl, (by exact rfl), (by exact rfl), (by exact rfl), ?_⟩; clear hS; intro _ hS; dsimp only [blit, List.set, sx4, sx5, Value.cells, sx6] at hS))
  refine (refPack_any g st b i o n t _).mono ?_
  rintro r u ⟨rfl, hb⟩
  replace hS := hS.call hb
  clear hb
  rw [unhide HK, ← unhide HVE]
  obtain ⟨CF, rfl⟩ := nameB hS 0 rfl
  obtain ⟨SB, rfl⟩ := nameB hS 1 rfl
  obtain ⟨TB, rfl⟩ := nameB hS 2 rfl
  obtain ⟨u6, rfl⟩ := nameW hS
  go_upto_region 3 with (first | (refine wpx_box hS rfl _ _ rfl _ rfl _ (by intro _; simp only [Act.put, sx1, sx2, sx3]; first | done | exact rfl) ?_; clear hS; intro _ _ hS; dsimp only [blit, List.set, sx4, sx5, Value.cells, sx6] at hS) | (refine wpx_alloc hS rfl _ rfl _ (zer_any2 rfl) _ (by intro _; simp only [Act.put, sx1, sx2, sx3]; first | done | exact rfl) ?_; clear hS; intro _ _ hS; dsimp only [blit, List.set, sx4, sx5, Value.cells, sx6] at hS) | (refine wpx_ld hS rfl _ _ rfl _ _ rfl ?_; (repeat (first | refine sxh ?_ | refine sxn ?_)); first | refine .inl ⟨_, one_any2 rfl, rfl, _, (by simp only [Act.put, sx1, sx2, sx3]; first | done | exact rfl), ?_⟩ | refine .inr ⟨_, _, row_any2 rfl, rfl, (by dsimp only [cutL, List.drop, List.take]; first | done | exact rfl), _, (by simp only [Act.put, sx1, sx2, sx3]; first | done | exact rfl), ?_⟩) | (refine wpx_st hS rfl _ _ _ rfl rfl _ _ rfl ?_; (repeat (first | refine sxh ?_ | refine sxn ?_)); refine ⟨_, (by first | exact shA rfl | exact shI rfl | exact shB rfl | exact shS rfl | exact shP rfl | exact shF rfl | exact shN rfl), _, siz_any2 rfl, (by exact rfl), (by exact rfl), (by exact rfl), ?_⟩; clear hS; intro _ hS; dsimp only [blit, List.set, sx4, sx5, Value.cells, sx6] at hS))
  go_cut [63] (fun s63 wx => s63 = .bool false ∧ Sx [] w wx [(CF, [.int .i64 c.t, .int .i64 c.s, .int .i64 c.k, .int .i64 c.g, .int .u64 c.q]), (SB, [.int .i64 g, .int .i64 st, .bool b, .bool i, .bool o, .int .i64 n, .int .i64 t]), (TB, [.int .i64 ta, .int .i64 tb, .slice la nl cl]), (B, memL c C (⟨fun _ => 0, 0, Um.noT⟩ : Um.Mm)), (C, rowW (fun _ => 0) c.n)] [])
  case first =>
    have kz := (hS.get 2 rfl).cell 2 _ rfl
    have ks := (hS.get 1 rfl).cell 1 _ rfl
    have HNE := hide hst
    clear hst
    cases ha : Um.anyN v 0 with
    | false =>
      have HY0 := hide ha
      clear ha
      rcases unhide HNE with rfl | rfl
      · go_wp2_with fail
        refine (drew_below (refAny_any v 0 _ (unhide HVW))).mono ?_
        rintro r u ⟨rfl, hb⟩
        replace hS := hS.call hb
        clear hb
        rw [unhide HY0]
        go_wp2_with fail
        go_meet
        exact ⟨rfl, hS⟩
      · go_wp2_with fail
        refine (drew_below (refAny_any v 0 _ (unhide HVW))).mono ?_
        rintro r u ⟨rfl, hb⟩
        replace hS := hS.call hb
        clear hb
        rw [unhide HY0]
        go_wp2_with fail
        go_meet
        exact ⟨rfl, hS⟩
    | true =>
      have HY0 := hide ha
      have HY1 := hide (show Um.anyN v 1 = false by
        cases hq : Um.anyN v 1 with
        | false => rfl
        | true => exact absurd ⟨ha, hq⟩ (unhide HNY))
      clear ha
      rcases unhide HNE with rfl | rfl
      · go_wp2_with fail
        refine (drew_below (refAny_any v 0 _ (unhide HVW))).mono ?_
        rintro r u ⟨rfl, hb⟩
        replace hS := hS.call hb
        clear hb
        rw [unhide HY0]
        go_wp2_with fail
        refine (drew_below (refAny_any v 1 _ (unhide HVW))).mono ?_
        rintro r u ⟨rfl, hb⟩
        replace hS := hS.call hb
        clear hb
        rw [unhide HY1]
        go_wp2_with fail
        go_meet
        exact ⟨rfl, hS⟩
      · go_wp2_with fail
        refine (drew_below (refAny_any v 0 _ (unhide HVW))).mono ?_
        rintro r u ⟨rfl, hb⟩
        replace hS := hS.call hb
        clear hb
        rw [unhide HY0]
        go_wp2_with fail
        refine (drew_below (refAny_any v 1 _ (unhide HVW))).mono ?_
        rintro r u ⟨rfl, hb⟩
        replace hS := hS.call hb
        clear hb
        rw [unhide HY1]
        go_wp2_with fail
        go_meet
        exact ⟨rfl, hS⟩
  case rest =>
  clear hS
  obtain ⟨rfl, hS⟩ := hcut
  go_wp2_with (first | (refine wpx_box hS rfl _ _ rfl _ rfl _ (by intro _; simp only [Act.put, sx1, sx2, sx3]; first | done | exact rfl) ?_; clear hS; intro _ _ hS; dsimp only [blit, List.set, sx4, sx5, Value.cells, sx6] at hS) | (refine wpx_alloc hS rfl _ rfl _ (zer_any2 rfl) _ (by intro _; simp only [Act.put, sx1, sx2, sx3]; first | done | exact rfl) ?_; clear hS; intro _ _ hS; dsimp only [blit, List.set, sx4, sx5, Value.cells, sx6] at hS) | (refine wpx_ld hS rfl _ _ rfl _ _ rfl ?_; (repeat (first | refine sxh ?_ | refine sxn ?_)); first | refine .inl ⟨_, one_any2 rfl, rfl, _, (by simp only [Act.put, sx1, sx2, sx3]; first | done | exact rfl), ?_⟩ | refine .inr ⟨_, _, row_any2 rfl, rfl, (by dsimp only [cutL, List.drop, List.take]; first | done | exact rfl), _, (by simp only [Act.put, sx1, sx2, sx3]; first | done | exact rfl), ?_⟩) | (refine wpx_st hS rfl _ _ _ rfl rfl _ _ rfl ?_; (repeat (first | refine sxh ?_ | refine sxn ?_)); refine ⟨_, (by first | exact shA rfl | exact shI rfl | exact shB rfl | exact shS rfl | exact shP rfl | exact shF rfl | exact shN rfl), _, siz_any2 rfl, (by exact rfl), (by exact rfl), (by exact rfl), ?_⟩; clear hS; intro _ hS; dsimp only [blit, List.set, sx4, sx5, Value.cells, sx6] at hS))
  refine (of11_any 4 0 _).mono ?_
  rintro r u ⟨rfl, hb⟩
  replace hS := hS.call hb
  clear hb
  go_wp2_with fail
  refine (mStore_x hS 3 4 rfl rfl (by decide) (unhide HR) (unhide HW0) 4 0 v (unhide HVW) (by decide) (by decide) m1 (unhide HM1)).mono ?_
  rintro r u ⟨rfl, hWn, hSn⟩
  clear hS
  have hS := hSn
  clear hSn
  dsimp only [putL, List.set, List.cons_append, List.nil_append] at hS
  have HW1 := hide hWn
  clear hWn
  go_wp2_with fail
  refine (of11_any 6 0 _).mono ?_
  rintro r u ⟨rfl, hb⟩
  replace hS := hS.call hb
  clear hb
  go_wp2_with fail
  refine (mStore_x hS 3 4 rfl rfl (by decide) (unhide HR) (unhide HW1) 6 0 9 (by unfold Um.Word; omega) (by decide) (by decide) m2 (unhide HM2)).mono ?_
  rintro r u ⟨rfl, hWn, hSn⟩
  clear hS
  have hS := hSn
  clear hSn
  dsimp only [putL, List.set, List.cons_append, List.nil_append] at hS
  have HW2 := hide hWn
  clear hWn
  go_upto_region 7 with fail
  go_cut [11, 12] (fun s11 s12 wx => ∃ Pa Pb, s11 = .pointer (some ⟨Pa, 0, none⟩) ∧ s12 = .pointer (some ⟨Pb, 0, none⟩) ∧ Sx [] w wx [(CF, [.int .i64 c.t, .int .i64 c.s, .int .i64 c.k, .int .i64 c.g, .int .u64 c.q]), (SB, [.int .i64 g, .int .i64 st, .bool b, .bool i, .bool o, .int .i64 n, .int .i64 t]), (TB, [.int .i64 ta, .int .i64 tb, .slice la nl cl]), (B, memL c C m2), (C, rowW m2.ws c.n), (Pa, jnL 0 0 a7 5 (Um.jnew m2)), (Pb, jnL 0 1 b7 5 (Um.jnew m2))] [])
  case first =>
    have k0 := fun w' (hq : BlkAt w' TB [.int .i64 ta, .int .i64 tb, .slice la nl cl]) => hq.cell 0 _ rfl
    have k1 := fun w' (hq : BlkAt w' TB [.int .i64 ta, .int .i64 tb, .slice la nl cl]) => hq.cell 1 _ rfl
    have HP := hide (hS.get 2 rfl)
    have HS3 := hide hS
    clear hS
    go_region_held3 (fun w' => BlkAt w' TB [.int .i64 ta, .int .i64 tb, .slice la nl cl]) (first | exact (unhide HP).drew | exact BlkAt.below (by assumption) (by assumption) | assumption) (first | (go_at_call 10; refine (jnew_any (by first | exact hSa | exact (unhide HS3).drew) _ _ _ 5 m2).mono ?_; rintro e u5 ⟨Pa, rfl, hSa⟩; have hPa := hSa.get 2 rfl))
    all_goals
      go_wp2_with fail
      go_meet
      refine ⟨_, _, rfl, rfl, ?_⟩
      refine Sx.perm hSa ?_
      refine .cons _ (.cons _ (.cons _ (.cons _ (.cons _ ?_))))
      first | exact .refl _ | exact .swap _ _ _ | exact .cons _ (.swap _ _ _) | exact .trans (.swap _ _ _) (.cons _ (.swap _ _ _)) | exact .trans (.cons _ (.swap _ _ _)) (.swap _ _ _) | exact .trans (.swap _ _ _) (.trans (.cons _ (.swap _ _ _)) (.swap _ _ _))
  case rest =>
  clear hS
  obtain ⟨Pa, Pb, rfl, rfl, hS⟩ := hcut
  go_wp2_with (first | (refine wpx_box hS rfl _ _ rfl _ rfl _ (by intro _; simp only [Act.put, sx1, sx2, sx3]; first | done | exact rfl) ?_; clear hS; intro _ _ hS; dsimp only [blit, List.set, sx4, sx5, Value.cells, sx6] at hS) | (refine wpx_alloc hS rfl _ rfl _ (zer_any2 rfl) _ (by intro _; simp only [Act.put, sx1, sx2, sx3]; first | done | exact rfl) ?_; clear hS; intro _ _ hS; dsimp only [blit, List.set, sx4, sx5, Value.cells, sx6] at hS) | (refine wpx_ld hS rfl _ _ rfl _ _ rfl ?_; (repeat (first | refine sxh ?_ | refine sxn ?_)); first | refine .inl ⟨_, one_any2 rfl, rfl, _, (by simp only [Act.put, sx1, sx2, sx3]; first | done | exact rfl), ?_⟩ | refine .inr ⟨_, _, row_any2 rfl, rfl, (by dsimp only [cutL, List.drop, List.take]; first | done | exact rfl), _, (by simp only [Act.put, sx1, sx2, sx3]; first | done | exact rfl), ?_⟩) | (refine wpx_st hS rfl _ _ _ rfl rfl _ _ rfl ?_; (repeat (first | refine sxh ?_ | refine sxn ?_)); refine ⟨_, (by first | exact shA rfl | exact shI rfl | exact shB rfl | exact shS rfl | exact shP rfl | exact shF rfl | exact shN rfl), _, siz_any2 rfl, (by exact rfl), (by exact rfl), (by exact rfl), ?_⟩; clear hS; intro _ hS; dsimp only [blit, List.set, sx4, sx5, Value.cells, sx6] at hS))
  clear b1 b2
  go_loopw [89] (fun iv wr => ∃ (j : Nat) (m : Um.Mm) (x y : Um.Js) , j ≤ nl ∧ iv = .int .i64 j ∧ Hid (Um.Bj (m.ws (c.cl 4 0).toNat) 0 1 a7 b7 x y ∧ Um.past (m.ws (c.cl 6 0).toNat) 5 = false) ∧ Hid (WordsOk c m) ∧ Hid (Um.JokW c x) ∧ Hid (Um.JokW c y) ∧ Hid (Sx [] w wr [(CF, [.int .i64 c.t, .int .i64 c.s, .int .i64 c.k, .int .i64 c.g, .int .u64 c.q]), (SB, [.int .i64 g, .int .i64 st, .bool b, .bool i, .bool o, .int .i64 n, .int .i64 t]), (TB, [.int .i64 ta, .int .i64 tb, .slice la nl cl]), (B, memL c C m), (C, rowW m.ws c.n), (Pa, jnL 0 0 a7 5 x), (Pb, jnL 0 1 b7 5 y)] [])) (fun iv _ => nl - (intOf iv).toNat)
  case atStart => exact ⟨0, m2, Um.jnew m2, Um.jnew m2, Nat.zero_le _, rfl, HB0, hide (unhide HW2), hide (Um.jnew_ok (unhide HW2)).okw, hide (Um.jnew_ok (unhide HW2)).okw, hide hS⟩
  case round =>
    clear hS HW0 HW1 HW2 HB0
    rename_i wr
    obtain ⟨j, m, x, y, hj, rfl, HD, HW, HOX, HOY, HS⟩ := hrel
    have hS := unhide HS
    clear HS
    by_cases hlt : j < nl
    · have hlti : (j : Int) < (nl : Int) := by omega
      obtain ⟨lb, lo, hla, hlb, hlc⟩ := (unhide HZ).resolve_left (by omega)
      have q9 : wr.cell? ⟨lb, lo + j, none⟩ = some (.bool (Z j)) := (hS.bel.cell (p := ⟨lb, lo + j, none⟩) hlb).trans (hlc j hlt)
      subst hla
      clear hlc
      cases hz : Z j with
      | true =>
        rw [hz] at q9
        obtain ⟨X, hX⟩ : ∃ X, X = Um.jstep c 0 0 a7 5 (Um.setJ m x) := ⟨_, rfl⟩
        have HD2 := hide (show Um.Bj (X.m.ws (c.cl 4 0).toNat) 0 1 a7 b7 X y ∧ Um.past (X.m.ws (c.cl 6 0).toNat) 5 = false by
          obtain ⟨d1, d2⟩ := unhide HD
          obtain ⟨e1, e2⟩ := Um.bj_step (x := Um.setJ m x) (unhide HR) (Int.le_refl 0) (unhide HS1) (unhide HOA) d2 (d1.at m)
          rw [← hX] at e1 e2
          exact ⟨e1, by rw [e2]; exact d2⟩)
        have HHX := hide hX
        clear hX hz
        go_wp2_with fail
        refine (jStep_any (sl := 0) (sd := 0) (b := a7) (sn := 5) hS 3 4 5 (Um.setJ m x) X (unhide HHX) rfl rfl rfl (by decide) (by decide) (by decide) (unhide HR) ((unhide HOX) m (unhide HW)) (by decide) (by decide) (by decide) (by decide)).mono ?_
        rintro r u ⟨rfl, hOn, hSn⟩
        clear hS
        have hS := hSn
        clear hSn
        dsimp only [putL, List.set, List.cons_append, List.nil_append] at hS
        have HOkX := hide hOn.okw
        have HWkX := hide hOn.wd
        clear hOn
        have HS6 := hide hS
        clear hS q9
        go_wp2
        exact ⟨⟨j + 1, X.m, X, y, by omega, by go_num, HD2, HWkX, HOkX, HOY, HS6⟩, by simp [intOf]; omega⟩
      | false =>
        rw [hz] at q9
        obtain ⟨Y, hY⟩ : ∃ Y, Y = Um.jstep c 0 1 b7 5 (Um.setJ m y) := ⟨_, rfl⟩
        have HD2 := hide (show Um.Bj (Y.m.ws (c.cl 4 0).toNat) 0 1 a7 b7 x Y ∧ Um.past (Y.m.ws (c.cl 6 0).toNat) 5 = false by
          obtain ⟨d1, d2⟩ := unhide HD
          obtain ⟨e1, e2⟩ := Um.bj_step (x := Um.setJ m y) (unhide HR) (Int.le_refl 0) (unhide HS1) (unhide HOB) d2 (d1.swap.at m)
          rw [← hY] at e1 e2
          exact ⟨e1.swap, by rw [e2]; exact d2⟩)
        have HHY := hide hY
        clear hY hz
        go_wp2_with fail
        refine (jStep_any (sl := 0) (sd := 1) (b := b7) (sn := 5) hS 3 4 6 (Um.setJ m y) Y (unhide HHY) rfl rfl rfl (by decide) (by decide) (by decide) (unhide HR) ((unhide HOY) m (unhide HW)) (by decide) (by decide) (by decide) (by decide)).mono ?_
        rintro r u ⟨rfl, hOn, hSn⟩
        clear hS
        have hS := hSn
        clear hSn
        dsimp only [putL, List.set, List.cons_append, List.nil_append] at hS
        have HOkY := hide hOn.okw
        have HWkY := hide hOn.wd
        clear hOn
        have HS6 := hide hS
        clear hS q9
        go_wp2
        exact ⟨⟨j + 1, Y.m, x, Y, by omega, by go_num, HD2, HWkY, HOX, HOkY, HS6⟩, by simp [intOf]; omega⟩
    · have hge : ¬ (j : Int) < (nl : Int) := by omega
      obtain ⟨d1, d2⟩ := unhide HD
      obtain ⟨A, hA⟩ : ∃ A, A = Um.jit c 0 0 a7 5 (Um.setJ m x) 50 := ⟨_, rfl⟩
      obtain ⟨E, hE⟩ : ∃ E, E = Um.jit c 0 1 b7 5 (Um.setJ A.m y) 50 := ⟨_, rfl⟩
      obtain ⟨m6, hm6⟩ : ∃ m6, m6 = Um.mtouch c E.m 1 4 0 0 0 := ⟨_, rfl⟩
      obtain ⟨e1, e2, e3⟩ := Um.bj_ends (x := Um.setJ m x) (unhide HR) (Int.le_refl 0) (unhide HS1) (unhide HOA) d2 (d1.at m) (by decide) A hA
      obtain ⟨f1, f2, f3⟩ := Um.bj_ends (x := Um.setJ A.m y) (unhide HR) (Int.le_refl 0) (unhide HS1) (unhide HOB) (by show Um.past (A.m.ws _) 5 = false; rw [e2]; exact d2) (e1.swap.at A.m) (by decide) E hE
      have hT := Um.bj_two f1.swap e3 f3
      obtain ⟨W, hW⟩ : ∃ W, W = m6.l.old := ⟨_, rfl⟩
      have hW2 : W = E.m.ws (c.cl 4 0).toNat := by
        rw [hW, hm6, Um.load_old, if_pos (Um.slot_cells (unhide HR) (Int.le_refl 0) (unhide HS1)).1]
      rw [← hW2] at hT
      have HLO := hide hW.symm
      have HT := hide hT
      have HHA := hide hA
      have HHE := hide hE
      have HM6 := hide hm6
      clear d1 d2 e1 e2 e3 f1 f2 f3 hT hW hW2 hA hE hm6
      go_wp2_with fail
      refine (ends_x (sl := 0) (sd := 0) (b := a7) (sn := 5) hS 3 4 5 (Um.setJ m x) rfl rfl rfl (by decide) (by decide) (by decide) (unhide HR) ((unhide HOX) m (unhide HW)) (by decide) (by decide) (by decide) (by decide) 50 (by decide) A (unhide HHA)).mono ?_
      rintro r u ⟨N5, rfl, _, _, _, hOn, hSn⟩
      clear hS
      have hS := hSn
      clear hSn
      dsimp only [putL, List.set, List.cons_append, List.nil_append] at hS
      have HO1 := hide hOn
      clear hOn
      go_wp2_with fail
      refine (ends_x (sl := 0) (sd := 1) (b := b7) (sn := 5) hS 3 4 6 (Um.setJ A.m y) rfl rfl rfl (by decide) (by decide) (by decide) (unhide HR) ((unhide HOY) A.m (unhide HO1).wd) (by decide) (by decide) (by decide) (by decide) 50 (by decide) E (unhide HHE)).mono ?_
      rintro r u ⟨N6, rfl, _, _, _, hOn, hSn⟩
      clear hS
      have hS := hSn
      clear hSn
      dsimp only [putL, List.set, List.cons_append, List.nil_append] at hS
      have HO2 := hide hOn
      clear hOn
      go_wp2_with fail
      refine (of11_any 4 0 _).mono ?_
      rintro r u ⟨rfl, hb⟩
      replace hS := hS.call hb
      clear hb
      go_wp2_with fail
      refine (mLoad_x hS 3 4 rfl rfl (by decide) (unhide HR) (unhide HO2).wd 4 0 (by decide) (by decide) m6 (unhide HM6)).mono ?_
      rintro r u ⟨rfl, hWn, hSn⟩
      clear hS
      have hS := hSn
      clear hSn
      dsimp only [putL, List.set, List.cons_append, List.nil_append] at hS
      have HWV := hide (show Um.Word m6.l.old by rw [unhide HM6]; exact Um.old_word (unhide HO2).wd)
      clear hWn
      rw [unhide HLO] at HWV ⊢
      go_wp2_with fail
      rcases unhide HT with ⟨r1, r2, p0, p1, n0, n1⟩ | ⟨r1, r2, p0, p1, n0, n1⟩
      · have HXR := hide (show ((A.r : Nat) : Int) = 2 by rw [r1]; rfl)
        have HYR := hide (show ((E.r : Nat) : Int) = 3 by rw [r2]; rfl)
        have HP0 := hide p0
        have HP1 := hide p1
        have HN0 := hide n0
        have HN1 := hide n1
        clear r1 r2 p0 p1 n0 n1
        rw [unhide HXR, unhide HYR]
        refine (drew_below (refAny_any W 0 _ (unhide HWV))).mono ?_
        rintro r u ⟨rfl, hb⟩
        replace hS := hS.call hb
        clear hb
        rw [unhide HN0]
        go_wp2_with fail
        refine (drew_below (refAny_any W 1 _ (unhide HWV))).mono ?_
        rintro r u ⟨rfl, hb⟩
        replace hS := hS.call hb
        clear hb
        rw [unhide HN1]
        go_wp2_with fail
        refine (jAlive_any _).mono ?_
        rintro r u ⟨rfl, hb⟩
        replace hS := hS.call hb
        clear hb
        go_wp2_with (first | (refine wpx_box hS rfl _ _ rfl _ rfl _ (by intro _; simp only [Act.put, sx1, sx2, sx3]; first | done | exact rfl) ?_; clear hS; intro _ _ hS; dsimp only [blit, List.set, sx4, sx5, Value.cells, sx6] at hS) | (refine wpx_alloc hS rfl _ rfl _ (zer_any2 rfl) _ (by intro _; simp only [Act.put, sx1, sx2, sx3]; first | done | exact rfl) ?_; clear hS; intro _ _ hS; dsimp only [blit, List.set, sx4, sx5, Value.cells, sx6] at hS) | (refine wpx_ld hS rfl _ _ rfl _ _ rfl ?_; (repeat (first | refine sxh ?_ | refine sxn ?_)); first | refine .inl ⟨_, one_any2 rfl, rfl, _, (by simp only [Act.put, sx1, sx2, sx3]; first | done | exact rfl), ?_⟩ | refine .inr ⟨_, _, row_any2 rfl, rfl, (by dsimp only [cutL, List.drop, List.take]; first | done | exact rfl), _, (by simp only [Act.put, sx1, sx2, sx3]; first | done | exact rfl), ?_⟩) | (refine wpx_st hS rfl _ _ _ rfl rfl _ _ rfl ?_; (repeat (first | refine sxh ?_ | refine sxn ?_)); refine ⟨_, (by first | exact shA rfl | exact shI rfl | exact shB rfl | exact shS rfl | exact shP rfl | exact shF rfl | exact shN rfl), _, siz_any2 rfl, (by exact rfl), (by exact rfl), (by exact rfl), ?_⟩; clear hS; intro _ hS; dsimp only [blit, List.set, sx4, sx5, Value.cells, sx6] at hS))
        refine (refHas_any W 0 a7 _ (unhide HWV)).mono ?_
        rintro r u ⟨rfl, rfl⟩
        rw [unhide HP0]
        go_wp2_with (first | (refine wpx_box hS rfl _ _ rfl _ rfl _ (by intro _; simp only [Act.put, sx1, sx2, sx3]; first | done | exact rfl) ?_; clear hS; intro _ _ hS; dsimp only [blit, List.set, sx4, sx5, Value.cells, sx6] at hS) | (refine wpx_alloc hS rfl _ rfl _ (zer_any2 rfl) _ (by intro _; simp only [Act.put, sx1, sx2, sx3]; first | done | exact rfl) ?_; clear hS; intro _ _ hS; dsimp only [blit, List.set, sx4, sx5, Value.cells, sx6] at hS) | (refine wpx_ld hS rfl _ _ rfl _ _ rfl ?_; (repeat (first | refine sxh ?_ | refine sxn ?_)); first | refine .inl ⟨_, one_any2 rfl, rfl, _, (by simp only [Act.put, sx1, sx2, sx3]; first | done | exact rfl), ?_⟩ | refine .inr ⟨_, _, row_any2 rfl, rfl, (by dsimp only [cutL, List.drop, List.take]; first | done | exact rfl), _, (by simp only [Act.put, sx1, sx2, sx3]; first | done | exact rfl), ?_⟩) | (refine wpx_st hS rfl _ _ _ rfl rfl _ _ rfl ?_; (repeat (first | refine sxh ?_ | refine sxn ?_)); refine ⟨_, (by first | exact shA rfl | exact shI rfl | exact shB rfl | exact shS rfl | exact shP rfl | exact shF rfl | exact shN rfl), _, siz_any2 rfl, (by exact rfl), (by exact rfl), (by exact rfl), ?_⟩; clear hS; intro _ hS; dsimp only [blit, List.set, sx4, sx5, Value.cells, sx6] at hS))
        refine (refHas_any W 1 b7 _ (unhide HWV)).mono ?_
        rintro r u ⟨rfl, rfl⟩
        rw [unhide HP1]
        have hB := hS.bel
        clear hS
        go_wp2
        go_ret
        exact ⟨rfl, hB⟩
      · have HXR := hide (show ((A.r : Nat) : Int) = 3 by rw [r1]; rfl)
        have HYR := hide (show ((E.r : Nat) : Int) = 2 by rw [r2]; rfl)
        have HP0 := hide p0
        have HP1 := hide p1
        have HN0 := hide n0
        have HN1 := hide n1
        clear r1 r2 p0 p1 n0 n1
        rw [unhide HXR, unhide HYR]
        refine (drew_below (refAny_any W 0 _ (unhide HWV))).mono ?_
        rintro r u ⟨rfl, hb⟩
        replace hS := hS.call hb
        clear hb
        rw [unhide HN0]
        go_wp2_with fail
        refine (jAlive_any _).mono ?_
        rintro r u ⟨rfl, hb⟩
        replace hS := hS.call hb
        clear hb
        go_wp2_with (first | (refine wpx_box hS rfl _ _ rfl _ rfl _ (by intro _; simp only [Act.put, sx1, sx2, sx3]; first | done | exact rfl) ?_; clear hS; intro _ _ hS; dsimp only [blit, List.set, sx4, sx5, Value.cells, sx6] at hS) | (refine wpx_alloc hS rfl _ rfl _ (zer_any2 rfl) _ (by intro _; simp only [Act.put, sx1, sx2, sx3]; first | done | exact rfl) ?_; clear hS; intro _ _ hS; dsimp only [blit, List.set, sx4, sx5, Value.cells, sx6] at hS) | (refine wpx_ld hS rfl _ _ rfl _ _ rfl ?_; (repeat (first | refine sxh ?_ | refine sxn ?_)); first | refine .inl ⟨_, one_any2 rfl, rfl, _, (by simp only [Act.put, sx1, sx2, sx3]; first | done | exact rfl), ?_⟩ | refine .inr ⟨_, _, row_any2 rfl, rfl, (by dsimp only [cutL, List.drop, List.take]; first | done | exact rfl), _, (by simp only [Act.put, sx1, sx2, sx3]; first | done | exact rfl), ?_⟩) | (refine wpx_st hS rfl _ _ _ rfl rfl _ _ rfl ?_; (repeat (first | refine sxh ?_ | refine sxn ?_)); refine ⟨_, (by first | exact shA rfl | exact shI rfl | exact shB rfl | exact shS rfl | exact shP rfl | exact shF rfl | exact shN rfl), _, siz_any2 rfl, (by exact rfl), (by exact rfl), (by exact rfl), ?_⟩; clear hS; intro _ hS; dsimp only [blit, List.set, sx4, sx5, Value.cells, sx6] at hS))
        refine (refHas_any W 0 a7 _ (unhide HWV)).mono ?_
        rintro r u ⟨rfl, rfl⟩
        rw [unhide HP0]
        go_wp2_with (first | (refine wpx_box hS rfl _ _ rfl _ rfl _ (by intro _; simp only [Act.put, sx1, sx2, sx3]; first | done | exact rfl) ?_; clear hS; intro _ _ hS; dsimp only [blit, List.set, sx4, sx5, Value.cells, sx6] at hS) | (refine wpx_alloc hS rfl _ rfl _ (zer_any2 rfl) _ (by intro _; simp only [Act.put, sx1, sx2, sx3]; first | done | exact rfl) ?_; clear hS; intro _ _ hS; dsimp only [blit, List.set, sx4, sx5, Value.cells, sx6] at hS) | (refine wpx_ld hS rfl _ _ rfl _ _ rfl ?_; (repeat (first | refine sxh ?_ | refine sxn ?_)); first | refine .inl ⟨_, one_any2 rfl, rfl, _, (by simp only [Act.put, sx1, sx2, sx3]; first | done | exact rfl), ?_⟩ | refine .inr ⟨_, _, row_any2 rfl, rfl, (by dsimp only [cutL, List.drop, List.take]; first | done | exact rfl), _, (by simp only [Act.put, sx1, sx2, sx3]; first | done | exact rfl), ?_⟩) | (refine wpx_st hS rfl _ _ _ rfl rfl _ _ rfl ?_; (repeat (first | refine sxh ?_ | refine sxn ?_)); refine ⟨_, (by first | exact shA rfl | exact shI rfl | exact shB rfl | exact shS rfl | exact shP rfl | exact shF rfl | exact shN rfl), _, siz_any2 rfl, (by exact rfl), (by exact rfl), (by exact rfl), ?_⟩; clear hS; intro _ hS; dsimp only [blit, List.set, sx4, sx5, Value.cells, sx6] at hS))
        refine (refHas_any W 1 b7 _ (unhide HWV)).mono ?_
        rintro r u ⟨rfl, rfl⟩
        rw [unhide HP1]
        have hB := hS.bel
        clear hS
        go_wp2
        go_ret
        exact ⟨rfl, hB⟩

theorem walk {H : Type} {enc : TypeId × Value → H} {base : Nat} {v0 v1 v2 : Value} {d0 d1 d2 : DataW H} {p0 p1 p2 : List MemPlace} (w : World)
    (hv0 : Value.okWide Try.prog w .any base 24 v0) (h0 : DataW.Trod enc Try.prog w 0 (fun _ => true) true 24 v0 d0 p0)
    (hv1 : Value.okWide Try.prog w .any base 68 v1) (h1 : DataW.Trod enc Try.prog w 0 (fun _ => true) true 68 v1 d1 p1)
    (hv2 : Value.okWide Try.prog w .any base 71 v2) (h2 : DataW.Trod enc Try.prog w 0 (fun _ => true) true 71 v2 d2 p2) :
    Calls Try.prog 6 #[v0, v1, v2] w fun e w' => e = .returned (.bool true) ∧ Below w.heap.size w w' := by
  obtain ⟨ct, s, k, g0, q, rfl, hsb⟩ := open_cfg hv0 h0
  obtain ⟨g, st, b, i, o, n, t, rfl⟩ := open_status11 hv1 h1
  obtain ⟨ta, tb, la, nl, cl, Z, rfl, _, _, hnc, hZ⟩ := open_turns11 hv2 h2
  cases hr : (⟨ct, s, k, g0, q⟩ : Um.Cf).r with
  | false => exact walk_wrong w ⟨ct, s, k, g0, q⟩ g st b i o n t ta tb la nl cl hr
  | true =>
    cases hk : Um.okSt g st n t with
    | false => exact walk_bad w ⟨ct, s, k, g0, q⟩ g st b i o n t ta tb la nl cl hr hk
    | true =>
      by_cases hb : 100 < nl
      · exact walk_long w ⟨ct, s, k, g0, q⟩ g st b i o n t ta tb la nl cl hr hk hb
      by_cases h34 : st = 3 ∨ st = 4
      · by_cases hany : Um.anyN (Um.packV g st b i o n t) 0 = true ∧ Um.anyN (Um.packV g st b i o n t) 1 = true
        · rcases h34 with e | e
          · exact walk_two3 w ⟨ct, s, k, g0, q⟩ g st b i o n t ta tb la nl cl hr hk hb e hany.1 hany.2
          · exact walk_two4 w ⟨ct, s, k, g0, q⟩ g st b i o n t ta tb la nl cl hr hk hb e hany.1 hany.2
        · exact walk_right w ⟨ct, s, k, g0, q⟩ g st b i o n t ta tb la nl cl Z hr hk h34 hany hb hnc hZ
      · exact walk_st w ⟨ct, s, k, g0, q⟩ g st b i o n t ta tb la nl cl hr hk hb (fun e => h34 (.inl e)) (fun e => h34 (.inr e))

set_option maxRecDepth 100000 in
theorem lifted (os : Os) (started : os.Started) (H : Type) (enc : TypeId × Value → H) :
    ReturnsInHanded {} Try.checked os 6 .any (Rows.joinBothSpec.pre6 enc Try.prog Try.f6 Rows.joinBothRow.domain false) (Rows.joinBothSpec.post enc Try.prog Try.f6 false true false false) := by
  refine returnsInHanded_of_change (C := Try.checked) own started (by kernel_rfl) Try.func6
    (ChangeSpec.witness6 (enc := enc) (C := Try.checked) false ⟨#[], #[.agg #[.int .i64 0, .int .i64 0, .int .i64 0, .int .i64 0, .int .u64 0], .agg #[.int .i64 0, .int .i64 0, .bool false, .bool false, .bool false, .int .i64 0, .int .i64 0], .agg #[.int .i64 0, .int .i64 0, .slice none 0 0]], []⟩ 8 (by kernel_rfl) (by kernel_rfl) (by kernel_rfl) (by kernel_rfl)) ?_
  intro W base args ds gs before hval0 hW hcnd _
  have hval : ∀ (j : Nat) t v, Try.f6.params[j]? = some t → args[j]? = some v → Value.okWide Try.prog W .any base t v := hval0
  have hW' := hW
  obtain ⟨p, q, hA0, hV, rfl, hfz, hnd⟩ := hW
  have hA : DataW.TrodAll enc Try.prog W 0 (fun _ => true) true Try.f6.params.toList args.toList ds p := hA0
  rw [Try.params6] at hA hval
  obtain ⟨v0, vs0, d0, ds0, p0, q0, hargs, rfl, rfl, h0, r0⟩ := trodAll_cons hA
  obtain ⟨v1, vs1, d1, ds1, p1, q1, rfl, rfl, rfl, h1, r1⟩ := trodAll_cons r0
  obtain ⟨v2, vs2, d2, ds2, p2, q2, rfl, rfl, rfl, h2, r2⟩ := trodAll_cons r1
  obtain ⟨rfl, rfl, rfl⟩ := trodAll_nil r2
  obtain rfl : args = #[v0, v1, v2] := by cases args; simp_all
  obtain ⟨rfl, rfl⟩ := trodVars_none hV
  have k0 := h0
  have lt0 : ∀ x ∈ p0, x.block < W.heap.size := by obtain ⟨m, hm⟩ := k0; exact DataW.trod_lt m _ _ _ hm
  have k1 := h1
  have lt1 : ∀ x ∈ p1, x.block < W.heap.size := by obtain ⟨m, hm⟩ := k1; exact DataW.trod_lt m _ _ _ hm
  have k2 := h2
  have lt2 : ∀ x ∈ p2, x.block < W.heap.size := by obtain ⟨m, hm⟩ := k2; exact DataW.trod_lt m _ _ _ hm
  refine (walk W (hval 0 24 v0 rfl rfl) h0 (hval 1 68 v1 rfl rfl) h1 (hval 2 71 v2 rfl rfl) h2).mono fun e W' ⟨he, bel⟩ => ?_
  subst he
  exact ⟨_, rfl, _, _, _, [], _, [], hW', trodAll_mk1 (shut_bool Try.underlying4 _), (trodAll_cons_mk (Below.trod laidOut (by kernel_rfl) (of_decide_eq_true (by kernel_rfl)) k0 bel lt0) (trodAll_cons_mk (Below.trod laidOut (by kernel_rfl) (of_decide_eq_true (by kernel_rfl)) k1 bel lt1) (trodAll_cons_mk (Below.trod laidOut (by kernel_rfl) (of_decide_eq_true (by kernel_rfl)) k2 bel lt2) trodAll_mk0))), rfl, bel.frame _, fun h => by cases h⟩

theorem JoinBoth_proved : Rows.JoinBothSaid :=
  OpenClaim.holds_of_wide 6 Try.f6 rfl rfl rfl rfl rfl rfl rfl ⟨rfl, rfl, rfl, rfl, rfl⟩ rfl rfl rfl rfl rfl (by kernel_rfl) Try.func6 (by kernel_rfl)
    (of_decide_eq_true (by kernel_rfl)) (by unfold Func.isWrapper; first | (rw [if_pos (by decide +kernel)]; kernel_rfl) | (rw [if_neg (by decide +kernel)]; exact ⟨rfl, rfl⟩))
    (fun os started H enc _ => lifted os started H enc)

end Go.Proofs.Ytcpmclidndmgeaa.joinBoth
