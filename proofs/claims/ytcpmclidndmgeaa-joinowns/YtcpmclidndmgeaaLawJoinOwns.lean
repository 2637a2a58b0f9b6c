/-
  For every world's size, words, play, and whatever is written meanwhile, the law JoinOwns answers true: each step of laying one's own end is the access that the document's own answer says. Conditions: none.
-/
import Derived.Test.YtcpmclidndmgeaaRows
import Derived.Test.YtcpmclidndmgeaaM11
import Derived.Test.YtcpmclidndmgeaaM15
import Derived.Test.YtcpmclidndmgeaaM5
import Derived.WalkKit
import Derived.ProofKit
import Derived.OpenShut
import Derived.ShutString
import Derived.LoopTactic
import Derived.Lib.QuietBelow
namespace Go.Proofs.Ytcpmclidndmgeaa.joinOwns
set_option maxRecDepth 100000
open Go.ChangeShapes Go.WideShapes Go.ChangeAt Go.RowKit Go.Sort
set_option linter.unusedVariables false
set_option linter.unusedSimpArgs false

theorem own : ownKnob Try.prog.godebug = none := by kernel_rfl
theorem laidOut : laidOutB Try.prog = true := by kernel_rfl

set_option maxHeartbeats 2000000 in
theorem walk_wrong (w : World) (c : Um.Cf) (a : Option Addr) (n cap : Nat) (sl sd b : Int) (sn : Nat) (st : Int) (la : Option Addr) (nl cl : Nat) (h : c.r = false) :
    Calls Try.prog 4 #[(.agg #[.int .i64 (c.t), .int .i64 (c.s), .int .i64 (c.k), .int .i64 (c.g), .int .u64 (c.q : Int)]), .slice a n cap, .agg #[.int .i64 sl, .int .i64 sd, .int .i64 b, .int .u64 (sn : Nat), .int .i64 st, .slice la nl cl]] w fun e w' => e = .returned (.bool true) ∧ Below w.heap.size w w' := by
  have HL := hide (fun w => lOf_wrong c a n cap w h)
  clear h
  have hS := Sx.new w
  go_enter Try.func4, Try.ntmps4
  go_wp2_with (first | (refine wpx_box hS rfl _ _ rfl _ rfl _ (by intro _; simp only [Act.put, sx1, sx2, sx3]; first | done | exact rfl) ?_; clear hS; intro _ _ hS; dsimp only [blit, List.set, sx4, sx5, Value.cells, sx6] at hS) | (refine wpx_alloc hS rfl _ rfl _ (zer_any2 rfl) _ (by intro _; simp only [Act.put, sx1, sx2, sx3]; first | done | exact rfl) ?_; clear hS; intro _ _ hS; dsimp only [blit, List.set, sx4, sx5, Value.cells, sx6] at hS) | (refine wpx_ld hS rfl _ _ rfl _ _ rfl ?_; (repeat (first | refine sxh ?_ | refine sxn ?_)); first | refine .inl ⟨_, one_any2 rfl, rfl, _, (by simp only [Act.put, sx1, sx2, sx3]; first | done | exact rfl), ?_⟩ | refine .inr ⟨_, _, row_any2 rfl, rfl, (by dsimp only [cutL, List.drop, List.take]; first | done | exact rfl), _, (by simp only [Act.put, sx1, sx2, sx3]; first | done | exact rfl), ?_⟩) | (refine wpx_st hS rfl _ _ _ rfl rfl _ _ rfl ?_; (repeat (first | refine sxh ?_ | refine sxn ?_)); refine ⟨_, (by first | exact shA rfl | exact shI rfl | exact shB rfl | exact shS rfl | exact shP rfl | exact shF rfl | exact shN rfl), _, siz_any2 rfl, (by exact rfl), (by exact rfl), (by exact rfl), ?_⟩; clear hS; intro _ hS; dsimp only [blit, List.set, sx4, sx5, Value.cells, sx6] at hS))
  refine ((unhide HL) _).mono ?_
  rintro r u ⟨rfl, hb⟩
  replace hS := hS.call hb
  clear hb HL
  go_wp2_with (first | (refine wpx_box hS rfl _ _ rfl _ rfl _ (by intro _; simp only [Act.put, sx1, sx2, sx3]; first | done | exact rfl) ?_; clear hS; intro _ _ hS; dsimp only [blit, List.set, sx4, sx5, Value.cells, sx6] at hS) | (refine wpx_alloc hS rfl _ rfl _ (zer_any2 rfl) _ (by intro _; simp only [Act.put, sx1, sx2, sx3]; first | done | exact rfl) ?_; clear hS; intro _ _ hS; dsimp only [blit, List.set, sx4, sx5, Value.cells, sx6] at hS) | (refine wpx_ld hS rfl _ _ rfl _ _ rfl ?_; (repeat (first | refine sxh ?_ | refine sxn ?_)); first | refine .inl ⟨_, one_any2 rfl, rfl, _, (by simp only [Act.put, sx1, sx2, sx3]; first | done | exact rfl), ?_⟩ | refine .inr ⟨_, _, row_any2 rfl, rfl, (by dsimp only [cutL, List.drop, List.take]; first | done | exact rfl), _, (by simp only [Act.put, sx1, sx2, sx3]; first | done | exact rfl), ?_⟩) | (refine wpx_st hS rfl _ _ _ rfl rfl _ _ rfl ?_; (repeat (first | refine sxh ?_ | refine sxn ?_)); refine ⟨_, (by first | exact shA rfl | exact shI rfl | exact shB rfl | exact shS rfl | exact shP rfl | exact shF rfl | exact shN rfl), _, siz_any2 rfl, (by exact rfl), (by exact rfl), (by exact rfl), ?_⟩; clear hS; intro _ hS; dsimp only [blit, List.set, sx4, sx5, Value.cells, sx6] at hS))
  refine (onew_any hS sl sd b (⟨fun _ => 0, 0, Um.noT⟩ : Um.Mm)).mono ?_
  rintro r u ⟨P, rfl, hSn⟩
  clear hS
  have hS := hSn
  clear hSn
  dsimp only [putL, List.set, List.cons_append, List.nil_append] at hS
  go_wp2_with fail
  refine (jAlive_any _).mono ?_
  rintro r u ⟨rfl, hb⟩
  replace hS := hS.call hb
  have hB := hS.bel
  clear hb hS
  go_wp2
  go_ret
  exact ⟨rfl, hB⟩

set_option maxHeartbeats 2000000 in
theorem walk_short (w : World) (c : Um.Cf) (a : Option Addr) (n cap : Nat) (sl sd b : Int) (sn : Nat) (st : Int) (la : Option Addr) (nl cl : Nat) (h : c.r = true) (hn : n ≠ c.n) :
    Calls Try.prog 4 #[(.agg #[.int .i64 (c.t), .int .i64 (c.s), .int .i64 (c.k), .int .i64 (c.g), .int .u64 (c.q : Int)]), .slice a n cap, .agg #[.int .i64 sl, .int .i64 sd, .int .i64 b, .int .u64 (sn : Nat), .int .i64 st, .slice la nl cl]] w fun e w' => e = .returned (.bool true) ∧ Below w.heap.size w w' := by
  have HL := hide (fun w => lOf_short c a n cap w h hn)
  clear h hn
  have hS := Sx.new w
  go_enter Try.func4, Try.ntmps4
  go_wp2_with (first | (refine wpx_box hS rfl _ _ rfl _ rfl _ (by intro _; simp only [Act.put, sx1, sx2, sx3]; first | done | exact rfl) ?_; clear hS; intro _ _ hS; dsimp only [blit, List.set, sx4, sx5, Value.cells, sx6] at hS) | (refine wpx_alloc hS rfl _ rfl _ (zer_any2 rfl) _ (by intro _; simp only [Act.put, sx1, sx2, sx3]; first | done | exact rfl) ?_; clear hS; intro _ _ hS; dsimp only [blit, List.set, sx4, sx5, Value.cells, sx6] at hS) | (refine wpx_ld hS rfl _ _ rfl _ _ rfl ?_; (repeat (first | refine sxh ?_ | refine sxn ?_)); first | refine .inl ⟨_, one_any2 rfl, rfl, _, (by simp only [Act.put, sx1, sx2, sx3]; first | done | exact rfl), ?_⟩ | refine .inr ⟨_, _, row_any2 rfl, rfl, (by dsimp only [cutL, List.drop, List.take]; first | done | exact rfl), _, (by simp only [Act.put, sx1, sx2, sx3]; first | done | exact rfl), ?_⟩) | (refine wpx_st hS rfl _ _ _ rfl rfl _ _ rfl ?_; (repeat (first | refine sxh ?_ | refine sxn ?_)); refine ⟨_, (by first | exact shA rfl | exact shI rfl | exact shB rfl | exact shS rfl | exact shP rfl | exact shF rfl | exact shN rfl), _, siz_any2 rfl, (by exact rfl), (by exact rfl), (by exact rfl), ?_⟩; clear hS; intro _ hS; dsimp only [blit, List.set, sx4, sx5, Value.cells, sx6] at hS))
  refine ((unhide HL) _).mono ?_
  rintro r u ⟨rfl, hb⟩
  replace hS := hS.call hb
  clear hb HL
  go_wp2_with (first | (refine wpx_box hS rfl _ _ rfl _ rfl _ (by intro _; simp only [Act.put, sx1, sx2, sx3]; first | done | exact rfl) ?_; clear hS; intro _ _ hS; dsimp only [blit, List.set, sx4, sx5, Value.cells, sx6] at hS) | (refine wpx_alloc hS rfl _ rfl _ (zer_any2 rfl) _ (by intro _; simp only [Act.put, sx1, sx2, sx3]; first | done | exact rfl) ?_; clear hS; intro _ _ hS; dsimp only [blit, List.set, sx4, sx5, Value.cells, sx6] at hS) | (refine wpx_ld hS rfl _ _ rfl _ _ rfl ?_; (repeat (first | refine sxh ?_ | refine sxn ?_)); first | refine .inl ⟨_, one_any2 rfl, rfl, _, (by simp only [Act.put, sx1, sx2, sx3]; first | done | exact rfl), ?_⟩ | refine .inr ⟨_, _, row_any2 rfl, rfl, (by dsimp only [cutL, List.drop, List.take]; first | done | exact rfl), _, (by simp only [Act.put, sx1, sx2, sx3]; first | done | exact rfl), ?_⟩) | (refine wpx_st hS rfl _ _ _ rfl rfl _ _ rfl ?_; (repeat (first | refine sxh ?_ | refine sxn ?_)); refine ⟨_, (by first | exact shA rfl | exact shI rfl | exact shB rfl | exact shS rfl | exact shP rfl | exact shF rfl | exact shN rfl), _, siz_any2 rfl, (by exact rfl), (by exact rfl), (by exact rfl), ?_⟩; clear hS; intro _ hS; dsimp only [blit, List.set, sx4, sx5, Value.cells, sx6] at hS))
  refine (onew_any hS sl sd b (⟨fun _ => 0, 0, Um.noT⟩ : Um.Mm)).mono ?_
  rintro r u ⟨P, rfl, hSn⟩
  clear hS
  have hS := hSn
  clear hSn
  dsimp only [putL, List.set, List.cons_append, List.nil_append] at hS
  go_wp2_with fail
  refine (jAlive_any _).mono ?_
  rintro r u ⟨rfl, hb⟩
  replace hS := hS.call hb
  have hB := hS.bel
  clear hb hS
  go_wp2
  go_ret
  exact ⟨rfl, hB⟩

set_option maxHeartbeats 2000000 in
theorem walk_big1 (w : World) (c : Um.Cf) (v : Value) (ws : Nat → Nat) (sl sd b : Int) (sn : Nat) (st : Int) (la : Option Addr) (nl cl : Nat) (h : c.r = true) (hv : IsWords w v c.n ws) (hb1 : 100 < st) :
    Calls Try.prog 4 #[(.agg #[.int .i64 (c.t), .int .i64 (c.s), .int .i64 (c.k), .int .i64 (c.g), .int .u64 (c.q : Int)]), v, .agg #[.int .i64 sl, .int .i64 sd, .int .i64 b, .int .u64 (sn : Nat), .int .i64 st, .slice la nl cl]] w fun e w' => e = .returned (.bool true) ∧ Below w.heap.size w w' := by
  have d1 : decide (100 < st) = true := decide_eq_true hb1
  have HR := hide h
  have HV := hide hv
  obtain ⟨sv, scap, rfl⟩ := words_len hv
  clear hv h
  have hS := Sx.new w
  go_enter Try.func4, Try.ntmps4
  go_wp2_with (first | (refine wpx_box hS rfl _ _ rfl _ rfl _ (by intro _; simp only [Act.put, sx1, sx2, sx3]; first | done | exact rfl) ?_; clear hS; intro _ _ hS; dsimp only [blit, List.set, sx4, sx5, Value.cells, sx6] at hS) | (refine wpx_alloc hS rfl _ rfl _ (zer_any2 rfl) _ (by intro _; simp only [Act.put, sx1, sx2, sx3]; first | done | exact rfl) ?_; clear hS; intro _ _ hS; dsimp only [blit, List.set, sx4, sx5, Value.cells, sx6] at hS) | (refine wpx_ld hS rfl _ _ rfl _ _ rfl ?_; (repeat (first | refine sxh ?_ | refine sxn ?_)); first | refine .inl ⟨_, one_any2 rfl, rfl, _, (by simp only [Act.put, sx1, sx2, sx3]; first | done | exact rfl), ?_⟩ | refine .inr ⟨_, _, row_any2 rfl, rfl, (by dsimp only [cutL, List.drop, List.take]; first | done | exact rfl), _, (by simp only [Act.put, sx1, sx2, sx3]; first | done | exact rfl), ?_⟩) | (refine wpx_st hS rfl _ _ _ rfl rfl _ _ rfl ?_; (repeat (first | refine sxh ?_ | refine sxn ?_)); refine ⟨_, (by first | exact shA rfl | exact shI rfl | exact shB rfl | exact shS rfl | exact shP rfl | exact shF rfl | exact shN rfl), _, siz_any2 rfl, (by exact rfl), (by exact rfl), (by exact rfl), ?_⟩; clear hS; intro _ hS; dsimp only [blit, List.set, sx4, sx5, Value.cells, sx6] at hS))
  refine (lOf_x hS c _ ws (unhide HR) (((unhide HV).low.below hS.bel).is hS.bel.size)).mono ?_
  rintro r u ⟨B, C, g, cg, rfl, hc1, hc2, hWn, hSn⟩
  clear hS
  have hS := hSn
  clear hSn
  dsimp only [putL, List.set, List.cons_append, List.nil_append] at hS
  have HW0 := hide hWn
  clear hWn
  go_wp2_with (first | (refine wpx_box hS rfl _ _ rfl _ rfl _ (by intro _; simp only [Act.put, sx1, sx2, sx3]; first | done | exact rfl) ?_; clear hS; intro _ _ hS; dsimp only [blit, List.set, sx4, sx5, Value.cells, sx6] at hS) | (refine wpx_alloc hS rfl _ rfl _ (zer_any2 rfl) _ (by intro _; simp only [Act.put, sx1, sx2, sx3]; first | done | exact rfl) ?_; clear hS; intro _ _ hS; dsimp only [blit, List.set, sx4, sx5, Value.cells, sx6] at hS) | (refine wpx_ld hS rfl _ _ rfl _ _ rfl ?_; (repeat (first | refine sxh ?_ | refine sxn ?_)); first | refine .inl ⟨_, one_any2 rfl, rfl, _, (by simp only [Act.put, sx1, sx2, sx3]; first | done | exact rfl), ?_⟩ | refine .inr ⟨_, _, row_any2 rfl, rfl, (by dsimp only [cutL, List.drop, List.take]; first | done | exact rfl), _, (by simp only [Act.put, sx1, sx2, sx3]; first | done | exact rfl), ?_⟩) | (refine wpx_st hS rfl _ _ _ rfl rfl _ _ rfl ?_; (repeat (first | refine sxh ?_ | refine sxn ?_)); refine ⟨_, (by first | exact shA rfl | exact shI rfl | exact shB rfl | exact shS rfl | exact shP rfl | exact shF rfl | exact shN rfl), _, siz_any2 rfl, (by exact rfl), (by exact rfl), (by exact rfl), ?_⟩; clear hS; intro _ hS; dsimp only [blit, List.set, sx4, sx5, Value.cells, sx6] at hS))
  refine (onew_any hS sl sd b (⟨ws, 0, Um.noT⟩ : Um.Mm)).mono ?_
  rintro r u ⟨P, rfl, hSn⟩
  clear hS
  have hS := hSn
  clear hSn
  dsimp only [putL, List.set, List.cons_append, List.nil_append] at hS
  go_wp2_with (first | (refine wpx_box hS rfl _ _ rfl _ rfl _ (by intro _; simp only [Act.put, sx1, sx2, sx3]; first | done | exact rfl) ?_; clear hS; intro _ _ hS; dsimp only [blit, List.set, sx4, sx5, Value.cells, sx6] at hS) | (refine wpx_alloc hS rfl _ rfl _ (zer_any2 rfl) _ (by intro _; simp only [Act.put, sx1, sx2, sx3]; first | done | exact rfl) ?_; clear hS; intro _ _ hS; dsimp only [blit, List.set, sx4, sx5, Value.cells, sx6] at hS) | (refine wpx_ld hS rfl _ _ rfl _ _ rfl ?_; (repeat (first | refine sxh ?_ | refine sxn ?_)); first | refine .inl ⟨_, one_any2 rfl, rfl, _, (by simp only [Act.put, sx1, sx2, sx3]; first | done | exact rfl), ?_⟩ | refine .inr ⟨_, _, row_any2 rfl, rfl, (by dsimp only [cutL, List.drop, List.take]; first | done | exact rfl), _, (by simp only [Act.put, sx1, sx2, sx3]; first | done | exact rfl), ?_⟩) | (refine wpx_st hS rfl _ _ _ rfl rfl _ _ rfl ?_; (repeat (first | refine sxh ?_ | refine sxn ?_)); refine ⟨_, (by first | exact shA rfl | exact shI rfl | exact shB rfl | exact shS rfl | exact shP rfl | exact shF rfl | exact shN rfl), _, siz_any2 rfl, (by exact rfl), (by exact rfl), (by exact rfl), ?_⟩; clear hS; intro _ hS; dsimp only [blit, List.set, sx4, sx5, Value.cells, sx6] at hS))
  refine (jAlive_any _).mono ?_
  rintro r u ⟨rfl, hb⟩
  replace hS := hS.call hb
  have hB := hS.bel
  clear hb hS
  go_wp2
  go_ret
  exact ⟨rfl, hB⟩

set_option maxHeartbeats 2000000 in
theorem walk_big2 (w : World) (c : Um.Cf) (v : Value) (ws : Nat → Nat) (sl sd b : Int) (sn : Nat) (st : Int) (la : Option Addr) (nl cl : Nat) (h : c.r = true) (hv : IsWords w v c.n ws) (hb1 : ¬ 100 < st) (hb2 : 30 < nl) :
    Calls Try.prog 4 #[(.agg #[.int .i64 (c.t), .int .i64 (c.s), .int .i64 (c.k), .int .i64 (c.g), .int .u64 (c.q : Int)]), v, .agg #[.int .i64 sl, .int .i64 sd, .int .i64 b, .int .u64 (sn : Nat), .int .i64 st, .slice la nl cl]] w fun e w' => e = .returned (.bool true) ∧ Below w.heap.size w w' := by
  have d1 : decide (100 < st) = false := decide_eq_false hb1
  have hb3 : (30 : Int) < (nl : Int) := by omega
  have d2 : decide ((30 : Int) < (nl : Int)) = true := decide_eq_true hb3
  have HR := hide h
  have HV := hide hv
  obtain ⟨sv, scap, rfl⟩ := words_len hv
  clear hv h
  have hS := Sx.new w
  go_enter Try.func4, Try.ntmps4
  go_wp2_with (first | (refine wpx_box hS rfl _ _ rfl _ rfl _ (by intro _; simp only [Act.put, sx1, sx2, sx3]; first | done | exact rfl) ?_; clear hS; intro _ _ hS; dsimp only [blit, List.set, sx4, sx5, Value.cells, sx6] at hS) | (refine wpx_alloc hS rfl _ rfl _ (zer_any2 rfl) _ (by intro _; simp only [Act.put, sx1, sx2, sx3]; first | done | exact rfl) ?_; clear hS; intro _ _ hS; dsimp only [blit, List.set, sx4, sx5, Value.cells, sx6] at hS) | (refine wpx_ld hS rfl _ _ rfl _ _ rfl ?_; (repeat (first | refine sxh ?_ | refine sxn ?_)); first | refine .inl ⟨_, one_any2 rfl, rfl, _, (by simp only [Act.put, sx1, sx2, sx3]; first | done | exact rfl), ?_⟩ | refine .inr ⟨_, _, row_any2 rfl, rfl, (by dsimp only [cutL, List.drop, List.take]; first | done | exact rfl), _, (by simp only [Act.put, sx1, sx2, sx3]; first | done | exact rfl), ?_⟩) | (refine wpx_st hS rfl _ _ _ rfl rfl _ _ rfl ?_; (repeat (first | refine sxh ?_ | refine sxn ?_)); refine ⟨_, (by first | exact shA rfl | exact shI rfl | exact shB rfl | exact shS rfl | exact shP rfl | exact shF rfl | exact shN rfl), _, siz_any2 rfl, (by exact rfl), (by exact rfl), (by exact rfl), ?_⟩; clear hS; intro _ hS; dsimp only [blit, List.set, sx4, sx5, Value.cells, sx6] at hS))
  refine (lOf_x hS c _ ws (unhide HR) (((unhide HV).low.below hS.bel).is hS.bel.size)).mono ?_
  rintro r u ⟨B, C, g, cg, rfl, hc1, hc2, hWn, hSn⟩
  clear hS
  have hS := hSn
  clear hSn
  dsimp only [putL, List.set, List.cons_append, List.nil_append] at hS
  have HW0 := hide hWn
  clear hWn
  go_wp2_with (first | (refine wpx_box hS rfl _ _ rfl _ rfl _ (by intro _; simp only [Act.put, sx1, sx2, sx3]; first | done | exact rfl) ?_; clear hS; intro _ _ hS; dsimp only [blit, List.set, sx4, sx5, Value.cells, sx6] at hS) | (refine wpx_alloc hS rfl _ rfl _ (zer_any2 rfl) _ (by intro _; simp only [Act.put, sx1, sx2, sx3]; first | done | exact rfl) ?_; clear hS; intro _ _ hS; dsimp only [blit, List.set, sx4, sx5, Value.cells, sx6] at hS) | (refine wpx_ld hS rfl _ _ rfl _ _ rfl ?_; (repeat (first | refine sxh ?_ | refine sxn ?_)); first | refine .inl ⟨_, one_any2 rfl, rfl, _, (by simp only [Act.put, sx1, sx2, sx3]; first | done | exact rfl), ?_⟩ | refine .inr ⟨_, _, row_any2 rfl, rfl, (by dsimp only [cutL, List.drop, List.take]; first | done | exact rfl), _, (by simp only [Act.put, sx1, sx2, sx3]; first | done | exact rfl), ?_⟩) | (refine wpx_st hS rfl _ _ _ rfl rfl _ _ rfl ?_; (repeat (first | refine sxh ?_ | refine sxn ?_)); refine ⟨_, (by first | exact shA rfl | exact shI rfl | exact shB rfl | exact shS rfl | exact shP rfl | exact shF rfl | exact shN rfl), _, siz_any2 rfl, (by exact rfl), (by exact rfl), (by exact rfl), ?_⟩; clear hS; intro _ hS; dsimp only [blit, List.set, sx4, sx5, Value.cells, sx6] at hS))
  refine (onew_any hS sl sd b (⟨ws, 0, Um.noT⟩ : Um.Mm)).mono ?_
  rintro r u ⟨P, rfl, hSn⟩
  clear hS
  have hS := hSn
  clear hSn
  dsimp only [putL, List.set, List.cons_append, List.nil_append] at hS
  go_wp2_with (first | (refine wpx_box hS rfl _ _ rfl _ rfl _ (by intro _; simp only [Act.put, sx1, sx2, sx3]; first | done | exact rfl) ?_; clear hS; intro _ _ hS; dsimp only [blit, List.set, sx4, sx5, Value.cells, sx6] at hS) | (refine wpx_alloc hS rfl _ rfl _ (zer_any2 rfl) _ (by intro _; simp only [Act.put, sx1, sx2, sx3]; first | done | exact rfl) ?_; clear hS; intro _ _ hS; dsimp only [blit, List.set, sx4, sx5, Value.cells, sx6] at hS) | (refine wpx_ld hS rfl _ _ rfl _ _ rfl ?_; (repeat (first | refine sxh ?_ | refine sxn ?_)); first | refine .inl ⟨_, one_any2 rfl, rfl, _, (by simp only [Act.put, sx1, sx2, sx3]; first | done | exact rfl), ?_⟩ | refine .inr ⟨_, _, row_any2 rfl, rfl, (by dsimp only [cutL, List.drop, List.take]; first | done | exact rfl), _, (by simp only [Act.put, sx1, sx2, sx3]; first | done | exact rfl), ?_⟩) | (refine wpx_st hS rfl _ _ _ rfl rfl _ _ rfl ?_; (repeat (first | refine sxh ?_ | refine sxn ?_)); refine ⟨_, (by first | exact shA rfl | exact shI rfl | exact shB rfl | exact shS rfl | exact shP rfl | exact shF rfl | exact shN rfl), _, siz_any2 rfl, (by exact rfl), (by exact rfl), (by exact rfl), ?_⟩; clear hS; intro _ hS; dsimp only [blit, List.set, sx4, sx5, Value.cells, sx6] at hS))
  refine (jAlive_any _).mono ?_
  rintro r u ⟨rfl, hb⟩
  replace hS := hS.call hb
  have hB := hS.bel
  clear hb hS
  go_wp2
  go_ret
  exact ⟨rfl, hB⟩

set_option maxHeartbeats 8000000 in
theorem walk_none (w : World) (c : Um.Cf) (v : Value) (ws : Nat → Nat) (sl sd b : Int) (sn : Nat) (st : Int) (la : Option Addr) (nl cl : Nat) (h : c.r = true) (hv : IsWords w v c.n ws) (Z : Nat → Pok) (hbd : -9223372036854775808 ≤ sl ∧ sl ≤ 9223372036854775807) (hp : ¬ 0 < st) (hb2 : ¬ 30 < nl) (hcl : nl ≤ cl) (hP : PokesAt w la nl Z) :
    Calls Try.prog 4 #[(.agg #[.int .i64 (c.t), .int .i64 (c.s), .int .i64 (c.k), .int .i64 (c.g), .int .u64 (c.q : Int)]), v, .agg #[.int .i64 sl, .int .i64 sd, .int .i64 b, .int .u64 (sn : Nat), .int .i64 st, .slice la nl cl]] w fun e w' => e = .returned (.bool true) ∧ Below w.heap.size w w' := by
  have hb1 : ¬ 100 < st := by omega
  have d1 : decide (100 < st) = false := decide_eq_false hb1
  have hb3 : ¬ (30 : Int) < (nl : Int) := by omega
  have d2 : decide ((30 : Int) < (nl : Int)) = false := decide_eq_false hb3
  have hp1 : st ≤ 0 := by omega
  have HBD := hide hbd

  have HP := hide hP
  have HNL := hide (And.intro (show nl ≤ 30 by omega) hcl)
  clear hP hcl hbd
  have HR := hide h
  have HV := hide hv
  obtain ⟨sv, scap, rfl⟩ := words_len hv
  clear hv h
  have hS := Sx.new w
  go_enter Try.func4, Try.ntmps4
  go_wp2_with (first | (refine wpx_box hS rfl _ _ rfl _ rfl _ (by intro _; simp only [Act.put, sx1, sx2, sx3]; first | done | exact rfl) ?_; clear hS; intro _ _ hS; dsimp only [blit, List.set, sx4, sx5, Value.cells, sx6] at hS) | (refine wpx_alloc hS rfl _ rfl _ (zer_any2 rfl) _ (by intro _; simp only [Act.put, sx1, sx2, sx3]; first | done | exact rfl) ?_; clear hS; intro _ _ hS; dsimp only [blit, List.set, sx4, sx5, Value.cells, sx6] at hS) | (refine wpx_ld hS rfl _ _ rfl _ _ rfl ?_; (repeat (first | refine sxh ?_ | refine sxn ?_)); first | refine .inl ⟨_, one_any2 rfl, rfl, _, (by simp only [Act.put, sx1, sx2, sx3]; first | done | exact rfl), ?_⟩ | refine .inr ⟨_, _, row_any2 rfl, rfl, (by dsimp only [cutL, List.drop, List.take]; first | done | exact rfl), _, (by simp only [Act.put, sx1, sx2, sx3]; first | done | exact rfl), ?_⟩) | (refine wpx_st hS rfl _ _ _ rfl rfl _ _ rfl ?_; (repeat (first | refine sxh ?_ | refine sxn ?_)); refine ⟨_, (by first | exact shA rfl | exact shI rfl | exact shB rfl | exact shS rfl | exact shP rfl | exact shF rfl | exact shN rfl), _, siz_any2 rfl, (by exact rfl), (by exact rfl), (by exact rfl), ?_⟩; clear hS; intro _ hS; dsimp only [blit, List.set, sx4, sx5, Value.cells, sx6] at hS))
  refine (lOf_x hS c _ ws (unhide HR) (((unhide HV).low.below hS.bel).is hS.bel.size)).mono ?_
  rintro r u ⟨B, C, g, cg, rfl, hc1, hc2, hWn, hSn⟩
  clear hS
  have hS := hSn
  clear hSn
  dsimp only [putL, List.set, List.cons_append, List.nil_append] at hS
  have HW0 := hide hWn
  clear hWn
  go_wp2_with (first | (refine wpx_box hS rfl _ _ rfl _ rfl _ (by intro _; simp only [Act.put, sx1, sx2, sx3]; first | done | exact rfl) ?_; clear hS; intro _ _ hS; dsimp only [blit, List.set, sx4, sx5, Value.cells, sx6] at hS) | (refine wpx_alloc hS rfl _ rfl _ (zer_any2 rfl) _ (by intro _; simp only [Act.put, sx1, sx2, sx3]; first | done | exact rfl) ?_; clear hS; intro _ _ hS; dsimp only [blit, List.set, sx4, sx5, Value.cells, sx6] at hS) | (refine wpx_ld hS rfl _ _ rfl _ _ rfl ?_; (repeat (first | refine sxh ?_ | refine sxn ?_)); first | refine .inl ⟨_, one_any2 rfl, rfl, _, (by simp only [Act.put, sx1, sx2, sx3]; first | done | exact rfl), ?_⟩ | refine .inr ⟨_, _, row_any2 rfl, rfl, (by dsimp only [cutL, List.drop, List.take]; first | done | exact rfl), _, (by simp only [Act.put, sx1, sx2, sx3]; first | done | exact rfl), ?_⟩) | (refine wpx_st hS rfl _ _ _ rfl rfl _ _ rfl ?_; (repeat (first | refine sxh ?_ | refine sxn ?_)); refine ⟨_, (by first | exact shA rfl | exact shI rfl | exact shB rfl | exact shS rfl | exact shP rfl | exact shF rfl | exact shN rfl), _, siz_any2 rfl, (by exact rfl), (by exact rfl), (by exact rfl), ?_⟩; clear hS; intro _ hS; dsimp only [blit, List.set, sx4, sx5, Value.cells, sx6] at hS))
  refine (onew_any hS sl sd b (⟨ws, 0, Um.noT⟩ : Um.Mm)).mono ?_
  rintro r u ⟨P, rfl, hSn⟩
  clear hS
  have hS := hSn
  clear hSn
  dsimp only [putL, List.set, List.cons_append, List.nil_append] at hS
  go_wp2_with (first | (refine wpx_box hS rfl _ _ rfl _ rfl _ (by intro _; simp only [Act.put, sx1, sx2, sx3]; first | done | exact rfl) ?_; clear hS; intro _ _ hS; dsimp only [blit, List.set, sx4, sx5, Value.cells, sx6] at hS) | (refine wpx_alloc hS rfl _ rfl _ (zer_any2 rfl) _ (by intro _; simp only [Act.put, sx1, sx2, sx3]; first | done | exact rfl) ?_; clear hS; intro _ _ hS; dsimp only [blit, List.set, sx4, sx5, Value.cells, sx6] at hS) | (refine wpx_ld hS rfl _ _ rfl _ _ rfl ?_; (repeat (first | refine sxh ?_ | refine sxn ?_)); first | refine .inl ⟨_, one_any2 rfl, rfl, _, (by simp only [Act.put, sx1, sx2, sx3]; first | done | exact rfl), ?_⟩ | refine .inr ⟨_, _, row_any2 rfl, rfl, (by dsimp only [cutL, List.drop, List.take]; first | done | exact rfl), _, (by simp only [Act.put, sx1, sx2, sx3]; first | done | exact rfl), ?_⟩) | (refine wpx_st hS rfl _ _ _ rfl rfl _ _ rfl ?_; (repeat (first | refine sxh ?_ | refine sxn ?_)); refine ⟨_, (by first | exact shA rfl | exact shI rfl | exact shB rfl | exact shS rfl | exact shP rfl | exact shF rfl | exact shN rfl), _, siz_any2 rfl, (by exact rfl), (by exact rfl), (by exact rfl), ?_⟩; clear hS; intro _ hS; dsimp only [blit, List.set, sx4, sx5, Value.cells, sx6] at hS))
  obtain ⟨CF, rfl⟩ := nameB hS 0 rfl
  obtain ⟨PL, rfl⟩ := nameB hS 1 rfl
  obtain ⟨R, rfl⟩ := nameB hS 4 rfl
  obtain ⟨A, rfl⟩ := nameB hS 6 rfl
  clear d1 d2 hb1 hb3
  go_loopw [59] (fun i wr => ∃ (j : Nat) (o : Um.Ls) (g cg : Nat), j ≤ 0 ∧ i = .int .i64 j ∧ c.n ≤ cg ∧ cg ≤ maxLen ∧ Hid (Um.Lok c o) ∧ Hid (Sx [] w wr [(CF, [.int .i64 c.t, .int .i64 c.s, .int .i64 c.k, .int .i64 c.g, .int .u64 c.q]), (PL, [.int .i64 sl, .int .i64 sd, .int .i64 b, .int .u64 (sn : Nat), .int .i64 st, .slice la nl cl]), (B, memL c C o.m), (C, rowW o.m.ws c.n), (R, [.int .i64 c.t, .int .i64 c.s, .int .i64 c.k, .int .i64 c.g, .int .u64 c.q, (.slice (some ⟨g, 0, none⟩) c.n cg), .int .i64 o.m.cnt, .int .i64 o.m.l.kind, .int .i64 o.m.l.a, .int .i64 o.m.l.b, .int .u64 (o.m.l.old : Nat), .int .u64 (o.m.l.new : Nat), .bool o.m.l.done]), (P, owL sl sd b o), (A, [.int .i64 sl, .int .i64 sd, .int .i64 b, .bool o.lk, .int .u64 (o.s : Nat), .bool o.dn])] [(g, rowW o.m.ws c.n)])) (fun i _ => 0 - (intOf i).toNat)
  case atStart => exact ⟨0, Um.lnew (⟨ws, 0, Um.noT⟩ : Um.Mm), g, cg, Nat.zero_le _, rfl, hc1, hc2, hide (Um.lnew_ok (unhide HW0)), hide hS⟩
  case round =>
    clear hS hc1 hc2 HW0
    rename_i wr
    obtain ⟨j, o, g, cg, hj, rfl, hc1, hc2, HO, HS⟩ := hrel
    have hS := unhide HS
    clear HS
    by_cases hlt : j < 0
    · exact absurd hlt (by omega)
    · obtain rfl : j = 0 := by omega
      go_wp2_with fail
      refine (jAlive_any _).mono ?_
      rintro r u ⟨rfl, hb⟩
      replace hS := hS.call hb
      have hB := hS.bel
      clear hb hS
      go_wp2
      go_ret
      exact ⟨rfl, hB⟩

set_option maxHeartbeats 8000000 in
theorem walk_right (w : World) (c : Um.Cf) (v : Value) (ws : Nat → Nat) (sl sd b : Int) (sn : Nat) (N : Nat) (la : Option Addr) (nl cl : Nat) (h : c.r = true) (hv : IsWords w v c.n ws) (Z : Nat → Pok) (hbd : -9223372036854775808 ≤ sl ∧ sl ≤ 9223372036854775807) (hp : 0 < N) (hNb : N ≤ 100) (hb2 : ¬ 30 < nl) (hcl : nl ≤ cl) (hP : PokesAt w la nl Z) :
    Calls Try.prog 4 #[(.agg #[.int .i64 (c.t), .int .i64 (c.s), .int .i64 (c.k), .int .i64 (c.g), .int .u64 (c.q : Int)]), v, .agg #[.int .i64 sl, .int .i64 sd, .int .i64 b, .int .u64 (sn : Nat), .int .i64 (N : Int), .slice la nl cl]] w fun e w' => e = .returned (.bool true) ∧ Below w.heap.size w w' := by
  have hb1 : ¬ 100 < (N : Int) := by omega
  have d1 : decide (100 < (N : Int)) = false := decide_eq_false hb1
  have hb3 : ¬ (30 : Int) < (nl : Int) := by omega
  have d2 : decide ((30 : Int) < (nl : Int)) = false := decide_eq_false hb3
  have hp1 : (0 : Int) < (N : Int) := by omega
  have HBD := hide hbd

  have HP := hide hP
  have HNL := hide (And.intro (show nl ≤ 30 by omega) hcl)
  clear hP hcl hbd
  have HR := hide h
  have HV := hide hv
  obtain ⟨sv, scap, rfl⟩ := words_len hv
  clear hv h
  have hS := Sx.new w
  go_enter Try.func4, Try.ntmps4
  go_wp2_with (first | (refine wpx_box hS rfl _ _ rfl _ rfl _ (by intro _; simp only [Act.put, sx1, sx2, sx3]; first | done | exact rfl) ?_; clear hS; intro _ _ hS; dsimp only [blit, List.set, sx4, sx5, Value.cells, sx6] at hS) | (refine wpx_alloc hS rfl _ rfl _ (zer_any2 rfl) _ (by intro _; simp only [Act.put, sx1, sx2, sx3]; first | done | exact rfl) ?_; clear hS; intro _ _ hS; dsimp only [blit, List.set, sx4, sx5, Value.cells, sx6] at hS) | (refine wpx_ld hS rfl _ _ rfl _ _ rfl ?_; (repeat (first | refine sxh ?_ | refine sxn ?_)); first | refine .inl ⟨_, one_any2 rfl, rfl, _, (by simp only [Act.put, sx1, sx2, sx3]; first | done | exact rfl), ?_⟩ | refine .inr ⟨_, _, row_any2 rfl, rfl, (by dsimp only [cutL, List.drop, List.take]; first | done | exact rfl), _, (by simp only [Act.put, sx1, sx2, sx3]; first | done | exact rfl), ?_⟩) | (refine wpx_st hS rfl _ _ _ rfl rfl _ _ rfl ?_; (repeat (first | refine sxh ?_ | refine sxn ?_)); refine ⟨_, (by first | exact shA rfl | exact shI rfl | exact shB rfl | exact shS rfl | exact shP rfl | exact shF rfl | exact shN rfl), _, siz_any2 rfl, (by exact rfl), (by exact rfl), (by exact rfl), ?_⟩; clear hS; intro _ hS; dsimp only [blit, List.set, sx4, sx5, Value.cells, sx6] at hS))
  refine (lOf_x hS c _ ws (unhide HR) (((unhide HV).low.below hS.bel).is hS.bel.size)).mono ?_
  rintro r u ⟨B, C, g, cg, rfl, hc1, hc2, hWn, hSn⟩
  clear hS
  have hS := hSn
  clear hSn
  dsimp only [putL, List.set, List.cons_append, List.nil_append] at hS
  have HW0 := hide hWn
  clear hWn
  go_wp2_with (first | (refine wpx_box hS rfl _ _ rfl _ rfl _ (by intro _; simp only [Act.put, sx1, sx2, sx3]; first | done | exact rfl) ?_; clear hS; intro _ _ hS; dsimp only [blit, List.set, sx4, sx5, Value.cells, sx6] at hS) | (refine wpx_alloc hS rfl _ rfl _ (zer_any2 rfl) _ (by intro _; simp only [Act.put, sx1, sx2, sx3]; first | done | exact rfl) ?_; clear hS; intro _ _ hS; dsimp only [blit, List.set, sx4, sx5, Value.cells, sx6] at hS) | (refine wpx_ld hS rfl _ _ rfl _ _ rfl ?_; (repeat (first | refine sxh ?_ | refine sxn ?_)); first | refine .inl ⟨_, one_any2 rfl, rfl, _, (by simp only [Act.put, sx1, sx2, sx3]; first | done | exact rfl), ?_⟩ | refine .inr ⟨_, _, row_any2 rfl, rfl, (by dsimp only [cutL, List.drop, List.take]; first | done | exact rfl), _, (by simp only [Act.put, sx1, sx2, sx3]; first | done | exact rfl), ?_⟩) | (refine wpx_st hS rfl _ _ _ rfl rfl _ _ rfl ?_; (repeat (first | refine sxh ?_ | refine sxn ?_)); refine ⟨_, (by first | exact shA rfl | exact shI rfl | exact shB rfl | exact shS rfl | exact shP rfl | exact shF rfl | exact shN rfl), _, siz_any2 rfl, (by exact rfl), (by exact rfl), (by exact rfl), ?_⟩; clear hS; intro _ hS; dsimp only [blit, List.set, sx4, sx5, Value.cells, sx6] at hS))
  refine (onew_any hS sl sd b (⟨ws, 0, Um.noT⟩ : Um.Mm)).mono ?_
  rintro r u ⟨P, rfl, hSn⟩
  clear hS
  have hS := hSn
  clear hSn
  dsimp only [putL, List.set, List.cons_append, List.nil_append] at hS
  go_wp2_with (first | (refine wpx_box hS rfl _ _ rfl _ rfl _ (by intro _; simp only [Act.put, sx1, sx2, sx3]; first | done | exact rfl) ?_; clear hS; intro _ _ hS; dsimp only [blit, List.set, sx4, sx5, Value.cells, sx6] at hS) | (refine wpx_alloc hS rfl _ rfl _ (zer_any2 rfl) _ (by intro _; simp only [Act.put, sx1, sx2, sx3]; first | done | exact rfl) ?_; clear hS; intro _ _ hS; dsimp only [blit, List.set, sx4, sx5, Value.cells, sx6] at hS) | (refine wpx_ld hS rfl _ _ rfl _ _ rfl ?_; (repeat (first | refine sxh ?_ | refine sxn ?_)); first | refine .inl ⟨_, one_any2 rfl, rfl, _, (by simp only [Act.put, sx1, sx2, sx3]; first | done | exact rfl), ?_⟩ | refine .inr ⟨_, _, row_any2 rfl, rfl, (by dsimp only [cutL, List.drop, List.take]; first | done | exact rfl), _, (by simp only [Act.put, sx1, sx2, sx3]; first | done | exact rfl), ?_⟩) | (refine wpx_st hS rfl _ _ _ rfl rfl _ _ rfl ?_; (repeat (first | refine sxh ?_ | refine sxn ?_)); refine ⟨_, (by first | exact shA rfl | exact shI rfl | exact shB rfl | exact shS rfl | exact shP rfl | exact shF rfl | exact shN rfl), _, siz_any2 rfl, (by exact rfl), (by exact rfl), (by exact rfl), ?_⟩; clear hS; intro _ hS; dsimp only [blit, List.set, sx4, sx5, Value.cells, sx6] at hS))
  obtain ⟨CF, rfl⟩ := nameB hS 0 rfl
  obtain ⟨PL, rfl⟩ := nameB hS 1 rfl
  obtain ⟨R, rfl⟩ := nameB hS 4 rfl
  obtain ⟨A, rfl⟩ := nameB hS 6 rfl
  clear d1 d2 hb1 hb3
  go_loopw [59] (fun i wr => ∃ (j : Nat) (o : Um.Ls) (g cg : Nat), j ≤ N ∧ i = .int .i64 j ∧ c.n ≤ cg ∧ cg ≤ maxLen ∧ Hid (Um.Lok c o) ∧ Hid (Sx [] w wr [(CF, [.int .i64 c.t, .int .i64 c.s, .int .i64 c.k, .int .i64 c.g, .int .u64 c.q]), (PL, [.int .i64 sl, .int .i64 sd, .int .i64 b, .int .u64 (sn : Nat), .int .i64 (N : Int), .slice la nl cl]), (B, memL c C o.m), (C, rowW o.m.ws c.n), (R, [.int .i64 c.t, .int .i64 c.s, .int .i64 c.k, .int .i64 c.g, .int .u64 c.q, (.slice (some ⟨g, 0, none⟩) c.n cg), .int .i64 o.m.cnt, .int .i64 o.m.l.kind, .int .i64 o.m.l.a, .int .i64 o.m.l.b, .int .u64 (o.m.l.old : Nat), .int .u64 (o.m.l.new : Nat), .bool o.m.l.done]), (P, owL sl sd b o), (A, [.int .i64 sl, .int .i64 sd, .int .i64 b, .bool o.lk, .int .u64 (o.s : Nat), .bool o.dn])] [(g, rowW o.m.ws c.n)])) (fun i _ => N - (intOf i).toNat)
  case atStart => exact ⟨0, Um.lnew (⟨ws, 0, Um.noT⟩ : Um.Mm), g, cg, Nat.zero_le _, rfl, hc1, hc2, hide (Um.lnew_ok (unhide HW0)), hide hS⟩
  case round =>
    clear hS hc1 hc2 HW0
    rename_i wr
    obtain ⟨j, o, g, cg, hj, rfl, hc1, hc2, HO, HS⟩ := hrel
    have hS := unhide HS
    clear HS
    by_cases hlt : j < N
    · have hlti : (j : Int) < (N : Int) := by omega
      obtain ⟨M, hMe⟩ : ∃ M, M = poked c Z j o.m nl := ⟨_, rfl⟩
      have HMe := hide hMe
      clear hMe
      go_wp2_with (first | (refine wpx_box hS rfl _ _ rfl _ rfl _ (by intro _; simp only [Act.put, sx1, sx2, sx3]; first | done | exact rfl) ?_; clear hS; intro _ _ hS; dsimp only [blit, List.set, sx4, sx5, Value.cells, sx6] at hS) | (refine wpx_alloc hS rfl _ rfl _ (zer_any2 rfl) _ (by intro _; simp only [Act.put, sx1, sx2, sx3]; first | done | exact rfl) ?_; clear hS; intro _ _ hS; dsimp only [blit, List.set, sx4, sx5, Value.cells, sx6] at hS) | (refine wpx_ld hS rfl _ _ rfl _ _ rfl ?_; (repeat (first | refine sxh ?_ | refine sxn ?_)); first | refine .inl ⟨_, one_any2 rfl, rfl, _, (by simp only [Act.put, sx1, sx2, sx3]; first | done | exact rfl), ?_⟩ | refine .inr ⟨_, _, row_any2 rfl, rfl, (by dsimp only [cutL, List.drop, List.take]; first | done | exact rfl), _, (by simp only [Act.put, sx1, sx2, sx3]; first | done | exact rfl), ?_⟩) | (refine wpx_st hS rfl _ _ _ rfl rfl _ _ rfl ?_; (repeat (first | refine sxh ?_ | refine sxn ?_)); refine ⟨_, (by first | exact shA rfl | exact shI rfl | exact shB rfl | exact shS rfl | exact shP rfl | exact shF rfl | exact shN rfl), _, siz_any2 rfl, (by exact rfl), (by exact rfl), (by exact rfl), ?_⟩; clear hS; intro _ hS; dsimp only [blit, List.set, sx4, sx5, Value.cells, sx6] at hS))
      refine (poked_x hS 2 3 0 rfl rfl (by decide) rfl (unhide HR) (unhide HO).wd hc1 hc2 la nl cl Z (unhide HNL).1 (unhide HNL).2 ((unhide HP).turn hS.off (by simp)) ((unhide HP).apart hS 2 3 rfl rfl) j M (unhide HMe)).mono ?_
      rintro r u ⟨g1, cg1, rfl, q1, q2, hWn, hSn⟩
      clear hS
      have hS := hSn
      clear hSn
      dsimp only [putL, List.set, List.cons_append, List.nil_append] at hS
      have HW1 := hide hWn
      clear hWn
      clear HMe
      go_wp2_with (refine wpx_st hS rfl _ _ _ rfl rfl _ _ rfl ?_; (repeat (first | refine sxh ?_ | refine sxn ?_)); refine ⟨_, (by first | exact shA rfl | exact shI rfl | exact shB rfl | exact shS rfl | exact shP rfl | exact shF rfl | exact shN rfl), _, siz_any2 rfl, (by exact rfl), (by exact rfl), (by exact rfl), ?_⟩; clear hS; intro _ hS; dsimp only [blit, List.set, sx4, sx5, Value.cells, sx6] at hS)
      obtain ⟨H, hH⟩ : ∃ H, H = Um.wstep c sl sd b (⟨M, o.lk, o.s, o.dn⟩ : Um.Ls) := ⟨_, rfl⟩
      have HH := hide hH
      have HO1 := hide (show Um.Lok c (⟨M, o.lk, o.s, o.dn⟩ : Um.Ls) from ⟨unhide HW1, (unhide HO).s⟩)
      clear hH HO HW1
      refine (oStep_any hS 2 3 5 (⟨M, o.lk, o.s, o.dn⟩ : Um.Ls) H (unhide HH) rfl rfl rfl (by decide) (by decide) (by decide) (unhide HR) (unhide HO1) (unhide HBD).1 (unhide HBD).2).mono ?_
      rintro r u ⟨rfl, hOn, hSn⟩
      clear hS
      have hS := hSn
      clear hSn
      dsimp only [putL, List.set, List.cons_append, List.nil_append] at hS
      have HO2 := hide hOn
      clear hOn
      go_wp2_with (first | (refine wpx_box hS rfl _ _ rfl _ rfl _ (by intro _; simp only [Act.put, sx1, sx2, sx3]; first | done | exact rfl) ?_; clear hS; intro _ _ hS; dsimp only [blit, List.set, sx4, sx5, Value.cells, sx6] at hS) | (refine wpx_alloc hS rfl _ rfl _ (zer_any2 rfl) _ (by intro _; simp only [Act.put, sx1, sx2, sx3]; first | done | exact rfl) ?_; clear hS; intro _ _ hS; dsimp only [blit, List.set, sx4, sx5, Value.cells, sx6] at hS) | (refine wpx_ld hS rfl _ _ rfl _ _ rfl ?_; (repeat (first | refine sxh ?_ | refine sxn ?_)); first | refine .inl ⟨_, one_any2 rfl, rfl, _, (by simp only [Act.put, sx1, sx2, sx3]; first | done | exact rfl), ?_⟩ | refine .inr ⟨_, _, row_any2 rfl, rfl, (by dsimp only [cutL, List.drop, List.take]; first | done | exact rfl), _, (by simp only [Act.put, sx1, sx2, sx3]; first | done | exact rfl), ?_⟩) | (refine wpx_st hS rfl _ _ _ rfl rfl _ _ rfl ?_; (repeat (first | refine sxh ?_ | refine sxn ?_)); refine ⟨_, (by first | exact shA rfl | exact shI rfl | exact shB rfl | exact shS rfl | exact shP rfl | exact shF rfl | exact shN rfl), _, siz_any2 rfl, (by exact rfl), (by exact rfl), (by exact rfl), ?_⟩; clear hS; intro _ hS; dsimp only [blit, List.set, sx4, sx5, Value.cells, sx6] at hS))
      refine (rGo11_any _ c sl sd b (⟨M, o.lk, o.s, o.dn⟩ : Um.Ls) H (unhide HH) g1 cg1 (unhide HO1) (hS.getE 0 rfl) (unhide HR) q1 q2).mono ?_
      rintro r u ⟨gr, cgr, rfl, p1, p2, hFr, hGb, hb⟩
      replace hS := hS.ref hb 0 rfl hFr hGb
      clear hGb hb hFr
      dsimp only [List.set] at hS
      unfold ownV
      go_wp2_with (refine wpx_st hS rfl _ _ _ rfl rfl _ _ rfl ?_; (repeat (first | refine sxh ?_ | refine sxn ?_)); refine ⟨_, (by first | exact shA rfl | exact shI rfl | exact shB rfl | exact shS rfl | exact shP rfl | exact shF rfl | exact shN rfl), _, siz_any2 rfl, (by exact rfl), (by exact rfl), (by exact rfl), ?_⟩; clear hS; intro _ hS; dsimp only [blit, List.set, sx4, sx5, Value.cells, sx6] at hS)
      obtain ⟨u, rfl⟩ := nameW hS
      have HAL := hide (fun d os => Calls.regrown_of (lAlike_x (hS.call (below_regrown u d os)) 2 3 rfl rfl (by decide) 0 rfl (unhide HR) (unhide HO2).wd p1 p2))
      have HDN := hide (fun d os => Calls.regrown_of (same_below (oDone_any (o := H) ((hS.call (below_regrown u d os)).get 5 rfl))))
      have k0 := cell_regrown ((hS.get 4 rfl).cell 0 _ rfl)
      have k1 := cell_regrown ((hS.get 4 rfl).cell 1 _ rfl)
      have k2 := cell_regrown ((hS.get 4 rfl).cell 2 _ rfl)
      have k3 := cell_regrown ((hS.get 4 rfl).cell 3 _ rfl)
      have k4 := cell_regrown ((hS.get 4 rfl).cell 4 _ rfl)
      have k5 := cell_regrown ((hS.get 4 rfl).cell 5 _ rfl)
      have k6 := cell_regrown ((hS.get 4 rfl).cell 6 _ rfl)
      have k7 := cell_regrown ((hS.get 4 rfl).cell 7 _ rfl)
      have k8 := cell_regrown ((hS.get 4 rfl).cell 8 _ rfl)
      have k9 := cell_regrown ((hS.get 4 rfl).cell 9 _ rfl)
      have k10 := cell_regrown ((hS.get 4 rfl).cell 10 _ rfl)
      have k11 := cell_regrown ((hS.get 4 rfl).cell 11 _ rfl)
      have k12 := cell_regrown ((hS.get 4 rfl).cell 12 _ rfl)
      have q5 := cell_regrown ((hS.get 6 rfl).cell 5 _ rfl)
      have HS7 := hide hS
      clear hS
      generalize hbq : H.dn = bq at HDN q5
      have hbb : (bq != bq) = false := by simp
      refine wp_region_quiet_below (by kernel_rfl) (by kernel_rfl) ?_
      repeat (go_big_quiet_step (first | (go_at_call 15; exact (unhide HAL) _ _) | (go_at_call 20; exact (unhide HDN) _ _)))
      refine wpQuiet_nil ?_
      intro _ hw'
      obtain ⟨⟨dq, osq⟩, hw''⟩ := hw'
      subst hw''
      clear k0 k1 k2 k3 k4 k5 k6 k7 k8 k9 k10 k11 k12 q5 HAL HDN hbb hbq
      have HS8 := hide ((unhide HS7).call (below_regrown u dq osq))
      clear HS7
      generalize grow (redrawn u dq) osq = u9 at *
      go_wp2
      exact ⟨⟨j + 1, H, gr, cgr, by omega, by go_num, p1, p2, HO2, HS8⟩, by simp [intOf]; omega⟩
    · obtain rfl : j = N := by omega
      go_wp2_with fail
      refine (jAlive_any _).mono ?_
      rintro r u ⟨rfl, hb⟩
      replace hS := hS.call hb
      have hB := hS.bel
      clear hb hS
      go_wp2
      go_ret
      exact ⟨rfl, hB⟩

theorem walk {H : Type} {enc : TypeId × Value → H} {base : Nat} {v0 v1 v2 : Value} {d0 d1 d2 : DataW H} {p0 p1 p2 : List MemPlace} (w : World)
    (hv0 : Value.okWide Try.prog w .any base 24 v0) (h0 : DataW.Trod enc Try.prog w 0 (fun _ => true) true 24 v0 d0 p0)
    (hv1 : Value.okWide Try.prog w .any base 25 v1) (h1 : DataW.Trod enc Try.prog w 0 (fun _ => true) true 25 v1 d1 p1)
    (hv2 : Value.okWide Try.prog w .any base 28 v2) (h2 : DataW.Trod enc Try.prog w 0 (fun _ => true) true 28 v2 d2 p2) :
    Calls Try.prog 4 #[v0, v1, v2] w fun e w' => e = .returned (.bool true) ∧ Below w.heap.size w w' := by
  obtain ⟨ct, s, k, g, q, rfl, hsb⟩ := open_cfg hv0 h0
  obtain ⟨n, ws, hI⟩ := open_words hv1 h1
  obtain ⟨sl, sd, b, sn, st, la, nl, cl, Z, rfl, hbd, hx, hnc, hZ⟩ := open_play11 hv2 h2
  cases hr : (⟨ct, s, k, g, q⟩ : Um.Cf).r with
  | false =>
    obtain ⟨sw, cap, rfl⟩ := words_len hI
    exact walk_wrong w ⟨ct, s, k, g, q⟩ sw n cap sl sd b sn st la nl cl hr
  | true =>
    by_cases hn : n = (⟨ct, s, k, g, q⟩ : Um.Cf).n
    · subst hn
      by_cases hb1 : 100 < st
      · exact walk_big1 w ⟨ct, s, k, g, q⟩ v1 ws sl sd b sn st la nl cl hr hI hb1
      by_cases hb2 : 30 < nl
      · exact walk_big2 w ⟨ct, s, k, g, q⟩ v1 ws sl sd b sn st la nl cl hr hI hb1 hb2
      by_cases hp : 0 < st
      · obtain ⟨N, rfl⟩ : ∃ N : Nat, st = N := ⟨st.toNat, by omega⟩
        exact walk_right w ⟨ct, s, k, g, q⟩ v1 ws sl sd b sn N la nl cl hr hI Z hbd (by omega) (by omega) hb2 hnc hZ
      · exact walk_none w ⟨ct, s, k, g, q⟩ v1 ws sl sd b sn st la nl cl hr hI Z hbd hp hb2 hnc hZ
    · obtain ⟨sw, cap, rfl⟩ := words_len hI
      exact walk_short w ⟨ct, s, k, g, q⟩ sw n cap sl sd b sn st la nl cl hr hn

set_option maxRecDepth 100000 in
theorem lifted (os : Os) (started : os.Started) (H : Type) (enc : TypeId × Value → H) :
    ReturnsInHanded {} Try.checked os 4 .any (Rows.joinOwnsSpec.pre6 enc Try.prog Try.f4 Rows.joinOwnsRow.domain false) (Rows.joinOwnsSpec.post enc Try.prog Try.f4 false true false false) := by
  refine returnsInHanded_of_change (C := Try.checked) own started (by kernel_rfl) Try.func4
    (ChangeSpec.witness6 (enc := enc) (C := Try.checked) false ⟨#[], #[.agg #[.int .i64 0, .int .i64 0, .int .i64 0, .int .i64 0, .int .u64 0], .slice none 0 0, .agg #[.int .i64 0, .int .i64 0, .int .i64 0, .int .u64 0, .int .i64 0, .slice none 0 0]], []⟩ 8 (by kernel_rfl) (by kernel_rfl) (by kernel_rfl) (by kernel_rfl)) ?_
  intro W base args ds gs before hval0 hW hcnd _
  have hval : ∀ (j : Nat) t v, Try.f4.params[j]? = some t → args[j]? = some v → Value.okWide Try.prog W .any base t v := hval0
  have hW' := hW
  obtain ⟨p, q, hA0, hV, rfl, hfz, hnd⟩ := hW
  have hA : DataW.TrodAll enc Try.prog W 0 (fun _ => true) true Try.f4.params.toList args.toList ds p := hA0
  rw [Try.params4] at hA hval
  obtain ⟨v0, vs0, d0, ds0, p0, q0, hargs, rfl, rfl, h0, r0⟩ := trodAll_cons hA
  obtain ⟨v1, vs1, d1, ds1, p1, q1, rfl, rfl, rfl, h1, r1⟩ := trodAll_cons r0
  obtain ⟨v2, vs2, d2, ds2, p2, q2, rfl, rfl, rfl, h2, r2⟩ := trodAll_cons r1
  obtain ⟨rfl, rfl, rfl⟩ := trodAll_nil r2
  obtain rfl : args = #[v0, v1, v2] := by cases args; simp_all
  obtain ⟨rfl, rfl⟩ := trodVars_none hV
  have k0 := h0
  have lt0 : ∀ x ∈ p0, x.block < W.heap.size := by obtain ⟨m, hm⟩ := k0; exact DataW.trod_lt m _ _ _ hm
  have k1 := h1
  have lt1 : ∀ x ∈ p1, x.block < W.heap.size := by obtain ⟨m, hm⟩ := k1; exact DataW.trod_lt m _ _ _ hm
  have k2 := h2
  have lt2 : ∀ x ∈ p2, x.block < W.heap.size := by obtain ⟨m, hm⟩ := k2; exact DataW.trod_lt m _ _ _ hm
  refine (walk W (hval 0 24 v0 rfl rfl) h0 (hval 1 25 v1 rfl rfl) h1 (hval 2 28 v2 rfl rfl) h2).mono fun e W' ⟨he, bel⟩ => ?_
  subst he
  exact ⟨_, rfl, _, _, _, [], _, [], hW', trodAll_mk1 (shut_bool Try.underlying4 _), (trodAll_cons_mk (Below.trod laidOut (by kernel_rfl) (of_decide_eq_true (by kernel_rfl)) k0 bel lt0) (trodAll_cons_mk (Below.trod laidOut (by kernel_rfl) (of_decide_eq_true (by kernel_rfl)) k1 bel lt1) (trodAll_cons_mk (Below.trod laidOut (by kernel_rfl) (of_decide_eq_true (by kernel_rfl)) k2 bel lt2) trodAll_mk0))), rfl, bel.frame _, fun h => by cases h⟩

theorem JoinOwns_proved : Rows.JoinOwnsSaid :=
  OpenClaim.holds_of_wide 4 Try.f4 rfl rfl rfl rfl rfl rfl rfl ⟨rfl, rfl, rfl, rfl, rfl⟩ rfl rfl rfl rfl rfl (by kernel_rfl) Try.func4 (by kernel_rfl)
    (of_decide_eq_true (by kernel_rfl)) (by unfold Func.isWrapper; first | (rw [if_pos (by decide +kernel)]; kernel_rfl) | (rw [if_neg (by decide +kernel)]; exact ⟨rfl, rfl⟩))
    (fun os started H enc _ => lifted os started H enc)

end Go.Proofs.Ytcpmclidndmgeaa.joinOwns
