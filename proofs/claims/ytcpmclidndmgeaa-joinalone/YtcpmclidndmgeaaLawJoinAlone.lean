/-
  For every world's size, words and play, the law JoinAlone answers true: alone, what a join comes to is told by the status, and the number, of the other one; it is laid just if that is said, and nothing else is changed. Conditions: none.
-/
import Derived.Test.YtcpmclidndmgeaaRows
import Derived.Test.YtcpmclidndmgeaaK8
import Derived.Test.YtcpmclidndmgeaaK5
import Derived.Test.YtcpmclidndmgeaaK3
import Derived.WalkKit
import Derived.ProofKit
import Derived.OpenShut
import Derived.ShutString
import Derived.LoopTactic
import Derived.Lib.QuietBelow
import Derived.Deep.DeepCutAuto
namespace Go.Proofs.Ytcpmclidndmgeaa.joinAlone
set_option maxRecDepth 100000
open Go.ChangeShapes Go.WideShapes Go.ChangeAt Go.RowKit Go.Sort
set_option linter.unusedVariables false
set_option linter.unusedSimpArgs false

theorem own : ownKnob Try.prog.godebug = none := by kernel_rfl
theorem laidOut : laidOutB Try.prog = true := by kernel_rfl

theorem isWords_words {W : World} {v : Value} {n : Nat} {ws : Nat → Nat} (h : IsWords W v n ws) : ∀ i, i < n → Um.Word (ws i) := by
  rcases h with ⟨_, _, _, e⟩ | ⟨_, _, _, _, _, _, _, _, e⟩
  · intro i hi; omega
  · exact fun i hi => (e i hi).2

set_option maxHeartbeats 2000000 in
theorem walk_wrong (w : World) (c : Um.Cf) (a : Option Addr) (n cap : Nat) (sl sd b : Int) (sn : Nat) (st : Int) (la : Option Addr) (nl cl : Nat) (h : c.r = false) :
    Calls Try.prog 5 #[(.agg #[.int .i64 (c.t), .int .i64 (c.s), .int .i64 (c.k), .int .i64 (c.g), .int .u64 (c.q : Int)]), .slice a n cap, .agg #[.int .i64 sl, .int .i64 sd, .int .i64 b, .int .u64 (sn : Nat), .int .i64 st, .slice la nl cl]] w fun e w' => e = .returned (.bool true) ∧ Below w.heap.size w w' := by
  have HL := hide (fun w => lOf_wrong c a n cap w h)
  clear h
  have hS := Sx.new w
  go_enter Try.func5, Try.ntmps5
  go_wp2_with (first | (refine wpx_box hS rfl _ _ rfl _ rfl _ (by intro _; simp only [Act.put, sx1, sx2, sx3]; first | done | exact rfl) ?_; clear hS; intro _ _ hS; dsimp only [blit, List.set, sx4, sx5, Value.cells, sx6] at hS) | (refine wpx_alloc hS rfl _ rfl _ (zer_any2 rfl) _ (by intro _; simp only [Act.put, sx1, sx2, sx3]; first | done | exact rfl) ?_; clear hS; intro _ _ hS; dsimp only [blit, List.set, sx4, sx5, Value.cells, sx6] at hS) | (refine wpx_ld hS rfl _ _ rfl _ _ rfl ?_; (repeat (first | refine sxh ?_ | refine sxn ?_)); first | refine .inl ⟨_, one_any2 rfl, rfl, _, (by simp only [Act.put, sx1, sx2, sx3]; first | done | exact rfl), ?_⟩ | refine .inr ⟨_, _, row_any2 rfl, rfl, (by dsimp only [cutL, List.drop, List.take]; first | done | exact rfl), _, (by simp only [Act.put, sx1, sx2, sx3]; first | done | exact rfl), ?_⟩) | (refine wpx_st hS rfl _ _ _ rfl rfl _ _ rfl ?_; (repeat (first | refine sxh ?_ | refine sxn ?_)); refine ⟨_, (by first | exact shA rfl | exact shI rfl | exact shB rfl | exact shS rfl | exact shP rfl | exact shF rfl | exact shN rfl), _, siz_any2 rfl, (by exact rfl), (by exact rfl), (by exact rfl), ?_⟩; clear hS; intro _ hS; dsimp only [blit, List.set, sx4, sx5, Value.cells, sx6] at hS))
  refine ((unhide HL) _).mono ?_
  rintro r u ⟨rfl, hb⟩
  replace hS := hS.call hb
  clear hb HL
  go_wp2_with (first | (refine wpx_box hS rfl _ _ rfl _ rfl _ (by intro _; simp only [Act.put, sx1, sx2, sx3]; first | done | exact rfl) ?_; clear hS; intro _ _ hS; dsimp only [blit, List.set, sx4, sx5, Value.cells, sx6] at hS) | (refine wpx_alloc hS rfl _ rfl _ (zer_any2 rfl) _ (by intro _; simp only [Act.put, sx1, sx2, sx3]; first | done | exact rfl) ?_; clear hS; intro _ _ hS; dsimp only [blit, List.set, sx4, sx5, Value.cells, sx6] at hS) | (refine wpx_ld hS rfl _ _ rfl _ _ rfl ?_; (repeat (first | refine sxh ?_ | refine sxn ?_)); first | refine .inl ⟨_, one_any2 rfl, rfl, _, (by simp only [Act.put, sx1, sx2, sx3]; first | done | exact rfl), ?_⟩ | refine .inr ⟨_, _, row_any2 rfl, rfl, (by dsimp only [cutL, List.drop, List.take]; first | done | exact rfl), _, (by simp only [Act.put, sx1, sx2, sx3]; first | done | exact rfl), ?_⟩) | (refine wpx_st hS rfl _ _ _ rfl rfl _ _ rfl ?_; (repeat (first | refine sxh ?_ | refine sxn ?_)); refine ⟨_, (by first | exact shA rfl | exact shI rfl | exact shB rfl | exact shS rfl | exact shP rfl | exact shF rfl | exact shN rfl), _, siz_any2 rfl, (by exact rfl), (by exact rfl), (by exact rfl), ?_⟩; clear hS; intro _ hS; dsimp only [blit, List.set, sx4, sx5, Value.cells, sx6] at hS))
  refine (jAlive_any _).mono ?_
  rintro r u ⟨rfl, hb⟩
  replace hS := hS.call hb
  have hB := hS.bel
  clear hb hS
  go_wp2
  go_ret
  exact ⟨rfl, hB⟩

set_option maxHeartbeats 2000000 in
theorem walk_short (w : World) (c : Um.Cf) (a : Option Addr) (n cap : Nat) (sl sd b : Int) (sn : Nat) (st : Int) (la : Option Addr) (nl cl : Nat) (h : c.r = true) (hn : n ≠ c.n) :
    Calls Try.prog 5 #[(.agg #[.int .i64 (c.t), .int .i64 (c.s), .int .i64 (c.k), .int .i64 (c.g), .int .u64 (c.q : Int)]), .slice a n cap, .agg #[.int .i64 sl, .int .i64 sd, .int .i64 b, .int .u64 (sn : Nat), .int .i64 st, .slice la nl cl]] w fun e w' => e = .returned (.bool true) ∧ Below w.heap.size w w' := by
  have HL := hide (fun w => lOf_short c a n cap w h hn)
  clear h hn
  have hS := Sx.new w
  go_enter Try.func5, Try.ntmps5
  go_wp2_with (first | (refine wpx_box hS rfl _ _ rfl _ rfl _ (by intro _; simp only [Act.put, sx1, sx2, sx3]; first | done | exact rfl) ?_; clear hS; intro _ _ hS; dsimp only [blit, List.set, sx4, sx5, Value.cells, sx6] at hS) | (refine wpx_alloc hS rfl _ rfl _ (zer_any2 rfl) _ (by intro _; simp only [Act.put, sx1, sx2, sx3]; first | done | exact rfl) ?_; clear hS; intro _ _ hS; dsimp only [blit, List.set, sx4, sx5, Value.cells, sx6] at hS) | (refine wpx_ld hS rfl _ _ rfl _ _ rfl ?_; (repeat (first | refine sxh ?_ | refine sxn ?_)); first | refine .inl ⟨_, one_any2 rfl, rfl, _, (by simp only [Act.put, sx1, sx2, sx3]; first | done | exact rfl), ?_⟩ | refine .inr ⟨_, _, row_any2 rfl, rfl, (by dsimp only [cutL, List.drop, List.take]; first | done | exact rfl), _, (by simp only [Act.put, sx1, sx2, sx3]; first | done | exact rfl), ?_⟩) | (refine wpx_st hS rfl _ _ _ rfl rfl _ _ rfl ?_; (repeat (first | refine sxh ?_ | refine sxn ?_)); refine ⟨_, (by first | exact shA rfl | exact shI rfl | exact shB rfl | exact shS rfl | exact shP rfl | exact shF rfl | exact shN rfl), _, siz_any2 rfl, (by exact rfl), (by exact rfl), (by exact rfl), ?_⟩; clear hS; intro _ hS; dsimp only [blit, List.set, sx4, sx5, Value.cells, sx6] at hS))
  refine ((unhide HL) _).mono ?_
  rintro r u ⟨rfl, hb⟩
  replace hS := hS.call hb
  clear hb HL
  go_wp2_with (first | (refine wpx_box hS rfl _ _ rfl _ rfl _ (by intro _; simp only [Act.put, sx1, sx2, sx3]; first | done | exact rfl) ?_; clear hS; intro _ _ hS; dsimp only [blit, List.set, sx4, sx5, Value.cells, sx6] at hS) | (refine wpx_alloc hS rfl _ rfl _ (zer_any2 rfl) _ (by intro _; simp only [Act.put, sx1, sx2, sx3]; first | done | exact rfl) ?_; clear hS; intro _ _ hS; dsimp only [blit, List.set, sx4, sx5, Value.cells, sx6] at hS) | (refine wpx_ld hS rfl _ _ rfl _ _ rfl ?_; (repeat (first | refine sxh ?_ | refine sxn ?_)); first | refine .inl ⟨_, one_any2 rfl, rfl, _, (by simp only [Act.put, sx1, sx2, sx3]; first | done | exact rfl), ?_⟩ | refine .inr ⟨_, _, row_any2 rfl, rfl, (by dsimp only [cutL, List.drop, List.take]; first | done | exact rfl), _, (by simp only [Act.put, sx1, sx2, sx3]; first | done | exact rfl), ?_⟩) | (refine wpx_st hS rfl _ _ _ rfl rfl _ _ rfl ?_; (repeat (first | refine sxh ?_ | refine sxn ?_)); refine ⟨_, (by first | exact shA rfl | exact shI rfl | exact shB rfl | exact shS rfl | exact shP rfl | exact shF rfl | exact shN rfl), _, siz_any2 rfl, (by exact rfl), (by exact rfl), (by exact rfl), ?_⟩; clear hS; intro _ hS; dsimp only [blit, List.set, sx4, sx5, Value.cells, sx6] at hS))
  refine (jAlive_any _).mono ?_
  rintro r u ⟨rfl, hb⟩
  replace hS := hS.call hb
  have hB := hS.bel
  clear hb hS
  go_wp2
  go_ret
  exact ⟨rfl, hB⟩

set_option maxHeartbeats 2000000 in
theorem walk_out0 (w : World) (c : Um.Cf) (v : Value) (ws : Nat → Nat) (sl sd b : Int) (sn : Nat) (st : Int) (la : Option Addr) (nl cl : Nat) (h : c.r = true) (hv : IsWords w v c.n ws) (h0 : sl < 0) :
    Calls Try.prog 5 #[(.agg #[.int .i64 (c.t), .int .i64 (c.s), .int .i64 (c.k), .int .i64 (c.g), .int .u64 (c.q : Int)]), v, .agg #[.int .i64 sl, .int .i64 sd, .int .i64 b, .int .u64 (sn : Nat), .int .i64 st, .slice la nl cl]] w fun e w' => e = .returned (.bool true) ∧ Below w.heap.size w w' := by
  have d0 : decide (sl < 0) = true := decide_eq_true h0
  have HR := hide h
  have HV := hide hv
  obtain ⟨sv, scap, rfl⟩ := words_len hv
  clear hv h
  have hS := Sx.new w
  go_enter Try.func5, Try.ntmps5
  go_wp2_with (first | (refine wpx_box hS rfl _ _ rfl _ rfl _ (by intro _; simp only [Act.put, sx1, sx2, sx3]; first | done | exact rfl) ?_; clear hS; intro _ _ hS; dsimp only [blit, List.set, sx4, sx5, Value.cells, sx6] at hS) | (refine wpx_alloc hS rfl _ rfl _ (zer_any2 rfl) _ (by intro _; simp only [Act.put, sx1, sx2, sx3]; first | done | exact rfl) ?_; clear hS; intro _ _ hS; dsimp only [blit, List.set, sx4, sx5, Value.cells, sx6] at hS) | (refine wpx_ld hS rfl _ _ rfl _ _ rfl ?_; (repeat (first | refine sxh ?_ | refine sxn ?_)); first | refine .inl ⟨_, one_any2 rfl, rfl, _, (by simp only [Act.put, sx1, sx2, sx3]; first | done | exact rfl), ?_⟩ | refine .inr ⟨_, _, row_any2 rfl, rfl, (by dsimp only [cutL, List.drop, List.take]; first | done | exact rfl), _, (by simp only [Act.put, sx1, sx2, sx3]; first | done | exact rfl), ?_⟩) | (refine wpx_st hS rfl _ _ _ rfl rfl _ _ rfl ?_; (repeat (first | refine sxh ?_ | refine sxn ?_)); refine ⟨_, (by first | exact shA rfl | exact shI rfl | exact shB rfl | exact shS rfl | exact shP rfl | exact shF rfl | exact shN rfl), _, siz_any2 rfl, (by exact rfl), (by exact rfl), (by exact rfl), ?_⟩; clear hS; intro _ hS; dsimp only [blit, List.set, sx4, sx5, Value.cells, sx6] at hS))
  refine (lOf_x hS c _ ws (unhide HR) (((unhide HV).low.below hS.bel).is hS.bel.size)).mono ?_
  rintro r u ⟨B, C, g, cg, rfl, hc1, hc2, hWn, hSn⟩
  clear hS
  have hS := hSn
  clear hSn
  dsimp only [putL, List.set, List.cons_append, List.nil_append] at hS
  have HW0 := hide hWn
  clear hWn
  go_upto_region 2 with (first | (refine wpx_box hS rfl _ _ rfl _ rfl _ (by intro _; simp only [Act.put, sx1, sx2, sx3]; first | done | exact rfl) ?_; clear hS; intro _ _ hS; dsimp only [blit, List.set, sx4, sx5, Value.cells, sx6] at hS) | (refine wpx_alloc hS rfl _ rfl _ (zer_any2 rfl) _ (by intro _; simp only [Act.put, sx1, sx2, sx3]; first | done | exact rfl) ?_; clear hS; intro _ _ hS; dsimp only [blit, List.set, sx4, sx5, Value.cells, sx6] at hS) | (refine wpx_ld hS rfl _ _ rfl _ _ rfl ?_; (repeat (first | refine sxh ?_ | refine sxn ?_)); first | refine .inl ⟨_, one_any2 rfl, rfl, _, (by simp only [Act.put, sx1, sx2, sx3]; first | done | exact rfl), ?_⟩ | refine .inr ⟨_, _, row_any2 rfl, rfl, (by dsimp only [cutL, List.drop, List.take]; first | done | exact rfl), _, (by simp only [Act.put, sx1, sx2, sx3]; first | done | exact rfl), ?_⟩) | (refine wpx_st hS rfl _ _ _ rfl rfl _ _ rfl ?_; (repeat (first | refine sxh ?_ | refine sxn ?_)); refine ⟨_, (by first | exact shA rfl | exact shI rfl | exact shB rfl | exact shS rfl | exact shP rfl | exact shF rfl | exact shN rfl), _, siz_any2 rfl, (by exact rfl), (by exact rfl), (by exact rfl), ?_⟩; clear hS; intro _ hS; dsimp only [blit, List.set, sx4, sx5, Value.cells, sx6] at hS))
  have k0 := (hS.get 1 rfl).cell 0 _ rfl
  have k1 := (hS.get 1 rfl).cell 1 _ rfl
  have k2 := (hS.get 1 rfl).cell 2 _ rfl
  have k3 := (hS.get 0 rfl).cell 1 _ rfl
  go_wp2_with fail
  refine (jAlive_any _).mono ?_
  rintro r u ⟨rfl, hb⟩
  replace hS := hS.call hb
  have hB := hS.bel
  clear hb hS
  go_wp2
  go_ret
  exact ⟨rfl, hB⟩

set_option maxHeartbeats 2000000 in
theorem walk_out1 (w : World) (c : Um.Cf) (v : Value) (ws : Nat → Nat) (sl sd b : Int) (sn : Nat) (st : Int) (la : Option Addr) (nl cl : Nat) (h : c.r = true) (hv : IsWords w v c.n ws) (h0 : ¬ sl < 0) (h1 : c.s ≤ sl) :
    Calls Try.prog 5 #[(.agg #[.int .i64 (c.t), .int .i64 (c.s), .int .i64 (c.k), .int .i64 (c.g), .int .u64 (c.q : Int)]), v, .agg #[.int .i64 sl, .int .i64 sd, .int .i64 b, .int .u64 (sn : Nat), .int .i64 st, .slice la nl cl]] w fun e w' => e = .returned (.bool true) ∧ Below w.heap.size w w' := by
  have d0 : decide (sl < 0) = false := decide_eq_false h0
  have d1 : decide (c.s ≤ sl) = true := decide_eq_true h1
  have HR := hide h
  have HV := hide hv
  obtain ⟨sv, scap, rfl⟩ := words_len hv
  clear hv h
  have hS := Sx.new w
  go_enter Try.func5, Try.ntmps5
  go_wp2_with (first | (refine wpx_box hS rfl _ _ rfl _ rfl _ (by intro _; simp only [Act.put, sx1, sx2, sx3]; first | done | exact rfl) ?_; clear hS; intro _ _ hS; dsimp only [blit, List.set, sx4, sx5, Value.cells, sx6] at hS) | (refine wpx_alloc hS rfl _ rfl _ (zer_any2 rfl) _ (by intro _; simp only [Act.put, sx1, sx2, sx3]; first | done | exact rfl) ?_; clear hS; intro _ _ hS; dsimp only [blit, List.set, sx4, sx5, Value.cells, sx6] at hS) | (refine wpx_ld hS rfl _ _ rfl _ _ rfl ?_; (repeat (first | refine sxh ?_ | refine sxn ?_)); first | refine .inl ⟨_, one_any2 rfl, rfl, _, (by simp only [Act.put, sx1, sx2, sx3]; first | done | exact rfl), ?_⟩ | refine .inr ⟨_, _, row_any2 rfl, rfl, (by dsimp only [cutL, List.drop, List.take]; first | done | exact rfl), _, (by simp only [Act.put, sx1, sx2, sx3]; first | done | exact rfl), ?_⟩) | (refine wpx_st hS rfl _ _ _ rfl rfl _ _ rfl ?_; (repeat (first | refine sxh ?_ | refine sxn ?_)); refine ⟨_, (by first | exact shA rfl | exact shI rfl | exact shB rfl | exact shS rfl | exact shP rfl | exact shF rfl | exact shN rfl), _, siz_any2 rfl, (by exact rfl), (by exact rfl), (by exact rfl), ?_⟩; clear hS; intro _ hS; dsimp only [blit, List.set, sx4, sx5, Value.cells, sx6] at hS))
  refine (lOf_x hS c _ ws (unhide HR) (((unhide HV).low.below hS.bel).is hS.bel.size)).mono ?_
  rintro r u ⟨B, C, g, cg, rfl, hc1, hc2, hWn, hSn⟩
  clear hS
  have hS := hSn
  clear hSn
  dsimp only [putL, List.set, List.cons_append, List.nil_append] at hS
  have HW0 := hide hWn
  clear hWn
  go_upto_region 2 with (first | (refine wpx_box hS rfl _ _ rfl _ rfl _ (by intro _; simp only [Act.put, sx1, sx2, sx3]; first | done | exact rfl) ?_; clear hS; intro _ _ hS; dsimp only [blit, List.set, sx4, sx5, Value.cells, sx6] at hS) | (refine wpx_alloc hS rfl _ rfl _ (zer_any2 rfl) _ (by intro _; simp only [Act.put, sx1, sx2, sx3]; first | done | exact rfl) ?_; clear hS; intro _ _ hS; dsimp only [blit, List.set, sx4, sx5, Value.cells, sx6] at hS) | (refine wpx_ld hS rfl _ _ rfl _ _ rfl ?_; (repeat (first | refine sxh ?_ | refine sxn ?_)); first | refine .inl ⟨_, one_any2 rfl, rfl, _, (by simp only [Act.put, sx1, sx2, sx3]; first | done | exact rfl), ?_⟩ | refine .inr ⟨_, _, row_any2 rfl, rfl, (by dsimp only [cutL, List.drop, List.take]; first | done | exact rfl), _, (by simp only [Act.put, sx1, sx2, sx3]; first | done | exact rfl), ?_⟩) | (refine wpx_st hS rfl _ _ _ rfl rfl _ _ rfl ?_; (repeat (first | refine sxh ?_ | refine sxn ?_)); refine ⟨_, (by first | exact shA rfl | exact shI rfl | exact shB rfl | exact shS rfl | exact shP rfl | exact shF rfl | exact shN rfl), _, siz_any2 rfl, (by exact rfl), (by exact rfl), (by exact rfl), ?_⟩; clear hS; intro _ hS; dsimp only [blit, List.set, sx4, sx5, Value.cells, sx6] at hS))
  have k0 := (hS.get 1 rfl).cell 0 _ rfl
  have k1 := (hS.get 1 rfl).cell 1 _ rfl
  have k2 := (hS.get 1 rfl).cell 2 _ rfl
  have k3 := (hS.get 0 rfl).cell 1 _ rfl
  go_wp2_with fail
  refine (jAlive_any _).mono ?_
  rintro r u ⟨rfl, hb⟩
  replace hS := hS.call hb
  have hB := hS.bel
  clear hb hS
  go_wp2
  go_ret
  exact ⟨rfl, hB⟩

set_option maxHeartbeats 2000000 in
theorem walk_out2 (w : World) (c : Um.Cf) (v : Value) (ws : Nat → Nat) (sl sd b : Int) (sn : Nat) (st : Int) (la : Option Addr) (nl cl : Nat) (h : c.r = true) (hv : IsWords w v c.n ws) (h0 : ¬ sl < 0) (h1 : ¬ c.s ≤ sl) (h2 : b < 0) :
    Calls Try.prog 5 #[(.agg #[.int .i64 (c.t), .int .i64 (c.s), .int .i64 (c.k), .int .i64 (c.g), .int .u64 (c.q : Int)]), v, .agg #[.int .i64 sl, .int .i64 sd, .int .i64 b, .int .u64 (sn : Nat), .int .i64 st, .slice la nl cl]] w fun e w' => e = .returned (.bool true) ∧ Below w.heap.size w w' := by
  have d0 : decide (sl < 0) = false := decide_eq_false h0
  have d1 : decide (c.s ≤ sl) = false := decide_eq_false h1
  have d2 : decide (b < 0) = true := decide_eq_true h2
  have HR := hide h
  have HV := hide hv
  obtain ⟨sv, scap, rfl⟩ := words_len hv
  clear hv h
  have hS := Sx.new w
  go_enter Try.func5, Try.ntmps5
  go_wp2_with (first | (refine wpx_box hS rfl _ _ rfl _ rfl _ (by intro _; simp only [Act.put, sx1, sx2, sx3]; first | done | exact rfl) ?_; clear hS; intro _ _ hS; dsimp only [blit, List.set, sx4, sx5, Value.cells, sx6] at hS) | (refine wpx_alloc hS rfl _ rfl _ (zer_any2 rfl) _ (by intro _; simp only [Act.put, sx1, sx2, sx3]; first | done | exact rfl) ?_; clear hS; intro _ _ hS; dsimp only [blit, List.set, sx4, sx5, Value.cells, sx6] at hS) | (refine wpx_ld hS rfl _ _ rfl _ _ rfl ?_; (repeat (first | refine sxh ?_ | refine sxn ?_)); first | refine .inl ⟨_, one_any2 rfl, rfl, _, (by simp only [Act.put, sx1, sx2, sx3]; first | done | exact rfl), ?_⟩ | refine .inr ⟨_, _, row_any2 rfl, rfl, (by dsimp only [cutL, List.drop, List.take]; first | done | exact rfl), _, (by simp only [Act.put, sx1, sx2, sx3]; first | done | exact rfl), ?_⟩) | (refine wpx_st hS rfl _ _ _ rfl rfl _ _ rfl ?_; (repeat (first | refine sxh ?_ | refine sxn ?_)); refine ⟨_, (by first | exact shA rfl | exact shI rfl | exact shB rfl | exact shS rfl | exact shP rfl | exact shF rfl | exact shN rfl), _, siz_any2 rfl, (by exact rfl), (by exact rfl), (by exact rfl), ?_⟩; clear hS; intro _ hS; dsimp only [blit, List.set, sx4, sx5, Value.cells, sx6] at hS))
  refine (lOf_x hS c _ ws (unhide HR) (((unhide HV).low.below hS.bel).is hS.bel.size)).mono ?_
  rintro r u ⟨B, C, g, cg, rfl, hc1, hc2, hWn, hSn⟩
  clear hS
  have hS := hSn
  clear hSn
  dsimp only [putL, List.set, List.cons_append, List.nil_append] at hS
  have HW0 := hide hWn
  clear hWn
  go_upto_region 2 with (first | (refine wpx_box hS rfl _ _ rfl _ rfl _ (by intro _; simp only [Act.put, sx1, sx2, sx3]; first | done | exact rfl) ?_; clear hS; intro _ _ hS; dsimp only [blit, List.set, sx4, sx5, Value.cells, sx6] at hS) | (refine wpx_alloc hS rfl _ rfl _ (zer_any2 rfl) _ (by intro _; simp only [Act.put, sx1, sx2, sx3]; first | done | exact rfl) ?_; clear hS; intro _ _ hS; dsimp only [blit, List.set, sx4, sx5, Value.cells, sx6] at hS) | (refine wpx_ld hS rfl _ _ rfl _ _ rfl ?_; (repeat (first | refine sxh ?_ | refine sxn ?_)); first | refine .inl ⟨_, one_any2 rfl, rfl, _, (by simp only [Act.put, sx1, sx2, sx3]; first | done | exact rfl), ?_⟩ | refine .inr ⟨_, _, row_any2 rfl, rfl, (by dsimp only [cutL, List.drop, List.take]; first | done | exact rfl), _, (by simp only [Act.put, sx1, sx2, sx3]; first | done | exact rfl), ?_⟩) | (refine wpx_st hS rfl _ _ _ rfl rfl _ _ rfl ?_; (repeat (first | refine sxh ?_ | refine sxn ?_)); refine ⟨_, (by first | exact shA rfl | exact shI rfl | exact shB rfl | exact shS rfl | exact shP rfl | exact shF rfl | exact shN rfl), _, siz_any2 rfl, (by exact rfl), (by exact rfl), (by exact rfl), ?_⟩; clear hS; intro _ hS; dsimp only [blit, List.set, sx4, sx5, Value.cells, sx6] at hS))
  have k0 := (hS.get 1 rfl).cell 0 _ rfl
  have k1 := (hS.get 1 rfl).cell 1 _ rfl
  have k2 := (hS.get 1 rfl).cell 2 _ rfl
  have k3 := (hS.get 0 rfl).cell 1 _ rfl
  go_wp2_with fail
  refine (jAlive_any _).mono ?_
  rintro r u ⟨rfl, hb⟩
  replace hS := hS.call hb
  have hB := hS.bel
  clear hb hS
  go_wp2
  go_ret
  exact ⟨rfl, hB⟩

set_option maxHeartbeats 2000000 in
theorem walk_out3 (w : World) (c : Um.Cf) (v : Value) (ws : Nat → Nat) (sl sd b : Int) (sn : Nat) (st : Int) (la : Option Addr) (nl cl : Nat) (h : c.r = true) (hv : IsWords w v c.n ws) (h0 : ¬ sl < 0) (h1 : ¬ c.s ≤ sl) (h2 : ¬ b < 0) (h3 : 11 < b) :
    Calls Try.prog 5 #[(.agg #[.int .i64 (c.t), .int .i64 (c.s), .int .i64 (c.k), .int .i64 (c.g), .int .u64 (c.q : Int)]), v, .agg #[.int .i64 sl, .int .i64 sd, .int .i64 b, .int .u64 (sn : Nat), .int .i64 st, .slice la nl cl]] w fun e w' => e = .returned (.bool true) ∧ Below w.heap.size w w' := by
  have d0 : decide (sl < 0) = false := decide_eq_false h0
  have d1 : decide (c.s ≤ sl) = false := decide_eq_false h1
  have d2 : decide (b < 0) = false := decide_eq_false h2
  have d3 : decide (11 < b) = true := decide_eq_true h3
  have HR := hide h
  have HV := hide hv
  obtain ⟨sv, scap, rfl⟩ := words_len hv
  clear hv h
  have hS := Sx.new w
  go_enter Try.func5, Try.ntmps5
  go_wp2_with (first | (refine wpx_box hS rfl _ _ rfl _ rfl _ (by intro _; simp only [Act.put, sx1, sx2, sx3]; first | done | exact rfl) ?_; clear hS; intro _ _ hS; dsimp only [blit, List.set, sx4, sx5, Value.cells, sx6] at hS) | (refine wpx_alloc hS rfl _ rfl _ (zer_any2 rfl) _ (by intro _; simp only [Act.put, sx1, sx2, sx3]; first | done | exact rfl) ?_; clear hS; intro _ _ hS; dsimp only [blit, List.set, sx4, sx5, Value.cells, sx6] at hS) | (refine wpx_ld hS rfl _ _ rfl _ _ rfl ?_; (repeat (first | refine sxh ?_ | refine sxn ?_)); first | refine .inl ⟨_, one_any2 rfl, rfl, _, (by simp only [Act.put, sx1, sx2, sx3]; first | done | exact rfl), ?_⟩ | refine .inr ⟨_, _, row_any2 rfl, rfl, (by dsimp only [cutL, List.drop, List.take]; first | done | exact rfl), _, (by simp only [Act.put, sx1, sx2, sx3]; first | done | exact rfl), ?_⟩) | (refine wpx_st hS rfl _ _ _ rfl rfl _ _ rfl ?_; (repeat (first | refine sxh ?_ | refine sxn ?_)); refine ⟨_, (by first | exact shA rfl | exact shI rfl | exact shB rfl | exact shS rfl | exact shP rfl | exact shF rfl | exact shN rfl), _, siz_any2 rfl, (by exact rfl), (by exact rfl), (by exact rfl), ?_⟩; clear hS; intro _ hS; dsimp only [blit, List.set, sx4, sx5, Value.cells, sx6] at hS))
  refine (lOf_x hS c _ ws (unhide HR) (((unhide HV).low.below hS.bel).is hS.bel.size)).mono ?_
  rintro r u ⟨B, C, g, cg, rfl, hc1, hc2, hWn, hSn⟩
  clear hS
  have hS := hSn
  clear hSn
  dsimp only [putL, List.set, List.cons_append, List.nil_append] at hS
  have HW0 := hide hWn
  clear hWn
  go_upto_region 2 with (first | (refine wpx_box hS rfl _ _ rfl _ rfl _ (by intro _; simp only [Act.put, sx1, sx2, sx3]; first | done | exact rfl) ?_; clear hS; intro _ _ hS; dsimp only [blit, List.set, sx4, sx5, Value.cells, sx6] at hS) | (refine wpx_alloc hS rfl _ rfl _ (zer_any2 rfl) _ (by intro _; simp only [Act.put, sx1, sx2, sx3]; first | done | exact rfl) ?_; clear hS; intro _ _ hS; dsimp only [blit, List.set, sx4, sx5, Value.cells, sx6] at hS) | (refine wpx_ld hS rfl _ _ rfl _ _ rfl ?_; (repeat (first | refine sxh ?_ | refine sxn ?_)); first | refine .inl ⟨_, one_any2 rfl, rfl, _, (by simp only [Act.put, sx1, sx2, sx3]; first | done | exact rfl), ?_⟩ | refine .inr ⟨_, _, row_any2 rfl, rfl, (by dsimp only [cutL, List.drop, List.take]; first | done | exact rfl), _, (by simp only [Act.put, sx1, sx2, sx3]; first | done | exact rfl), ?_⟩) | (refine wpx_st hS rfl _ _ _ rfl rfl _ _ rfl ?_; (repeat (first | refine sxh ?_ | refine sxn ?_)); refine ⟨_, (by first | exact shA rfl | exact shI rfl | exact shB rfl | exact shS rfl | exact shP rfl | exact shF rfl | exact shN rfl), _, siz_any2 rfl, (by exact rfl), (by exact rfl), (by exact rfl), ?_⟩; clear hS; intro _ hS; dsimp only [blit, List.set, sx4, sx5, Value.cells, sx6] at hS))
  have k0 := (hS.get 1 rfl).cell 0 _ rfl
  have k1 := (hS.get 1 rfl).cell 1 _ rfl
  have k2 := (hS.get 1 rfl).cell 2 _ rfl
  have k3 := (hS.get 0 rfl).cell 1 _ rfl
  go_wp2_with fail
  refine (jAlive_any _).mono ?_
  rintro r u ⟨rfl, hb⟩
  replace hS := hS.call hb
  have hB := hS.bel
  clear hb hS
  go_wp2
  go_ret
  exact ⟨rfl, hB⟩

set_option maxHeartbeats 2000000 in
theorem walk_out4 (w : World) (c : Um.Cf) (v : Value) (ws : Nat → Nat) (sl sd b : Int) (sn : Nat) (st : Int) (la : Option Addr) (nl cl : Nat) (h : c.r = true) (hv : IsWords w v c.n ws) (h0 : ¬ sl < 0) (h1 : ¬ c.s ≤ sl) (h2 : ¬ b < 0) (h3 : ¬ 11 < b) (h4 : sd < 0) :
    Calls Try.prog 5 #[(.agg #[.int .i64 (c.t), .int .i64 (c.s), .int .i64 (c.k), .int .i64 (c.g), .int .u64 (c.q : Int)]), v, .agg #[.int .i64 sl, .int .i64 sd, .int .i64 b, .int .u64 (sn : Nat), .int .i64 st, .slice la nl cl]] w fun e w' => e = .returned (.bool true) ∧ Below w.heap.size w w' := by
  have d0 : decide (sl < 0) = false := decide_eq_false h0
  have d1 : decide (c.s ≤ sl) = false := decide_eq_false h1
  have d2 : decide (b < 0) = false := decide_eq_false h2
  have d3 : decide (11 < b) = false := decide_eq_false h3
  have d4 : decide (sd < 0) = true := decide_eq_true h4
  have HR := hide h
  have HV := hide hv
  obtain ⟨sv, scap, rfl⟩ := words_len hv
  clear hv h
  have hS := Sx.new w
  go_enter Try.func5, Try.ntmps5
  go_wp2_with (first | (refine wpx_box hS rfl _ _ rfl _ rfl _ (by intro _; simp only [Act.put, sx1, sx2, sx3]; first | done | exact rfl) ?_; clear hS; intro _ _ hS; dsimp only [blit, List.set, sx4, sx5, Value.cells, sx6] at hS) | (refine wpx_alloc hS rfl _ rfl _ (zer_any2 rfl) _ (by intro _; simp only [Act.put, sx1, sx2, sx3]; first | done | exact rfl) ?_; clear hS; intro _ _ hS; dsimp only [blit, List.set, sx4, sx5, Value.cells, sx6] at hS) | (refine wpx_ld hS rfl _ _ rfl _ _ rfl ?_; (repeat (first | refine sxh ?_ | refine sxn ?_)); first | refine .inl ⟨_, one_any2 rfl, rfl, _, (by simp only [Act.put, sx1, sx2, sx3]; first | done | exact rfl), ?_⟩ | refine .inr ⟨_, _, row_any2 rfl, rfl, (by dsimp only [cutL, List.drop, List.take]; first | done | exact rfl), _, (by simp only [Act.put, sx1, sx2, sx3]; first | done | exact rfl), ?_⟩) | (refine wpx_st hS rfl _ _ _ rfl rfl _ _ rfl ?_; (repeat (first | refine sxh ?_ | refine sxn ?_)); refine ⟨_, (by first | exact shA rfl | exact shI rfl | exact shB rfl | exact shS rfl | exact shP rfl | exact shF rfl | exact shN rfl), _, siz_any2 rfl, (by exact rfl), (by exact rfl), (by exact rfl), ?_⟩; clear hS; intro _ hS; dsimp only [blit, List.set, sx4, sx5, Value.cells, sx6] at hS))
  refine (lOf_x hS c _ ws (unhide HR) (((unhide HV).low.below hS.bel).is hS.bel.size)).mono ?_
  rintro r u ⟨B, C, g, cg, rfl, hc1, hc2, hWn, hSn⟩
  clear hS
  have hS := hSn
  clear hSn
  dsimp only [putL, List.set, List.cons_append, List.nil_append] at hS
  have HW0 := hide hWn
  clear hWn
  go_upto_region 2 with (first | (refine wpx_box hS rfl _ _ rfl _ rfl _ (by intro _; simp only [Act.put, sx1, sx2, sx3]; first | done | exact rfl) ?_; clear hS; intro _ _ hS; dsimp only [blit, List.set, sx4, sx5, Value.cells, sx6] at hS) | (refine wpx_alloc hS rfl _ rfl _ (zer_any2 rfl) _ (by intro _; simp only [Act.put, sx1, sx2, sx3]; first | done | exact rfl) ?_; clear hS; intro _ _ hS; dsimp only [blit, List.set, sx4, sx5, Value.cells, sx6] at hS) | (refine wpx_ld hS rfl _ _ rfl _ _ rfl ?_; (repeat (first | refine sxh ?_ | refine sxn ?_)); first | refine .inl ⟨_, one_any2 rfl, rfl, _, (by simp only [Act.put, sx1, sx2, sx3]; first | done | exact rfl), ?_⟩ | refine .inr ⟨_, _, row_any2 rfl, rfl, (by dsimp only [cutL, List.drop, List.take]; first | done | exact rfl), _, (by simp only [Act.put, sx1, sx2, sx3]; first | done | exact rfl), ?_⟩) | (refine wpx_st hS rfl _ _ _ rfl rfl _ _ rfl ?_; (repeat (first | refine sxh ?_ | refine sxn ?_)); refine ⟨_, (by first | exact shA rfl | exact shI rfl | exact shB rfl | exact shS rfl | exact shP rfl | exact shF rfl | exact shN rfl), _, siz_any2 rfl, (by exact rfl), (by exact rfl), (by exact rfl), ?_⟩; clear hS; intro _ hS; dsimp only [blit, List.set, sx4, sx5, Value.cells, sx6] at hS))
  have k0 := (hS.get 1 rfl).cell 0 _ rfl
  have k1 := (hS.get 1 rfl).cell 1 _ rfl
  have k2 := (hS.get 1 rfl).cell 2 _ rfl
  have k3 := (hS.get 0 rfl).cell 1 _ rfl
  go_wp2_with fail
  refine (jAlive_any _).mono ?_
  rintro r u ⟨rfl, hb⟩
  replace hS := hS.call hb
  have hB := hS.bel
  clear hb hS
  go_wp2
  go_ret
  exact ⟨rfl, hB⟩

set_option maxHeartbeats 2000000 in
theorem walk_out5 (w : World) (c : Um.Cf) (v : Value) (ws : Nat → Nat) (sl sd b : Int) (sn : Nat) (st : Int) (la : Option Addr) (nl cl : Nat) (h : c.r = true) (hv : IsWords w v c.n ws) (h0 : ¬ sl < 0) (h1 : ¬ c.s ≤ sl) (h2 : ¬ b < 0) (h3 : ¬ 11 < b) (h4 : ¬ sd < 0) (h5 : 1 < sd) :
    Calls Try.prog 5 #[(.agg #[.int .i64 (c.t), .int .i64 (c.s), .int .i64 (c.k), .int .i64 (c.g), .int .u64 (c.q : Int)]), v, .agg #[.int .i64 sl, .int .i64 sd, .int .i64 b, .int .u64 (sn : Nat), .int .i64 st, .slice la nl cl]] w fun e w' => e = .returned (.bool true) ∧ Below w.heap.size w w' := by
  have d0 : decide (sl < 0) = false := decide_eq_false h0
  have d1 : decide (c.s ≤ sl) = false := decide_eq_false h1
  have d2 : decide (b < 0) = false := decide_eq_false h2
  have d3 : decide (11 < b) = false := decide_eq_false h3
  have d4 : decide (sd < 0) = false := decide_eq_false h4
  have d5 : decide (1 < sd) = true := decide_eq_true h5
  have HR := hide h
  have HV := hide hv
  obtain ⟨sv, scap, rfl⟩ := words_len hv
  clear hv h
  have hS := Sx.new w
  go_enter Try.func5, Try.ntmps5
  go_wp2_with (first | (refine wpx_box hS rfl _ _ rfl _ rfl _ (by intro _; simp only [Act.put, sx1, sx2, sx3]; first | done | exact rfl) ?_; clear hS; intro _ _ hS; dsimp only [blit, List.set, sx4, sx5, Value.cells, sx6] at hS) | (refine wpx_alloc hS rfl _ rfl _ (zer_any2 rfl) _ (by intro _; simp only [Act.put, sx1, sx2, sx3]; first | done | exact rfl) ?_; clear hS; intro _ _ hS; dsimp only [blit, List.set, sx4, sx5, Value.cells, sx6] at hS) | (refine wpx_ld hS rfl _ _ rfl _ _ rfl ?_; (repeat (first | refine sxh ?_ | refine sxn ?_)); first | refine .inl ⟨_, one_any2 rfl, rfl, _, (by simp only [Act.put, sx1, sx2, sx3]; first | done | exact rfl), ?_⟩ | refine .inr ⟨_, _, row_any2 rfl, rfl, (by dsimp only [cutL, List.drop, List.take]; first | done | exact rfl), _, (by simp only [Act.put, sx1, sx2, sx3]; first | done | exact rfl), ?_⟩) | (refine wpx_st hS rfl _ _ _ rfl rfl _ _ rfl ?_; (repeat (first | refine sxh ?_ | refine sxn ?_)); refine ⟨_, (by first | exact shA rfl | exact shI rfl | exact shB rfl | exact shS rfl | exact shP rfl | exact shF rfl | exact shN rfl), _, siz_any2 rfl, (by exact rfl), (by exact rfl), (by exact rfl), ?_⟩; clear hS; intro _ hS; dsimp only [blit, List.set, sx4, sx5, Value.cells, sx6] at hS))
  refine (lOf_x hS c _ ws (unhide HR) (((unhide HV).low.below hS.bel).is hS.bel.size)).mono ?_
  rintro r u ⟨B, C, g, cg, rfl, hc1, hc2, hWn, hSn⟩
  clear hS
  have hS := hSn
  clear hSn
  dsimp only [putL, List.set, List.cons_append, List.nil_append] at hS
  have HW0 := hide hWn
  clear hWn
  go_upto_region 2 with (first | (refine wpx_box hS rfl _ _ rfl _ rfl _ (by intro _; simp only [Act.put, sx1, sx2, sx3]; first | done | exact rfl) ?_; clear hS; intro _ _ hS; dsimp only [blit, List.set, sx4, sx5, Value.cells, sx6] at hS) | (refine wpx_alloc hS rfl _ rfl _ (zer_any2 rfl) _ (by intro _; simp only [Act.put, sx1, sx2, sx3]; first | done | exact rfl) ?_; clear hS; intro _ _ hS; dsimp only [blit, List.set, sx4, sx5, Value.cells, sx6] at hS) | (refine wpx_ld hS rfl _ _ rfl _ _ rfl ?_; (repeat (first | refine sxh ?_ | refine sxn ?_)); first | refine .inl ⟨_, one_any2 rfl, rfl, _, (by simp only [Act.put, sx1, sx2, sx3]; first | done | exact rfl), ?_⟩ | refine .inr ⟨_, _, row_any2 rfl, rfl, (by dsimp only [cutL, List.drop, List.take]; first | done | exact rfl), _, (by simp only [Act.put, sx1, sx2, sx3]; first | done | exact rfl), ?_⟩) | (refine wpx_st hS rfl _ _ _ rfl rfl _ _ rfl ?_; (repeat (first | refine sxh ?_ | refine sxn ?_)); refine ⟨_, (by first | exact shA rfl | exact shI rfl | exact shB rfl | exact shS rfl | exact shP rfl | exact shF rfl | exact shN rfl), _, siz_any2 rfl, (by exact rfl), (by exact rfl), (by exact rfl), ?_⟩; clear hS; intro _ hS; dsimp only [blit, List.set, sx4, sx5, Value.cells, sx6] at hS))
  have k0 := (hS.get 1 rfl).cell 0 _ rfl
  have k1 := (hS.get 1 rfl).cell 1 _ rfl
  have k2 := (hS.get 1 rfl).cell 2 _ rfl
  have k3 := (hS.get 0 rfl).cell 1 _ rfl
  go_wp2_with fail
  refine (jAlive_any _).mono ?_
  rintro r u ⟨rfl, hb⟩
  replace hS := hS.call hb
  have hB := hS.bel
  clear hb hS
  go_wp2
  go_ret
  exact ⟨rfl, hB⟩

/-- a slot's word of whatever kind -/
theorem slot_cell {c : Um.Cf} {kd i : Int} (hp : 0 ≤ c.cl kd i) : ∃ n0 : Nat, (n0 : Int) = c.cl kd i ∧ n0 < c.n ∧ (c.cl kd i).toNat = n0 := ⟨(c.cl kd i).toNat, by omega, Um.Cf.cl_lt (by omega), rfl⟩

theorem slot_at (c : Um.Cf) {kd i : Int} {n0 : Nat} (hn : (n0 : Int) = c.cl kd i) (hb0 : -9223372036854775808 ≤ i) (hb1 : i ≤ 9223372036854775807) (W : World) :
    Calls Try.prog 21 #[(.agg #[.int .i64 (c.t), .int .i64 (c.s), .int .i64 (c.k), .int .i64 (c.g), .int .u64 (c.q : Int)]), (.agg #[.int .i64 kd, .int .i64 i])] W fun e w' => e = .returned (.int .i64 (n0 : Int)) ∧ Below W.heap.size W w' :=
  (cCell_any c.t c.s c.k c.g c.q kd i W hb0 hb1).mono (fun r w' h => ⟨h.1.trans (by rw [hn]; rfl), h.2⟩)

set_option maxRecDepth 100000 in
set_option maxHeartbeats 16000000 in
theorem walk_right (w : World) (c : Um.Cf) (v : Value) (ws : Nat → Nat) (sl sd b : Int) (sn : Nat) (st : Int) (la : Option Addr) (nl cl : Nat) (h : c.r = true) (hv : IsWords w v c.n ws) (h0 : ¬ sl < 0) (h1 : ¬ c.s ≤ sl) (h2 : ¬ b < 0) (h3 : ¬ 11 < b) (h4 : ¬ sd < 0) (h5 : ¬ 1 < sd) :
    Calls Try.prog 5 #[(.agg #[.int .i64 (c.t), .int .i64 (c.s), .int .i64 (c.k), .int .i64 (c.g), .int .u64 (c.q : Int)]), v, .agg #[.int .i64 sl, .int .i64 sd, .int .i64 b, .int .u64 (sn : Nat), .int .i64 st, .slice la nl cl]] w fun e w' => e = .returned (.bool true) ∧ Below w.heap.size w w' := by
  have d0 : decide (sl < 0) = false := decide_eq_false h0
  have d1 : decide (c.s ≤ sl) = false := decide_eq_false h1
  have d2 : decide (b < 0) = false := decide_eq_false h2
  have d3 : decide (11 < b) = false := decide_eq_false h3
  have d4 : decide (sd < 0) = false := decide_eq_false h4
  have d5 : decide (1 < sd) = false := decide_eq_false h5
  have hcb := c.rb h
  have h0s : 0 ≤ sl := by omega
  have h1s : sl < c.s := by omega
  have HBD := hide (show -9223372036854775808 ≤ sl ∧ sl ≤ 9223372036854775807 by omega)
  have HDD := hide (show -1 ≤ sd ∧ sd ≤ 2 by omega)
  obtain ⟨hc4, hc6⟩ := Um.slot_cells h h0s h1s
  obtain ⟨n4, e4, l4, t4⟩ := slot_cell hc4
  obtain ⟨n6, e6, l6, t6⟩ := slot_cell hc6
  have HCE4 := hide (fun W => slot_at c e4 (by omega) (by omega) W)
  have HCE6 := hide (fun W => slot_at c e6 (by omega) (by omega) W)
  have l4' : (n4 : Int) < (c.n : Int) := by omega
  have l6' : (n6 : Int) < (c.n : Int) := by omega
  obtain ⟨m0, hm0⟩ : ∃ m0 : Um.Mm, m0 = (⟨ws, 0, Um.noT⟩ : Um.Mm) := ⟨_, rfl⟩
  have hws0 : m0.ws = ws := by rw [hm0]
  obtain ⟨A, hA⟩ : ∃ A, A = Um.jit c sl sd b sn (Um.jnew m0) 20 := ⟨_, rfl⟩
  obtain ⟨a1, a2, a3, a4⟩ := Um.alone11 h h0s h1s m0 A hA
  rw [hws0, t4, t6] at a1
  rw [hws0] at a2 a3
  have HA1 := hide a1
  have HA2 := hide a2
  have HA3 := hide a3
  have HA4 := hide a4
  have HH := hide hA
  have HWW := hide (isWords_words hv)
  have HT1 := hide (show sd = 0 ∨ sd = 1 by omega)
  clear a1 a2 a3 a4 hA hcb hc4 hc6 e4 e6 t4 t6 h2 h3 h4 h5 h0 h1
  have hn := c.n_le
  have hn8 := Um.Cf.n_pos h
  have hX : ∃ g0 off cap, v = .slice (some ⟨g0, off, none⟩) c.n cap ∧ c.n ≤ cap ∧ g0 < w.heap.size ∧ ∀ j, j < c.n → w.cell? ⟨g0, off + j, none⟩ = some (.int .u64 (ws j)) := by
    rcases hv with ⟨_, _, _, e⟩ | ⟨g0, off, cap, e, _, e1, _, e2, e3⟩
    · omega
    · exact ⟨g0, off, cap, e, e1, e2, fun j hj => (e3 j hj).1⟩
  have HV := hide hv
  have HR := hide h
  obtain ⟨g0, off, scap, rfl, hcap, hg0, hxs⟩ := hX
  have HX0 := hide hxs
  clear h hxs
  clear hv
  have hS := Sx.new w
  go_enter Try.func5, Try.ntmps5
  go_wp2_with (first | (refine wpx_box hS rfl _ _ rfl _ rfl _ (by intro _; simp only [Act.put, sx1, sx2, sx3]; first | done | exact rfl) ?_; clear hS; intro _ _ hS; dsimp only [blit, List.set, sx4, sx5, Value.cells, sx6] at hS) | (refine wpx_alloc hS rfl _ rfl _ (zer_any2 rfl) _ (by intro _; simp only [Act.put, sx1, sx2, sx3]; first | done | exact rfl) ?_; clear hS; intro _ _ hS; dsimp only [blit, List.set, sx4, sx5, Value.cells, sx6] at hS) | (refine wpx_ld hS rfl _ _ rfl _ _ rfl ?_; (repeat (first | refine sxh ?_ | refine sxn ?_)); first | refine .inl ⟨_, one_any2 rfl, rfl, _, (by simp only [Act.put, sx1, sx2, sx3]; first | done | exact rfl), ?_⟩ | refine .inr ⟨_, _, row_any2 rfl, rfl, (by dsimp only [cutL, List.drop, List.take]; first | done | exact rfl), _, (by simp only [Act.put, sx1, sx2, sx3]; first | done | exact rfl), ?_⟩) | (refine wpx_st hS rfl _ _ _ rfl rfl _ _ rfl ?_; (repeat (first | refine sxh ?_ | refine sxn ?_)); refine ⟨_, (by first | exact shA rfl | exact shI rfl | exact shB rfl | exact shS rfl | exact shP rfl | exact shF rfl | exact shN rfl), _, siz_any2 rfl, (by exact rfl), (by exact rfl), (by exact rfl), ?_⟩; clear hS; intro _ hS; dsimp only [blit, List.set, sx4, sx5, Value.cells, sx6] at hS))
  refine (lOf_x hS c _ ws (unhide HR) (((unhide HV).low.below hS.bel).is hS.bel.size)).mono ?_
  rintro r u ⟨B, C, g, cg, rfl, hc1, hc2, hWn, hSn⟩
  clear hS
  have hS := hSn
  clear hSn
  dsimp only [putL, List.set, List.cons_append, List.nil_append] at hS
  have HW0 := hide hWn
  clear hWn
  go_wp2_with (first | (refine wpx_box hS rfl _ _ rfl _ rfl _ (by intro _; simp only [Act.put, sx1, sx2, sx3]; first | done | exact rfl) ?_; clear hS; intro _ _ hS; dsimp only [blit, List.set, sx4, sx5, Value.cells, sx6] at hS) | (refine wpx_alloc hS rfl _ rfl _ (zer_any2 rfl) _ (by intro _; simp only [Act.put, sx1, sx2, sx3]; first | done | exact rfl) ?_; clear hS; intro _ _ hS; dsimp only [blit, List.set, sx4, sx5, Value.cells, sx6] at hS) | (refine wpx_ld hS rfl _ _ rfl _ _ rfl ?_; (repeat (first | refine sxh ?_ | refine sxn ?_)); first | refine .inl ⟨_, one_any2 rfl, rfl, _, (by simp only [Act.put, sx1, sx2, sx3]; first | done | exact rfl), ?_⟩ | refine .inr ⟨_, _, row_any2 rfl, rfl, (by dsimp only [cutL, List.drop, List.take]; first | done | exact rfl), _, (by simp only [Act.put, sx1, sx2, sx3]; first | done | exact rfl), ?_⟩) | (refine wpx_st hS rfl _ _ _ rfl rfl _ _ rfl ?_; (repeat (first | refine sxh ?_ | refine sxn ?_)); refine ⟨_, (by first | exact shA rfl | exact shI rfl | exact shB rfl | exact shS rfl | exact shP rfl | exact shF rfl | exact shN rfl), _, siz_any2 rfl, (by exact rfl), (by exact rfl), (by exact rfl), ?_⟩; clear hS; intro _ hS; dsimp only [blit, List.set, sx4, sx5, Value.cells, sx6] at hS))
  clear d0 d1 d2 d3 d4 d5
  have hC0 : (C, rowW ws c.n) = (C, rowW m0.ws c.n) := by rw [hws0]
  rw [hC0, ← hm0] at hS
  have HW1 := hide (show WordsOk c m0 by rw [hm0]; exact unhide HW0)
  clear hC0 hm0 hws0 HW0
  have q4 := cell_regrown ((hS.bel.cell (p := ⟨g0, off + n4, none⟩) hg0).trans ((unhide HX0) n4 l4))
  have HXW4 := hide ((unhide HWW) n4 l4)
  obtain ⟨u5, rfl⟩ := nameW hS
  obtain ⟨W, hW⟩ : ∃ W, W = ws n4 := ⟨_, rfl⟩
  rw [← hW] at q4 HXW4 HA1
  clear hW
  have kc0 := cell_regrown ((hS.get 0 rfl).cell 0 _ rfl)
  have kc1 := cell_regrown ((hS.get 0 rfl).cell 1 _ rfl)
  have kc2 := cell_regrown ((hS.get 0 rfl).cell 2 _ rfl)
  have kc3 := cell_regrown ((hS.get 0 rfl).cell 3 _ rfl)
  have kc4 := cell_regrown ((hS.get 0 rfl).cell 4 _ rfl)
  have kp0 := cell_regrown ((hS.get 1 rfl).cell 0 _ rfl)
  have HSQ := hide hS
  clear hS
  refine wp_region_quiet_below (by kernel_rfl) (by kernel_rfl) ?_
  repeat (go_big_quiet_step (first | (go_at_call 22; exact Calls.regrown_of (of11_any _ _ _)) | (go_at_call 21; exact Calls.regrown_of ((unhide HCE4) _))))
  refine wpQuiet_nil ?_
  intro _ hw'
  obtain ⟨⟨dq, osq⟩, hw''⟩ := hw'
  subst hw''
  have hQ := below_regrown u5 dq osq
  have hS := (unhide HSQ).call hQ
  clear HSQ kc0 kc1 kc2 kc3 kc4 kp0 q4 HCE4 hQ
  generalize grow (redrawn u5 dq) osq = u4 at *
  go_wp2_with fail
  have q6 := cell_regrown ((hS.bel.cell (p := ⟨g0, off + n6, none⟩) hg0).trans ((unhide HX0) n6 l6))
  have HXW6 := hide ((unhide HWW) n6 l6)
  obtain ⟨u5, rfl⟩ := nameW hS
  obtain ⟨N, hN⟩ : ∃ N, N = ws n6 := ⟨_, rfl⟩
  rw [← hN] at q6 HXW6 HA1
  clear hN
  have kc0 := cell_regrown ((hS.get 0 rfl).cell 0 _ rfl)
  have kc1 := cell_regrown ((hS.get 0 rfl).cell 1 _ rfl)
  have kc2 := cell_regrown ((hS.get 0 rfl).cell 2 _ rfl)
  have kc3 := cell_regrown ((hS.get 0 rfl).cell 3 _ rfl)
  have kc4 := cell_regrown ((hS.get 0 rfl).cell 4 _ rfl)
  have kp0 := cell_regrown ((hS.get 1 rfl).cell 0 _ rfl)
  have HSQ := hide hS
  clear hS
  refine wp_region_quiet_below (by kernel_rfl) (by kernel_rfl) ?_
  repeat (go_big_quiet_step (first | (go_at_call 22; exact Calls.regrown_of (of11_any _ _ _)) | (go_at_call 21; exact Calls.regrown_of ((unhide HCE6) _))))
  refine wpQuiet_nil ?_
  intro _ hw'
  obtain ⟨⟨dq, osq⟩, hw''⟩ := hw'
  subst hw''
  have hQ := below_regrown u5 dq osq
  have hS := (unhide HSQ).call hQ
  clear HSQ kc0 kc1 kc2 kc3 kc4 kp0 q6 HCE6 hQ
  generalize grow (redrawn u5 dq) osq = u6 at *
  go_wp2_with fail
  refine (rState_b W _ (unhide HXW4)).mono ?_
  rintro r u ⟨rfl, hb⟩
  replace hS := hS.call hb
  clear hb
  obtain ⟨u6, rfl⟩ := nameW hS
  clear l4' l6'
  obtain ⟨sW, hsW⟩ : ∃ sW, sW = Um.stN W := ⟨_, rfl⟩
  have HSW := hide hsW
  have HG := hide (show Um.goneB W N sn = decide (sW < 2 ∨ 4 < sW ∨ (sW = 4 ∧ 0 < N ∧ N ≤ sn)) by
    rw [hsW]
    unfold Um.goneB Um.past
    simp only [decide_eq_true_eq])
  rw [← hsW]
  clear hsW
  go_upto_region 7 with (first | (refine wpx_box hS rfl _ _ rfl _ rfl _ (by intro _; simp only [Act.put, sx1, sx2, sx3]; first | done | exact rfl) ?_; clear hS; intro _ _ hS; dsimp only [blit, List.set, sx4, sx5, Value.cells, sx6] at hS) | (refine wpx_alloc hS rfl _ rfl _ (zer_any2 rfl) _ (by intro _; simp only [Act.put, sx1, sx2, sx3]; first | done | exact rfl) ?_; clear hS; intro _ _ hS; dsimp only [blit, List.set, sx4, sx5, Value.cells, sx6] at hS) | (refine wpx_ld hS rfl _ _ rfl _ _ rfl ?_; (repeat (first | refine sxh ?_ | refine sxn ?_)); first | refine .inl ⟨_, one_any2 rfl, rfl, _, (by simp only [Act.put, sx1, sx2, sx3]; first | done | exact rfl), ?_⟩ | refine .inr ⟨_, _, row_any2 rfl, rfl, (by dsimp only [cutL, List.drop, List.take]; first | done | exact rfl), _, (by simp only [Act.put, sx1, sx2, sx3]; first | done | exact rfl), ?_⟩) | (refine wpx_st hS rfl _ _ _ rfl rfl _ _ rfl ?_; (repeat (first | refine sxh ?_ | refine sxn ?_)); refine ⟨_, (by first | exact shA rfl | exact shI rfl | exact shB rfl | exact shS rfl | exact shP rfl | exact shF rfl | exact shN rfl), _, siz_any2 rfl, (by exact rfl), (by exact rfl), (by exact rfl), ?_⟩; clear hS; intro _ hS; dsimp only [blit, List.set, sx4, sx5, Value.cells, sx6] at hS))
  go_cut [13] (fun s13 wx => s13 = .bool (Um.goneB W N sn) ∧ wx = u6)
  case first =>
    clear HSW
    by_cases p1 : sW < 2
    · have p1' : decide (((sW : Nat) : Int) < 2) = true := decide_eq_true (by omega)
      go_wp2_with (first | (refine wpx_box hS rfl _ _ rfl _ rfl _ (by intro _; simp only [Act.put, sx1, sx2, sx3]; first | done | exact rfl) ?_; clear hS; intro _ _ hS; dsimp only [blit, List.set, sx4, sx5, Value.cells, sx6] at hS) | (refine wpx_alloc hS rfl _ rfl _ (zer_any2 rfl) _ (by intro _; simp only [Act.put, sx1, sx2, sx3]; first | done | exact rfl) ?_; clear hS; intro _ _ hS; dsimp only [blit, List.set, sx4, sx5, Value.cells, sx6] at hS) | (refine wpx_ld hS rfl _ _ rfl _ _ rfl ?_; (repeat (first | refine sxh ?_ | refine sxn ?_)); first | refine .inl ⟨_, one_any2 rfl, rfl, _, (by simp only [Act.put, sx1, sx2, sx3]; first | done | exact rfl), ?_⟩ | refine .inr ⟨_, _, row_any2 rfl, rfl, (by dsimp only [cutL, List.drop, List.take]; first | done | exact rfl), _, (by simp only [Act.put, sx1, sx2, sx3]; first | done | exact rfl), ?_⟩) | (refine wpx_st hS rfl _ _ _ rfl rfl _ _ rfl ?_; (repeat (first | refine sxh ?_ | refine sxn ?_)); refine ⟨_, (by first | exact shA rfl | exact shI rfl | exact shB rfl | exact shS rfl | exact shP rfl | exact shF rfl | exact shN rfl), _, siz_any2 rfl, (by exact rfl), (by exact rfl), (by exact rfl), ?_⟩; clear hS; intro _ hS; dsimp only [blit, List.set, sx4, sx5, Value.cells, sx6] at hS))
      go_meet
      exact ⟨by rw [unhide HG]; exact congrArg Value.bool (decide_eq_true (by omega)).symm, rfl⟩
    have p1' : decide (((sW : Nat) : Int) < 2) = false := decide_eq_false (by omega)
    by_cases p2 : 4 < sW
    · have p2' : decide ((4 : Int) < ((sW : Nat) : Int)) = true := decide_eq_true (by omega)
      go_wp2_with (first | (refine wpx_box hS rfl _ _ rfl _ rfl _ (by intro _; simp only [Act.put, sx1, sx2, sx3]; first | done | exact rfl) ?_; clear hS; intro _ _ hS; dsimp only [blit, List.set, sx4, sx5, Value.cells, sx6] at hS) | (refine wpx_alloc hS rfl _ rfl _ (zer_any2 rfl) _ (by intro _; simp only [Act.put, sx1, sx2, sx3]; first | done | exact rfl) ?_; clear hS; intro _ _ hS; dsimp only [blit, List.set, sx4, sx5, Value.cells, sx6] at hS) | (refine wpx_ld hS rfl _ _ rfl _ _ rfl ?_; (repeat (first | refine sxh ?_ | refine sxn ?_)); first | refine .inl ⟨_, one_any2 rfl, rfl, _, (by simp only [Act.put, sx1, sx2, sx3]; first | done | exact rfl), ?_⟩ | refine .inr ⟨_, _, row_any2 rfl, rfl, (by dsimp only [cutL, List.drop, List.take]; first | done | exact rfl), _, (by simp only [Act.put, sx1, sx2, sx3]; first | done | exact rfl), ?_⟩) | (refine wpx_st hS rfl _ _ _ rfl rfl _ _ rfl ?_; (repeat (first | refine sxh ?_ | refine sxn ?_)); refine ⟨_, (by first | exact shA rfl | exact shI rfl | exact shB rfl | exact shS rfl | exact shP rfl | exact shF rfl | exact shN rfl), _, siz_any2 rfl, (by exact rfl), (by exact rfl), (by exact rfl), ?_⟩; clear hS; intro _ hS; dsimp only [blit, List.set, sx4, sx5, Value.cells, sx6] at hS))
      go_meet
      exact ⟨by rw [unhide HG]; exact congrArg Value.bool (decide_eq_true (by omega)).symm, rfl⟩
    have p2' : decide ((4 : Int) < ((sW : Nat) : Int)) = false := decide_eq_false (by omega)
    by_cases p3 : sW = 4
    · subst p3
      by_cases p4 : N = 0
      · subst p4
        go_wp2_with (first | (refine wpx_box hS rfl _ _ rfl _ rfl _ (by intro _; simp only [Act.put, sx1, sx2, sx3]; first | done | exact rfl) ?_; clear hS; intro _ _ hS; dsimp only [blit, List.set, sx4, sx5, Value.cells, sx6] at hS) | (refine wpx_alloc hS rfl _ rfl _ (zer_any2 rfl) _ (by intro _; simp only [Act.put, sx1, sx2, sx3]; first | done | exact rfl) ?_; clear hS; intro _ _ hS; dsimp only [blit, List.set, sx4, sx5, Value.cells, sx6] at hS) | (refine wpx_ld hS rfl _ _ rfl _ _ rfl ?_; (repeat (first | refine sxh ?_ | refine sxn ?_)); first | refine .inl ⟨_, one_any2 rfl, rfl, _, (by simp only [Act.put, sx1, sx2, sx3]; first | done | exact rfl), ?_⟩ | refine .inr ⟨_, _, row_any2 rfl, rfl, (by dsimp only [cutL, List.drop, List.take]; first | done | exact rfl), _, (by simp only [Act.put, sx1, sx2, sx3]; first | done | exact rfl), ?_⟩) | (refine wpx_st hS rfl _ _ _ rfl rfl _ _ rfl ?_; (repeat (first | refine sxh ?_ | refine sxn ?_)); refine ⟨_, (by first | exact shA rfl | exact shI rfl | exact shB rfl | exact shS rfl | exact shP rfl | exact shF rfl | exact shN rfl), _, siz_any2 rfl, (by exact rfl), (by exact rfl), (by exact rfl), ?_⟩; clear hS; intro _ hS; dsimp only [blit, List.set, sx4, sx5, Value.cells, sx6] at hS))
        go_meet
        exact ⟨by rw [unhide HG]; exact congrArg Value.bool (decide_eq_false (by omega)).symm, rfl⟩
      have p4n : ¬ ((N : Nat) : Int) = 0 := by omega
      have p4' : (((N : Nat) : Int) != 0) = true := by simpa using p4n
      by_cases p5 : N ≤ sn
      · have p5' : decide (((N : Nat) : Int) ≤ ((sn : Nat) : Int)) = true := decide_eq_true (by omega)
        go_wp2_with (first | (refine wpx_box hS rfl _ _ rfl _ rfl _ (by intro _; simp only [Act.put, sx1, sx2, sx3]; first | done | exact rfl) ?_; clear hS; intro _ _ hS; dsimp only [blit, List.set, sx4, sx5, Value.cells, sx6] at hS) | (refine wpx_alloc hS rfl _ rfl _ (zer_any2 rfl) _ (by intro _; simp only [Act.put, sx1, sx2, sx3]; first | done | exact rfl) ?_; clear hS; intro _ _ hS; dsimp only [blit, List.set, sx4, sx5, Value.cells, sx6] at hS) | (refine wpx_ld hS rfl _ _ rfl _ _ rfl ?_; (repeat (first | refine sxh ?_ | refine sxn ?_)); first | refine .inl ⟨_, one_any2 rfl, rfl, _, (by simp only [Act.put, sx1, sx2, sx3]; first | done | exact rfl), ?_⟩ | refine .inr ⟨_, _, row_any2 rfl, rfl, (by dsimp only [cutL, List.drop, List.take]; first | done | exact rfl), _, (by simp only [Act.put, sx1, sx2, sx3]; first | done | exact rfl), ?_⟩) | (refine wpx_st hS rfl _ _ _ rfl rfl _ _ rfl ?_; (repeat (first | refine sxh ?_ | refine sxn ?_)); refine ⟨_, (by first | exact shA rfl | exact shI rfl | exact shB rfl | exact shS rfl | exact shP rfl | exact shF rfl | exact shN rfl), _, siz_any2 rfl, (by exact rfl), (by exact rfl), (by exact rfl), ?_⟩; clear hS; intro _ hS; dsimp only [blit, List.set, sx4, sx5, Value.cells, sx6] at hS))
        go_meet
        exact ⟨by rw [unhide HG]; exact congrArg Value.bool (decide_eq_true (.inr (.inr ⟨(by first | exact rfl | trivial), by omega, p5⟩))).symm, rfl⟩
      · have p5' : decide (((N : Nat) : Int) ≤ ((sn : Nat) : Int)) = false := decide_eq_false (by omega)
        go_wp2_with (first | (refine wpx_box hS rfl _ _ rfl _ rfl _ (by intro _; simp only [Act.put, sx1, sx2, sx3]; first | done | exact rfl) ?_; clear hS; intro _ _ hS; dsimp only [blit, List.set, sx4, sx5, Value.cells, sx6] at hS) | (refine wpx_alloc hS rfl _ rfl _ (zer_any2 rfl) _ (by intro _; simp only [Act.put, sx1, sx2, sx3]; first | done | exact rfl) ?_; clear hS; intro _ _ hS; dsimp only [blit, List.set, sx4, sx5, Value.cells, sx6] at hS) | (refine wpx_ld hS rfl _ _ rfl _ _ rfl ?_; (repeat (first | refine sxh ?_ | refine sxn ?_)); first | refine .inl ⟨_, one_any2 rfl, rfl, _, (by simp only [Act.put, sx1, sx2, sx3]; first | done | exact rfl), ?_⟩ | refine .inr ⟨_, _, row_any2 rfl, rfl, (by dsimp only [cutL, List.drop, List.take]; first | done | exact rfl), _, (by simp only [Act.put, sx1, sx2, sx3]; first | done | exact rfl), ?_⟩) | (refine wpx_st hS rfl _ _ _ rfl rfl _ _ rfl ?_; (repeat (first | refine sxh ?_ | refine sxn ?_)); refine ⟨_, (by first | exact shA rfl | exact shI rfl | exact shB rfl | exact shS rfl | exact shP rfl | exact shF rfl | exact shN rfl), _, siz_any2 rfl, (by exact rfl), (by exact rfl), (by exact rfl), ?_⟩; clear hS; intro _ hS; dsimp only [blit, List.set, sx4, sx5, Value.cells, sx6] at hS))
        go_meet
        exact ⟨by rw [unhide HG]; exact congrArg Value.bool (decide_eq_false (by omega)).symm, rfl⟩
    have p3n : ¬ ((sW : Nat) : Int) = 4 := by omega
    have p3' : (((sW : Nat) : Int) == 4) = false := by simpa using p3n
    go_wp2_with (first | (refine wpx_box hS rfl _ _ rfl _ rfl _ (by intro _; simp only [Act.put, sx1, sx2, sx3]; first | done | exact rfl) ?_; clear hS; intro _ _ hS; dsimp only [blit, List.set, sx4, sx5, Value.cells, sx6] at hS) | (refine wpx_alloc hS rfl _ rfl _ (zer_any2 rfl) _ (by intro _; simp only [Act.put, sx1, sx2, sx3]; first | done | exact rfl) ?_; clear hS; intro _ _ hS; dsimp only [blit, List.set, sx4, sx5, Value.cells, sx6] at hS) | (refine wpx_ld hS rfl _ _ rfl _ _ rfl ?_; (repeat (first | refine sxh ?_ | refine sxn ?_)); first | refine .inl ⟨_, one_any2 rfl, rfl, _, (by simp only [Act.put, sx1, sx2, sx3]; first | done | exact rfl), ?_⟩ | refine .inr ⟨_, _, row_any2 rfl, rfl, (by dsimp only [cutL, List.drop, List.take]; first | done | exact rfl), _, (by simp only [Act.put, sx1, sx2, sx3]; first | done | exact rfl), ?_⟩) | (refine wpx_st hS rfl _ _ _ rfl rfl _ _ rfl ?_; (repeat (first | refine sxh ?_ | refine sxn ?_)); refine ⟨_, (by first | exact shA rfl | exact shI rfl | exact shB rfl | exact shS rfl | exact shP rfl | exact shF rfl | exact shN rfl), _, siz_any2 rfl, (by exact rfl), (by exact rfl), (by exact rfl), ?_⟩; clear hS; intro _ hS; dsimp only [blit, List.set, sx4, sx5, Value.cells, sx6] at hS))
    go_meet
    exact ⟨by rw [unhide HG]; exact congrArg Value.bool (decide_eq_false (by omega)).symm, rfl⟩
  case rest =>
  clear HG
  obtain ⟨rfl, rfl⟩ := hcut
  go_wp2_with (first | (refine wpx_box hS rfl _ _ rfl _ rfl _ (by intro _; simp only [Act.put, sx1, sx2, sx3]; first | done | exact rfl) ?_; clear hS; intro _ _ hS; dsimp only [blit, List.set, sx4, sx5, Value.cells, sx6] at hS) | (refine wpx_alloc hS rfl _ rfl _ (zer_any2 rfl) _ (by intro _; simp only [Act.put, sx1, sx2, sx3]; first | done | exact rfl) ?_; clear hS; intro _ _ hS; dsimp only [blit, List.set, sx4, sx5, Value.cells, sx6] at hS) | (refine wpx_ld hS rfl _ _ rfl _ _ rfl ?_; (repeat (first | refine sxh ?_ | refine sxn ?_)); first | refine .inl ⟨_, one_any2 rfl, rfl, _, (by simp only [Act.put, sx1, sx2, sx3]; first | done | exact rfl), ?_⟩ | refine .inr ⟨_, _, row_any2 rfl, rfl, (by dsimp only [cutL, List.drop, List.take]; first | done | exact rfl), _, (by simp only [Act.put, sx1, sx2, sx3]; first | done | exact rfl), ?_⟩) | (refine wpx_st hS rfl _ _ _ rfl rfl _ _ rfl ?_; (repeat (first | refine sxh ?_ | refine sxn ?_)); refine ⟨_, (by first | exact shA rfl | exact shI rfl | exact shB rfl | exact shS rfl | exact shP rfl | exact shF rfl | exact shN rfl), _, siz_any2 rfl, (by exact rfl), (by exact rfl), (by exact rfl), ?_⟩; clear hS; intro _ hS; dsimp only [blit, List.set, sx4, sx5, Value.cells, sx6] at hS))
  refine (jnew_any hS sl sd b sn m0).mono ?_
  rintro r u ⟨P, rfl, hSn⟩
  clear hS
  have hS := hSn
  clear hSn
  dsimp only [putL, List.set, List.cons_append, List.nil_append] at hS
  go_wp2_with fail
  refine (ends_x hS 2 3 5 (Um.jnew m0) rfl rfl rfl (by decide) (by decide) (by decide) (unhide HR) (Um.jnew_ok (unhide HW1)) (unhide HBD).1 (unhide HBD).2 (unhide HDD).1 (unhide HDD).2 20 (by decide) A (unhide HH)).mono ?_
  rintro r u ⟨K, rfl, _, _, hn3, hOn, hSn⟩
  clear hS
  have hS := hSn
  clear hSn
  dsimp only [putL, List.set, List.cons_append, List.nil_append] at hS
  have hn4 := (unhide HA4) K hn3
  have hn6 : ((K : Nat) : Int) ≤ 3 := by omega
  have hn7 : decide (((K : Nat) : Int) ≤ 3) = true := decide_eq_true hn6
  have HO := hide hOn
  clear hOn HW1 hn3 hn4
  cases hg : Um.goneB W N sn with
  | true =>
    have hG := Um.goneB_iff.1 hg
    have HAR := hide (show ((A.r : Nat) : Int) = 1 by rw [unhide HA1, Um.jtg_gone hG]; rfl)
    have HR2 := hide (show A.r ≠ 2 by rw [unhide HA1, Um.jtg_gone hG]; decide)
    rw [show ((A.r : Nat) : Int) = 1 from unhide HAR]
    have hq2 := (unhide HA3) (unhide HR2)
    have HMM := hide hq2
    clear hq2 HA2 HA3
    clear hG
    go_wp2_with fail
    refine (cells_x hS 2 3 rfl rfl (by decide) (unhide HR) (unhide HO).wd).mono ?_
    rintro r u ⟨X, rfl, hSn⟩
    clear hS
    have hS := hSn
    clear hSn
    dsimp only [putL, List.set, List.cons_append, List.nil_append] at hS
    go_wp2_with fail
    obtain ⟨CF, rfl⟩ := nameB hS 0 rfl
    obtain ⟨PL, rfl⟩ := nameB hS 1 rfl
    obtain ⟨u, rfl⟩ := nameW hS
    go_loopw [136] (fun i wr => ∃ j : Nat, j ≤ c.n ∧ i = .int .i64 j ∧ Below u.heap.size u wr) (fun i _ => c.n - (intOf i).toNat)
    case atStart => exact ⟨0, by omega, rfl, Below.refl _ _⟩
    case round =>
      obtain ⟨j, hj, rfl, hBr⟩ := hrel
      replace hS := hS.call hBr
      obtain ⟨u5, rfl⟩ := nameW hS
      by_cases hlt : j < c.n
      · have hlti : (j : Int) < (c.n : Int) := by omega
        have c0 := (hS.get 6 rfl).cell j _ (rowW_get A.m.ws c.n j hlt)
        have q9 := (hS.bel.cell (p := ⟨g0, off + j, none⟩) hg0).trans ((unhide HX0) j hlt)
        have hv2 : ((A.m.ws j : Int) != (ws j : Int)) = false := by rw [(unhide HMM) j]; simp
        go_wp2_with fail
        clear c0 q9
        have HBR := hide hBr
        clear hBr
        have HSQ := hide hS
        clear hS
        refine wp_region_quiet_below (by kernel_rfl) (by kernel_rfl) ?_
        repeat (go_big_quiet_step (first | (go_at_call 22; exact Calls.regrown_of (of11_any _ _ _))))
        refine wpQuiet_nil ?_
        intro _ hw'
        obtain ⟨⟨dq, osq⟩, hw''⟩ := hw'
        subst hw''
        have hQ := below_regrown u5 dq osq
        have hS := (unhide HSQ).call hQ
        clear HSQ  
        have hB2 := (unhide HBR).trans (hQ.mono (unhide HBR).size)
        clear hQ HBR hS
        generalize grow (redrawn u5 dq) osq = u8 at *
        go_wp2
        exact ⟨⟨j + 1, by omega, by go_num, hB2⟩, by simp [intOf]; omega⟩
      · have hge : ¬ (j : Int) < (c.n : Int) := by omega
        go_wp2_with fail
        refine (jAlive_any _).mono ?_
        rintro r u ⟨rfl, hb⟩
        replace hS := hS.call hb
        have hB := hS.bel
        clear hb hS
        go_wp2
        go_ret
        exact ⟨rfl, hB⟩
  | false =>
    have hG : ¬ Um.goneN W N sn := fun q => by rw [Um.goneB_iff.2 q] at hg; cases hg
    cases hh : Um.hasN W sd b with
    | true =>
      have HH1 := hide hh
      have HAR := hide (show ((A.r : Nat) : Int) = 2 by rw [unhide HA1, Um.jtg_has hG hh]; rfl)
      have HR2 := hide (show A.r = 2 by rw [unhide HA1, Um.jtg_has hG hh])
      rw [show ((A.r : Nat) : Int) = 2 from unhide HAR]
      have hq2 := (unhide HA2) (unhide HR2)
      have HMM := hide hq2
      clear hq2 HA2 HA3
      clear hG hh
      go_wp2_with (first | (refine wpx_box hS rfl _ _ rfl _ rfl _ (by intro _; simp only [Act.put, sx1, sx2, sx3]; first | done | exact rfl) ?_; clear hS; intro _ _ hS; dsimp only [blit, List.set, sx4, sx5, Value.cells, sx6] at hS) | (refine wpx_alloc hS rfl _ rfl _ (zer_any2 rfl) _ (by intro _; simp only [Act.put, sx1, sx2, sx3]; first | done | exact rfl) ?_; clear hS; intro _ _ hS; dsimp only [blit, List.set, sx4, sx5, Value.cells, sx6] at hS) | (refine wpx_ld hS rfl _ _ rfl _ _ rfl ?_; (repeat (first | refine sxh ?_ | refine sxn ?_)); first | refine .inl ⟨_, one_any2 rfl, rfl, _, (by simp only [Act.put, sx1, sx2, sx3]; first | done | exact rfl), ?_⟩ | refine .inr ⟨_, _, row_any2 rfl, rfl, (by dsimp only [cutL, List.drop, List.take]; first | done | exact rfl), _, (by simp only [Act.put, sx1, sx2, sx3]; first | done | exact rfl), ?_⟩) | (refine wpx_st hS rfl _ _ _ rfl rfl _ _ rfl ?_; (repeat (first | refine sxh ?_ | refine sxn ?_)); refine ⟨_, (by first | exact shA rfl | exact shI rfl | exact shB rfl | exact shS rfl | exact shP rfl | exact shF rfl | exact shN rfl), _, siz_any2 rfl, (by exact rfl), (by exact rfl), (by exact rfl), ?_⟩; clear hS; intro _ hS; dsimp only [blit, List.set, sx4, sx5, Value.cells, sx6] at hS))
      refine (refHas_any W sd b _ (unhide HXW4)).mono ?_
      rintro r u ⟨rfl, rfl⟩
      rw [unhide HH1]
      go_wp2_with (first | (refine wpx_box hS rfl _ _ rfl _ rfl _ (by intro _; simp only [Act.put, sx1, sx2, sx3]; first | done | exact rfl) ?_; clear hS; intro _ _ hS; dsimp only [blit, List.set, sx4, sx5, Value.cells, sx6] at hS) | (refine wpx_alloc hS rfl _ rfl _ (zer_any2 rfl) _ (by intro _; simp only [Act.put, sx1, sx2, sx3]; first | done | exact rfl) ?_; clear hS; intro _ _ hS; dsimp only [blit, List.set, sx4, sx5, Value.cells, sx6] at hS) | (refine wpx_ld hS rfl _ _ rfl _ _ rfl ?_; (repeat (first | refine sxh ?_ | refine sxn ?_)); first | refine .inl ⟨_, one_any2 rfl, rfl, _, (by simp only [Act.put, sx1, sx2, sx3]; first | done | exact rfl), ?_⟩ | refine .inr ⟨_, _, row_any2 rfl, rfl, (by dsimp only [cutL, List.drop, List.take]; first | done | exact rfl), _, (by simp only [Act.put, sx1, sx2, sx3]; first | done | exact rfl), ?_⟩) | (refine wpx_st hS rfl _ _ _ rfl rfl _ _ rfl ?_; (repeat (first | refine sxh ?_ | refine sxn ?_)); refine ⟨_, (by first | exact shA rfl | exact shI rfl | exact shB rfl | exact shS rfl | exact shP rfl | exact shF rfl | exact shN rfl), _, siz_any2 rfl, (by exact rfl), (by exact rfl), (by exact rfl), ?_⟩; clear hS; intro _ hS; dsimp only [blit, List.set, sx4, sx5, Value.cells, sx6] at hS))
      refine (cells_x hS 2 3 rfl rfl (by decide) (unhide HR) (unhide HO).wd).mono ?_
      rintro r u ⟨X, rfl, hSn⟩
      clear hS
      have hS := hSn
      clear hSn
      dsimp only [putL, List.set, List.cons_append, List.nil_append] at hS
      go_wp2_with fail
      obtain ⟨CF, rfl⟩ := nameB hS 0 rfl
      obtain ⟨PL, rfl⟩ := nameB hS 1 rfl
      obtain ⟨u, rfl⟩ := nameW hS
      go_loopw [136] (fun i wr => ∃ j : Nat, j ≤ c.n ∧ i = .int .i64 j ∧ Below u.heap.size u wr) (fun i _ => c.n - (intOf i).toNat)
      case atStart => exact ⟨0, by omega, rfl, Below.refl _ _⟩
      case round =>
        obtain ⟨j, hj, rfl, hBr⟩ := hrel
        replace hS := hS.call hBr
        obtain ⟨u5, rfl⟩ := nameW hS
        by_cases hlt : j < c.n
        · have hlti : (j : Int) < (c.n : Int) := by omega
          have c0 := (hS.get 6 rfl).cell j _ (rowW_get A.m.ws c.n j hlt)
          have q9 := (hS.bel.cell (p := ⟨g0, off + j, none⟩) hg0).trans ((unhide HX0) j hlt)
          have HA5 := hide (show ∀ W, Calls Try.prog 28 #[(.agg #[.int .i64 (c.t), .int .i64 (c.s), .int .i64 (c.k), .int .i64 (c.g), .int .u64 (c.q : Int)]), .int .i64 (j : Int)] W fun e w' => e = .returned (.agg #[.int .i64 (Um.atK c.r c.t c.s c.k j), .int .i64 (Um.atO c.r c.t c.s c.k j)]) ∧ Below W.heap.size W w' from fun W => cAt_any c.t c.s c.k c.g c.q (j : Int) W (by omega))
          have HMA := hide ((unhide HMM) j hlt)
          have HXW := hide ((unhide HWW) j hlt)
          generalize Um.atK c.r c.t c.s c.k (j : Int) = ak at HA5 HMA
          generalize Um.atO c.r c.t c.s c.k (j : Int) = ao at HA5 HMA
          generalize ws j = xj at q9 HMA HXW
          go_wp2_with fail
          clear c0 q9
          have HBR := hide hBr
          clear hBr
          by_cases g1 : ak = 4 ∧ ao = sl
          · have t1 : ∀ w, (binOp .eql 57 (.agg #[.int .i64 ak, .int .i64 ao]) (.agg #[.int .i64 4, .int .i64 sl])).run Try.prog w = .ok (.bool true) w := eqlSpot _ (Or.inl rfl) (r := true) (decide_eq_true g1).symm
            have kc0 := cell_regrown ((hS.get 0 rfl).cell 0 _ rfl)
            have kc1 := cell_regrown ((hS.get 0 rfl).cell 1 _ rfl)
            have kc2 := cell_regrown ((hS.get 0 rfl).cell 2 _ rfl)
            have kc3 := cell_regrown ((hS.get 0 rfl).cell 3 _ rfl)
            have kc4 := cell_regrown ((hS.get 0 rfl).cell 4 _ rfl)
            have kp0 := cell_regrown ((hS.get 1 rfl).cell 0 _ rfl)
            have HSQ := hide hS
            clear hS
            refine wp_region_quiet_below (by kernel_rfl) (by kernel_rfl) ?_
            repeat (go_big_quiet_step (first | (go_at_call 28; exact Calls.regrown_of ((unhide HA5) _)) | (go_at_call 22; exact Calls.regrown_of (of11_any _ _ _))))
            refine wpQuiet_nil ?_
            intro _ hw'
            obtain ⟨⟨dq, osq⟩, hw''⟩ := hw'
            subst hw''
            have hQ := below_regrown u5 dq osq
            have hS := (unhide HSQ).call hQ
            clear HSQ kc0 kc1 kc2 kc3 kc4 kp0 HA5
            have hB2 := (unhide HBR).trans (hQ.mono (unhide HBR).size)
            clear hQ HBR t1
            generalize grow (redrawn u5 dq) osq = u8 at *
            have hv2 : ((A.m.ws j : Int) != (Um.withN xj sd b : Int)) = false := by rw [(unhide HMA).1 g1]; simp
            go_wp2_with (first | (refine wpx_box hS rfl _ _ rfl _ rfl _ (by intro _; simp only [Act.put, sx1, sx2, sx3]; first | done | exact rfl) ?_; clear hS; intro _ _ hS; dsimp only [blit, List.set, sx4, sx5, Value.cells, sx6] at hS) | (refine wpx_alloc hS rfl _ rfl _ (zer_any2 rfl) _ (by intro _; simp only [Act.put, sx1, sx2, sx3]; first | done | exact rfl) ?_; clear hS; intro _ _ hS; dsimp only [blit, List.set, sx4, sx5, Value.cells, sx6] at hS) | (refine wpx_ld hS rfl _ _ rfl _ _ rfl ?_; (repeat (first | refine sxh ?_ | refine sxn ?_)); first | refine .inl ⟨_, one_any2 rfl, rfl, _, (by simp only [Act.put, sx1, sx2, sx3]; first | done | exact rfl), ?_⟩ | refine .inr ⟨_, _, row_any2 rfl, rfl, (by dsimp only [cutL, List.drop, List.take]; first | done | exact rfl), _, (by simp only [Act.put, sx1, sx2, sx3]; first | done | exact rfl), ?_⟩) | (refine wpx_st hS rfl _ _ _ rfl rfl _ _ rfl ?_; (repeat (first | refine sxh ?_ | refine sxn ?_)); refine ⟨_, (by first | exact shA rfl | exact shI rfl | exact shB rfl | exact shS rfl | exact shP rfl | exact shF rfl | exact shN rfl), _, siz_any2 rfl, (by exact rfl), (by exact rfl), (by exact rfl), ?_⟩; clear hS; intro _ hS; dsimp only [blit, List.set, sx4, sx5, Value.cells, sx6] at hS))
            refine (refWith_any xj sd b _ (unhide HXW)).mono ?_
            rintro r u7 ⟨rfl, rfl⟩
            clear hS
            go_wp2
            exact ⟨⟨j + 1, by omega, by go_num, hB2⟩, by simp [intOf]; omega⟩
          · have t1 : ∀ w, (binOp .eql 57 (.agg #[.int .i64 ak, .int .i64 ao]) (.agg #[.int .i64 4, .int .i64 sl])).run Try.prog w = .ok (.bool false) w := eqlSpot _ (Or.inl rfl) (r := false) (decide_eq_false g1).symm
            have kc0 := cell_regrown ((hS.get 0 rfl).cell 0 _ rfl)
            have kc1 := cell_regrown ((hS.get 0 rfl).cell 1 _ rfl)
            have kc2 := cell_regrown ((hS.get 0 rfl).cell 2 _ rfl)
            have kc3 := cell_regrown ((hS.get 0 rfl).cell 3 _ rfl)
            have kc4 := cell_regrown ((hS.get 0 rfl).cell 4 _ rfl)
            have kp0 := cell_regrown ((hS.get 1 rfl).cell 0 _ rfl)
            have HSQ := hide hS
            clear hS
            refine wp_region_quiet_below (by kernel_rfl) (by kernel_rfl) ?_
            repeat (go_big_quiet_step (first | (go_at_call 28; exact Calls.regrown_of ((unhide HA5) _)) | (go_at_call 22; exact Calls.regrown_of (of11_any _ _ _))))
            refine wpQuiet_nil ?_
            intro _ hw'
            obtain ⟨⟨dq, osq⟩, hw''⟩ := hw'
            subst hw''
            have hQ := below_regrown u5 dq osq
            have hS := (unhide HSQ).call hQ
            clear HSQ kc0 kc1 kc2 kc3 kc4 kp0 HA5
            have hB2 := (unhide HBR).trans (hQ.mono (unhide HBR).size)
            clear hQ HBR t1
            generalize grow (redrawn u5 dq) osq = u8 at *
            have hv2 : ((A.m.ws j : Int) != (xj : Int)) = false := by rw [(unhide HMA).2 g1]; simp
            clear hS
            go_wp2
            exact ⟨⟨j + 1, by omega, by go_num, hB2⟩, by simp [intOf]; omega⟩
        · have hge : ¬ (j : Int) < (c.n : Int) := by omega
          go_wp2_with fail
          refine (jAlive_any _).mono ?_
          rintro r u ⟨rfl, hb⟩
          replace hS := hS.call hb
          have hB := hS.bel
          clear hb hS
          go_wp2
          go_ret
          exact ⟨rfl, hB⟩
    | false =>
      have HH1 := hide hh
      by_cases h2 : Um.stN W = 2
      · obtain rfl : sW = 2 := (unhide HSW).trans h2
        have HAR := hide (show ((A.r : Nat) : Int) = 2 by rw [unhide HA1, Um.jtg_lay hG hh (.inl h2)]; rfl)
        have HR2 := hide (show A.r = 2 by rw [unhide HA1, Um.jtg_lay hG hh (.inl h2)])
        rw [show ((A.r : Nat) : Int) = 2 from unhide HAR]
        have hq2 := (unhide HA2) (unhide HR2)
        have HMM := hide hq2
        clear hq2 HA2 HA3
        clear hG hh h2
        go_wp2_with (first | (refine wpx_box hS rfl _ _ rfl _ rfl _ (by intro _; simp only [Act.put, sx1, sx2, sx3]; first | done | exact rfl) ?_; clear hS; intro _ _ hS; dsimp only [blit, List.set, sx4, sx5, Value.cells, sx6] at hS) | (refine wpx_alloc hS rfl _ rfl _ (zer_any2 rfl) _ (by intro _; simp only [Act.put, sx1, sx2, sx3]; first | done | exact rfl) ?_; clear hS; intro _ _ hS; dsimp only [blit, List.set, sx4, sx5, Value.cells, sx6] at hS) | (refine wpx_ld hS rfl _ _ rfl _ _ rfl ?_; (repeat (first | refine sxh ?_ | refine sxn ?_)); first | refine .inl ⟨_, one_any2 rfl, rfl, _, (by simp only [Act.put, sx1, sx2, sx3]; first | done | exact rfl), ?_⟩ | refine .inr ⟨_, _, row_any2 rfl, rfl, (by dsimp only [cutL, List.drop, List.take]; first | done | exact rfl), _, (by simp only [Act.put, sx1, sx2, sx3]; first | done | exact rfl), ?_⟩) | (refine wpx_st hS rfl _ _ _ rfl rfl _ _ rfl ?_; (repeat (first | refine sxh ?_ | refine sxn ?_)); refine ⟨_, (by first | exact shA rfl | exact shI rfl | exact shB rfl | exact shS rfl | exact shP rfl | exact shF rfl | exact shN rfl), _, siz_any2 rfl, (by exact rfl), (by exact rfl), (by exact rfl), ?_⟩; clear hS; intro _ hS; dsimp only [blit, List.set, sx4, sx5, Value.cells, sx6] at hS))
        refine (refHas_any W sd b _ (unhide HXW4)).mono ?_
        rintro r u ⟨rfl, rfl⟩
        rw [unhide HH1]
        go_wp2_with (first | (refine wpx_box hS rfl _ _ rfl _ rfl _ (by intro _; simp only [Act.put, sx1, sx2, sx3]; first | done | exact rfl) ?_; clear hS; intro _ _ hS; dsimp only [blit, List.set, sx4, sx5, Value.cells, sx6] at hS) | (refine wpx_alloc hS rfl _ rfl _ (zer_any2 rfl) _ (by intro _; simp only [Act.put, sx1, sx2, sx3]; first | done | exact rfl) ?_; clear hS; intro _ _ hS; dsimp only [blit, List.set, sx4, sx5, Value.cells, sx6] at hS) | (refine wpx_ld hS rfl _ _ rfl _ _ rfl ?_; (repeat (first | refine sxh ?_ | refine sxn ?_)); first | refine .inl ⟨_, one_any2 rfl, rfl, _, (by simp only [Act.put, sx1, sx2, sx3]; first | done | exact rfl), ?_⟩ | refine .inr ⟨_, _, row_any2 rfl, rfl, (by dsimp only [cutL, List.drop, List.take]; first | done | exact rfl), _, (by simp only [Act.put, sx1, sx2, sx3]; first | done | exact rfl), ?_⟩) | (refine wpx_st hS rfl _ _ _ rfl rfl _ _ rfl ?_; (repeat (first | refine sxh ?_ | refine sxn ?_)); refine ⟨_, (by first | exact shA rfl | exact shI rfl | exact shB rfl | exact shS rfl | exact shP rfl | exact shF rfl | exact shN rfl), _, siz_any2 rfl, (by exact rfl), (by exact rfl), (by exact rfl), ?_⟩; clear hS; intro _ hS; dsimp only [blit, List.set, sx4, sx5, Value.cells, sx6] at hS))
        refine (cells_x hS 2 3 rfl rfl (by decide) (unhide HR) (unhide HO).wd).mono ?_
        rintro r u ⟨X, rfl, hSn⟩
        clear hS
        have hS := hSn
        clear hSn
        dsimp only [putL, List.set, List.cons_append, List.nil_append] at hS
        go_wp2_with fail
        obtain ⟨CF, rfl⟩ := nameB hS 0 rfl
        obtain ⟨PL, rfl⟩ := nameB hS 1 rfl
        obtain ⟨u, rfl⟩ := nameW hS
        go_loopw [136] (fun i wr => ∃ j : Nat, j ≤ c.n ∧ i = .int .i64 j ∧ Below u.heap.size u wr) (fun i _ => c.n - (intOf i).toNat)
        case atStart => exact ⟨0, by omega, rfl, Below.refl _ _⟩
        case round =>
          obtain ⟨j, hj, rfl, hBr⟩ := hrel
          replace hS := hS.call hBr
          obtain ⟨u5, rfl⟩ := nameW hS
          by_cases hlt : j < c.n
          · have hlti : (j : Int) < (c.n : Int) := by omega
            have c0 := (hS.get 6 rfl).cell j _ (rowW_get A.m.ws c.n j hlt)
            have q9 := (hS.bel.cell (p := ⟨g0, off + j, none⟩) hg0).trans ((unhide HX0) j hlt)
            have HA5 := hide (show ∀ W, Calls Try.prog 28 #[(.agg #[.int .i64 (c.t), .int .i64 (c.s), .int .i64 (c.k), .int .i64 (c.g), .int .u64 (c.q : Int)]), .int .i64 (j : Int)] W fun e w' => e = .returned (.agg #[.int .i64 (Um.atK c.r c.t c.s c.k j), .int .i64 (Um.atO c.r c.t c.s c.k j)]) ∧ Below W.heap.size W w' from fun W => cAt_any c.t c.s c.k c.g c.q (j : Int) W (by omega))
            have HMA := hide ((unhide HMM) j hlt)
            have HXW := hide ((unhide HWW) j hlt)
            generalize Um.atK c.r c.t c.s c.k (j : Int) = ak at HA5 HMA
            generalize Um.atO c.r c.t c.s c.k (j : Int) = ao at HA5 HMA
            generalize ws j = xj at q9 HMA HXW
            go_wp2_with fail
            clear c0 q9
            have HBR := hide hBr
            clear hBr
            by_cases g1 : ak = 4 ∧ ao = sl
            · have t1 : ∀ w, (binOp .eql 57 (.agg #[.int .i64 ak, .int .i64 ao]) (.agg #[.int .i64 4, .int .i64 sl])).run Try.prog w = .ok (.bool true) w := eqlSpot _ (Or.inl rfl) (r := true) (decide_eq_true g1).symm
              have kc0 := cell_regrown ((hS.get 0 rfl).cell 0 _ rfl)
              have kc1 := cell_regrown ((hS.get 0 rfl).cell 1 _ rfl)
              have kc2 := cell_regrown ((hS.get 0 rfl).cell 2 _ rfl)
              have kc3 := cell_regrown ((hS.get 0 rfl).cell 3 _ rfl)
              have kc4 := cell_regrown ((hS.get 0 rfl).cell 4 _ rfl)
              have kp0 := cell_regrown ((hS.get 1 rfl).cell 0 _ rfl)
              have HSQ := hide hS
              clear hS
              refine wp_region_quiet_below (by kernel_rfl) (by kernel_rfl) ?_
              repeat (go_big_quiet_step (first | (go_at_call 28; exact Calls.regrown_of ((unhide HA5) _)) | (go_at_call 22; exact Calls.regrown_of (of11_any _ _ _))))
              refine wpQuiet_nil ?_
              intro _ hw'
              obtain ⟨⟨dq, osq⟩, hw''⟩ := hw'
              subst hw''
              have hQ := below_regrown u5 dq osq
              have hS := (unhide HSQ).call hQ
              clear HSQ kc0 kc1 kc2 kc3 kc4 kp0 HA5
              have hB2 := (unhide HBR).trans (hQ.mono (unhide HBR).size)
              clear hQ HBR t1
              generalize grow (redrawn u5 dq) osq = u8 at *
              have hv2 : ((A.m.ws j : Int) != (Um.withN xj sd b : Int)) = false := by rw [(unhide HMA).1 g1]; simp
              go_wp2_with (first | (refine wpx_box hS rfl _ _ rfl _ rfl _ (by intro _; simp only [Act.put, sx1, sx2, sx3]; first | done | exact rfl) ?_; clear hS; intro _ _ hS; dsimp only [blit, List.set, sx4, sx5, Value.cells, sx6] at hS) | (refine wpx_alloc hS rfl _ rfl _ (zer_any2 rfl) _ (by intro _; simp only [Act.put, sx1, sx2, sx3]; first | done | exact rfl) ?_; clear hS; intro _ _ hS; dsimp only [blit, List.set, sx4, sx5, Value.cells, sx6] at hS) | (refine wpx_ld hS rfl _ _ rfl _ _ rfl ?_; (repeat (first | refine sxh ?_ | refine sxn ?_)); first | refine .inl ⟨_, one_any2 rfl, rfl, _, (by simp only [Act.put, sx1, sx2, sx3]; first | done | exact rfl), ?_⟩ | refine .inr ⟨_, _, row_any2 rfl, rfl, (by dsimp only [cutL, List.drop, List.take]; first | done | exact rfl), _, (by simp only [Act.put, sx1, sx2, sx3]; first | done | exact rfl), ?_⟩) | (refine wpx_st hS rfl _ _ _ rfl rfl _ _ rfl ?_; (repeat (first | refine sxh ?_ | refine sxn ?_)); refine ⟨_, (by first | exact shA rfl | exact shI rfl | exact shB rfl | exact shS rfl | exact shP rfl | exact shF rfl | exact shN rfl), _, siz_any2 rfl, (by exact rfl), (by exact rfl), (by exact rfl), ?_⟩; clear hS; intro _ hS; dsimp only [blit, List.set, sx4, sx5, Value.cells, sx6] at hS))
              refine (refWith_any xj sd b _ (unhide HXW)).mono ?_
              rintro r u7 ⟨rfl, rfl⟩
              clear hS
              go_wp2
              exact ⟨⟨j + 1, by omega, by go_num, hB2⟩, by simp [intOf]; omega⟩
            · have t1 : ∀ w, (binOp .eql 57 (.agg #[.int .i64 ak, .int .i64 ao]) (.agg #[.int .i64 4, .int .i64 sl])).run Try.prog w = .ok (.bool false) w := eqlSpot _ (Or.inl rfl) (r := false) (decide_eq_false g1).symm
              have kc0 := cell_regrown ((hS.get 0 rfl).cell 0 _ rfl)
              have kc1 := cell_regrown ((hS.get 0 rfl).cell 1 _ rfl)
              have kc2 := cell_regrown ((hS.get 0 rfl).cell 2 _ rfl)
              have kc3 := cell_regrown ((hS.get 0 rfl).cell 3 _ rfl)
              have kc4 := cell_regrown ((hS.get 0 rfl).cell 4 _ rfl)
              have kp0 := cell_regrown ((hS.get 1 rfl).cell 0 _ rfl)
              have HSQ := hide hS
              clear hS
              refine wp_region_quiet_below (by kernel_rfl) (by kernel_rfl) ?_
              repeat (go_big_quiet_step (first | (go_at_call 28; exact Calls.regrown_of ((unhide HA5) _)) | (go_at_call 22; exact Calls.regrown_of (of11_any _ _ _))))
              refine wpQuiet_nil ?_
              intro _ hw'
              obtain ⟨⟨dq, osq⟩, hw''⟩ := hw'
              subst hw''
              have hQ := below_regrown u5 dq osq
              have hS := (unhide HSQ).call hQ
              clear HSQ kc0 kc1 kc2 kc3 kc4 kp0 HA5
              have hB2 := (unhide HBR).trans (hQ.mono (unhide HBR).size)
              clear hQ HBR t1
              generalize grow (redrawn u5 dq) osq = u8 at *
              have hv2 : ((A.m.ws j : Int) != (xj : Int)) = false := by rw [(unhide HMA).2 g1]; simp
              clear hS
              go_wp2
              exact ⟨⟨j + 1, by omega, by go_num, hB2⟩, by simp [intOf]; omega⟩
          · have hge : ¬ (j : Int) < (c.n : Int) := by omega
            go_wp2_with fail
            refine (jAlive_any _).mono ?_
            rintro r u ⟨rfl, hb⟩
            replace hS := hS.call hb
            have hB := hS.bel
            clear hb hS
            go_wp2
            go_ret
            exact ⟨rfl, hB⟩
      · have p2n : ¬ ((sW : Nat) : Int) = 2 := by rw [unhide HSW]; omega
        have p2' : (((sW : Nat) : Int) != 2) = true := by simpa using p2n
        have p8 : ∀ k : Int, sd = 0 ∨ sd = 1 → IntKind.i64.wrap (1 - sd) = 1 - sd := by
          rintro k (rfl | rfl) <;> rfl
        have p9 := p8 0 (unhide HT1)
        clear p8
        cases ha : Um.anyN W (1 - sd) with
        | true =>
          have HY1 := hide ha
          have HAR := hide (show ((A.r : Nat) : Int) = 3 by rw [unhide HA1, Um.jtg_fail hG hh h2 ha]; rfl)
          have HR2 := hide (show A.r ≠ 2 by rw [unhide HA1, Um.jtg_fail hG hh h2 ha]; decide)
          rw [show ((A.r : Nat) : Int) = 3 from unhide HAR]
          have hq2 := (unhide HA3) (unhide HR2)
          have HMM := hide hq2
          clear hq2 HA2 HA3
          clear hG hh h2 ha
          go_wp2_with (first | (refine wpx_box hS rfl _ _ rfl _ rfl _ (by intro _; simp only [Act.put, sx1, sx2, sx3]; first | done | exact rfl) ?_; clear hS; intro _ _ hS; dsimp only [blit, List.set, sx4, sx5, Value.cells, sx6] at hS) | (refine wpx_alloc hS rfl _ rfl _ (zer_any2 rfl) _ (by intro _; simp only [Act.put, sx1, sx2, sx3]; first | done | exact rfl) ?_; clear hS; intro _ _ hS; dsimp only [blit, List.set, sx4, sx5, Value.cells, sx6] at hS) | (refine wpx_ld hS rfl _ _ rfl _ _ rfl ?_; (repeat (first | refine sxh ?_ | refine sxn ?_)); first | refine .inl ⟨_, one_any2 rfl, rfl, _, (by simp only [Act.put, sx1, sx2, sx3]; first | done | exact rfl), ?_⟩ | refine .inr ⟨_, _, row_any2 rfl, rfl, (by dsimp only [cutL, List.drop, List.take]; first | done | exact rfl), _, (by simp only [Act.put, sx1, sx2, sx3]; first | done | exact rfl), ?_⟩) | (refine wpx_st hS rfl _ _ _ rfl rfl _ _ rfl ?_; (repeat (first | refine sxh ?_ | refine sxn ?_)); refine ⟨_, (by first | exact shA rfl | exact shI rfl | exact shB rfl | exact shS rfl | exact shP rfl | exact shF rfl | exact shN rfl), _, siz_any2 rfl, (by exact rfl), (by exact rfl), (by exact rfl), ?_⟩; clear hS; intro _ hS; dsimp only [blit, List.set, sx4, sx5, Value.cells, sx6] at hS))
          refine (refHas_any W sd b _ (unhide HXW4)).mono ?_
          rintro r u ⟨rfl, rfl⟩
          rw [unhide HH1]
          go_wp2_with (first | (refine wpx_box hS rfl _ _ rfl _ rfl _ (by intro _; simp only [Act.put, sx1, sx2, sx3]; first | done | exact rfl) ?_; clear hS; intro _ _ hS; dsimp only [blit, List.set, sx4, sx5, Value.cells, sx6] at hS) | (refine wpx_alloc hS rfl _ rfl _ (zer_any2 rfl) _ (by intro _; simp only [Act.put, sx1, sx2, sx3]; first | done | exact rfl) ?_; clear hS; intro _ _ hS; dsimp only [blit, List.set, sx4, sx5, Value.cells, sx6] at hS) | (refine wpx_ld hS rfl _ _ rfl _ _ rfl ?_; (repeat (first | refine sxh ?_ | refine sxn ?_)); first | refine .inl ⟨_, one_any2 rfl, rfl, _, (by simp only [Act.put, sx1, sx2, sx3]; first | done | exact rfl), ?_⟩ | refine .inr ⟨_, _, row_any2 rfl, rfl, (by dsimp only [cutL, List.drop, List.take]; first | done | exact rfl), _, (by simp only [Act.put, sx1, sx2, sx3]; first | done | exact rfl), ?_⟩) | (refine wpx_st hS rfl _ _ _ rfl rfl _ _ rfl ?_; (repeat (first | refine sxh ?_ | refine sxn ?_)); refine ⟨_, (by first | exact shA rfl | exact shI rfl | exact shB rfl | exact shS rfl | exact shP rfl | exact shF rfl | exact shN rfl), _, siz_any2 rfl, (by exact rfl), (by exact rfl), (by exact rfl), ?_⟩; clear hS; intro _ hS; dsimp only [blit, List.set, sx4, sx5, Value.cells, sx6] at hS))
          refine (refAny_any W (1 - sd) _ (unhide HXW4)).mono ?_
          rintro r u ⟨rfl, nd, rfl⟩
          replace hS := hS.drewN nd
          rw [unhide HY1]
          go_wp2_with (first | (refine wpx_box hS rfl _ _ rfl _ rfl _ (by intro _; simp only [Act.put, sx1, sx2, sx3]; first | done | exact rfl) ?_; clear hS; intro _ _ hS; dsimp only [blit, List.set, sx4, sx5, Value.cells, sx6] at hS) | (refine wpx_alloc hS rfl _ rfl _ (zer_any2 rfl) _ (by intro _; simp only [Act.put, sx1, sx2, sx3]; first | done | exact rfl) ?_; clear hS; intro _ _ hS; dsimp only [blit, List.set, sx4, sx5, Value.cells, sx6] at hS) | (refine wpx_ld hS rfl _ _ rfl _ _ rfl ?_; (repeat (first | refine sxh ?_ | refine sxn ?_)); first | refine .inl ⟨_, one_any2 rfl, rfl, _, (by simp only [Act.put, sx1, sx2, sx3]; first | done | exact rfl), ?_⟩ | refine .inr ⟨_, _, row_any2 rfl, rfl, (by dsimp only [cutL, List.drop, List.take]; first | done | exact rfl), _, (by simp only [Act.put, sx1, sx2, sx3]; first | done | exact rfl), ?_⟩) | (refine wpx_st hS rfl _ _ _ rfl rfl _ _ rfl ?_; (repeat (first | refine sxh ?_ | refine sxn ?_)); refine ⟨_, (by first | exact shA rfl | exact shI rfl | exact shB rfl | exact shS rfl | exact shP rfl | exact shF rfl | exact shN rfl), _, siz_any2 rfl, (by exact rfl), (by exact rfl), (by exact rfl), ?_⟩; clear hS; intro _ hS; dsimp only [blit, List.set, sx4, sx5, Value.cells, sx6] at hS))
          refine (cells_x hS 2 3 rfl rfl (by decide) (unhide HR) (unhide HO).wd).mono ?_
          rintro r u ⟨X, rfl, hSn⟩
          clear hS
          have hS := hSn
          clear hSn
          dsimp only [putL, List.set, List.cons_append, List.nil_append] at hS
          go_wp2_with fail
          obtain ⟨CF, rfl⟩ := nameB hS 0 rfl
          obtain ⟨PL, rfl⟩ := nameB hS 1 rfl
          obtain ⟨u, rfl⟩ := nameW hS
          go_loopw [136] (fun i wr => ∃ j : Nat, j ≤ c.n ∧ i = .int .i64 j ∧ Below u.heap.size u wr) (fun i _ => c.n - (intOf i).toNat)
          case atStart => exact ⟨0, by omega, rfl, Below.refl _ _⟩
          case round =>
            obtain ⟨j, hj, rfl, hBr⟩ := hrel
            replace hS := hS.call hBr
            obtain ⟨u5, rfl⟩ := nameW hS
            by_cases hlt : j < c.n
            · have hlti : (j : Int) < (c.n : Int) := by omega
              have c0 := (hS.get 6 rfl).cell j _ (rowW_get A.m.ws c.n j hlt)
              have q9 := (hS.bel.cell (p := ⟨g0, off + j, none⟩) hg0).trans ((unhide HX0) j hlt)
              have hv2 : ((A.m.ws j : Int) != (ws j : Int)) = false := by rw [(unhide HMM) j]; simp
              go_wp2_with fail
              clear c0 q9
              have HBR := hide hBr
              clear hBr
              have HSQ := hide hS
              clear hS
              refine wp_region_quiet_below (by kernel_rfl) (by kernel_rfl) ?_
              repeat (go_big_quiet_step (first | (go_at_call 22; exact Calls.regrown_of (of11_any _ _ _))))
              refine wpQuiet_nil ?_
              intro _ hw'
              obtain ⟨⟨dq, osq⟩, hw''⟩ := hw'
              subst hw''
              have hQ := below_regrown u5 dq osq
              have hS := (unhide HSQ).call hQ
              clear HSQ  
              have hB2 := (unhide HBR).trans (hQ.mono (unhide HBR).size)
              clear hQ HBR hS
              generalize grow (redrawn u5 dq) osq = u8 at *
              go_wp2
              exact ⟨⟨j + 1, by omega, by go_num, hB2⟩, by simp [intOf]; omega⟩
            · have hge : ¬ (j : Int) < (c.n : Int) := by omega
              go_wp2_with fail
              refine (jAlive_any _).mono ?_
              rintro r u ⟨rfl, hb⟩
              replace hS := hS.call hb
              have hB := hS.bel
              clear hb hS
              go_wp2
              go_ret
              exact ⟨rfl, hB⟩
        | false =>
          have HY1 := hide ha
          have HAR := hide (show ((A.r : Nat) : Int) = 2 by rw [unhide HA1, Um.jtg_lay hG hh (.inr ha)]; rfl)
          have HR2 := hide (show A.r = 2 by rw [unhide HA1, Um.jtg_lay hG hh (.inr ha)])
          rw [show ((A.r : Nat) : Int) = 2 from unhide HAR]
          have hq2 := (unhide HA2) (unhide HR2)
          have HMM := hide hq2
          clear hq2 HA2 HA3
          clear hG hh h2 ha
          go_wp2_with (first | (refine wpx_box hS rfl _ _ rfl _ rfl _ (by intro _; simp only [Act.put, sx1, sx2, sx3]; first | done | exact rfl) ?_; clear hS; intro _ _ hS; dsimp only [blit, List.set, sx4, sx5, Value.cells, sx6] at hS) | (refine wpx_alloc hS rfl _ rfl _ (zer_any2 rfl) _ (by intro _; simp only [Act.put, sx1, sx2, sx3]; first | done | exact rfl) ?_; clear hS; intro _ _ hS; dsimp only [blit, List.set, sx4, sx5, Value.cells, sx6] at hS) | (refine wpx_ld hS rfl _ _ rfl _ _ rfl ?_; (repeat (first | refine sxh ?_ | refine sxn ?_)); first | refine .inl ⟨_, one_any2 rfl, rfl, _, (by simp only [Act.put, sx1, sx2, sx3]; first | done | exact rfl), ?_⟩ | refine .inr ⟨_, _, row_any2 rfl, rfl, (by dsimp only [cutL, List.drop, List.take]; first | done | exact rfl), _, (by simp only [Act.put, sx1, sx2, sx3]; first | done | exact rfl), ?_⟩) | (refine wpx_st hS rfl _ _ _ rfl rfl _ _ rfl ?_; (repeat (first | refine sxh ?_ | refine sxn ?_)); refine ⟨_, (by first | exact shA rfl | exact shI rfl | exact shB rfl | exact shS rfl | exact shP rfl | exact shF rfl | exact shN rfl), _, siz_any2 rfl, (by exact rfl), (by exact rfl), (by exact rfl), ?_⟩; clear hS; intro _ hS; dsimp only [blit, List.set, sx4, sx5, Value.cells, sx6] at hS))
          refine (refHas_any W sd b _ (unhide HXW4)).mono ?_
          rintro r u ⟨rfl, rfl⟩
          rw [unhide HH1]
          go_wp2_with (first | (refine wpx_box hS rfl _ _ rfl _ rfl _ (by intro _; simp only [Act.put, sx1, sx2, sx3]; first | done | exact rfl) ?_; clear hS; intro _ _ hS; dsimp only [blit, List.set, sx4, sx5, Value.cells, sx6] at hS) | (refine wpx_alloc hS rfl _ rfl _ (zer_any2 rfl) _ (by intro _; simp only [Act.put, sx1, sx2, sx3]; first | done | exact rfl) ?_; clear hS; intro _ _ hS; dsimp only [blit, List.set, sx4, sx5, Value.cells, sx6] at hS) | (refine wpx_ld hS rfl _ _ rfl _ _ rfl ?_; (repeat (first | refine sxh ?_ | refine sxn ?_)); first | refine .inl ⟨_, one_any2 rfl, rfl, _, (by simp only [Act.put, sx1, sx2, sx3]; first | done | exact rfl), ?_⟩ | refine .inr ⟨_, _, row_any2 rfl, rfl, (by dsimp only [cutL, List.drop, List.take]; first | done | exact rfl), _, (by simp only [Act.put, sx1, sx2, sx3]; first | done | exact rfl), ?_⟩) | (refine wpx_st hS rfl _ _ _ rfl rfl _ _ rfl ?_; (repeat (first | refine sxh ?_ | refine sxn ?_)); refine ⟨_, (by first | exact shA rfl | exact shI rfl | exact shB rfl | exact shS rfl | exact shP rfl | exact shF rfl | exact shN rfl), _, siz_any2 rfl, (by exact rfl), (by exact rfl), (by exact rfl), ?_⟩; clear hS; intro _ hS; dsimp only [blit, List.set, sx4, sx5, Value.cells, sx6] at hS))
          refine (refAny_any W (1 - sd) _ (unhide HXW4)).mono ?_
          rintro r u ⟨rfl, nd, rfl⟩
          replace hS := hS.drewN nd
          rw [unhide HY1]
          go_wp2_with (first | (refine wpx_box hS rfl _ _ rfl _ rfl _ (by intro _; simp only [Act.put, sx1, sx2, sx3]; first | done | exact rfl) ?_; clear hS; intro _ _ hS; dsimp only [blit, List.set, sx4, sx5, Value.cells, sx6] at hS) | (refine wpx_alloc hS rfl _ rfl _ (zer_any2 rfl) _ (by intro _; simp only [Act.put, sx1, sx2, sx3]; first | done | exact rfl) ?_; clear hS; intro _ _ hS; dsimp only [blit, List.set, sx4, sx5, Value.cells, sx6] at hS) | (refine wpx_ld hS rfl _ _ rfl _ _ rfl ?_; (repeat (first | refine sxh ?_ | refine sxn ?_)); first | refine .inl ⟨_, one_any2 rfl, rfl, _, (by simp only [Act.put, sx1, sx2, sx3]; first | done | exact rfl), ?_⟩ | refine .inr ⟨_, _, row_any2 rfl, rfl, (by dsimp only [cutL, List.drop, List.take]; first | done | exact rfl), _, (by simp only [Act.put, sx1, sx2, sx3]; first | done | exact rfl), ?_⟩) | (refine wpx_st hS rfl _ _ _ rfl rfl _ _ rfl ?_; (repeat (first | refine sxh ?_ | refine sxn ?_)); refine ⟨_, (by first | exact shA rfl | exact shI rfl | exact shB rfl | exact shS rfl | exact shP rfl | exact shF rfl | exact shN rfl), _, siz_any2 rfl, (by exact rfl), (by exact rfl), (by exact rfl), ?_⟩; clear hS; intro _ hS; dsimp only [blit, List.set, sx4, sx5, Value.cells, sx6] at hS))
          refine (cells_x hS 2 3 rfl rfl (by decide) (unhide HR) (unhide HO).wd).mono ?_
          rintro r u ⟨X, rfl, hSn⟩
          clear hS
          have hS := hSn
          clear hSn
          dsimp only [putL, List.set, List.cons_append, List.nil_append] at hS
          go_wp2_with fail
          obtain ⟨CF, rfl⟩ := nameB hS 0 rfl
          obtain ⟨PL, rfl⟩ := nameB hS 1 rfl
          obtain ⟨u, rfl⟩ := nameW hS
          go_loopw [136] (fun i wr => ∃ j : Nat, j ≤ c.n ∧ i = .int .i64 j ∧ Below u.heap.size u wr) (fun i _ => c.n - (intOf i).toNat)
          case atStart => exact ⟨0, by omega, rfl, Below.refl _ _⟩
          case round =>
            obtain ⟨j, hj, rfl, hBr⟩ := hrel
            replace hS := hS.call hBr
            obtain ⟨u5, rfl⟩ := nameW hS
            by_cases hlt : j < c.n
            · have hlti : (j : Int) < (c.n : Int) := by omega
              have c0 := (hS.get 6 rfl).cell j _ (rowW_get A.m.ws c.n j hlt)
              have q9 := (hS.bel.cell (p := ⟨g0, off + j, none⟩) hg0).trans ((unhide HX0) j hlt)
              have HA5 := hide (show ∀ W, Calls Try.prog 28 #[(.agg #[.int .i64 (c.t), .int .i64 (c.s), .int .i64 (c.k), .int .i64 (c.g), .int .u64 (c.q : Int)]), .int .i64 (j : Int)] W fun e w' => e = .returned (.agg #[.int .i64 (Um.atK c.r c.t c.s c.k j), .int .i64 (Um.atO c.r c.t c.s c.k j)]) ∧ Below W.heap.size W w' from fun W => cAt_any c.t c.s c.k c.g c.q (j : Int) W (by omega))
              have HMA := hide ((unhide HMM) j hlt)
              have HXW := hide ((unhide HWW) j hlt)
              generalize Um.atK c.r c.t c.s c.k (j : Int) = ak at HA5 HMA
              generalize Um.atO c.r c.t c.s c.k (j : Int) = ao at HA5 HMA
              generalize ws j = xj at q9 HMA HXW
              go_wp2_with fail
              clear c0 q9
              have HBR := hide hBr
              clear hBr
              by_cases g1 : ak = 4 ∧ ao = sl
              · have t1 : ∀ w, (binOp .eql 57 (.agg #[.int .i64 ak, .int .i64 ao]) (.agg #[.int .i64 4, .int .i64 sl])).run Try.prog w = .ok (.bool true) w := eqlSpot _ (Or.inl rfl) (r := true) (decide_eq_true g1).symm
                have kc0 := cell_regrown ((hS.get 0 rfl).cell 0 _ rfl)
                have kc1 := cell_regrown ((hS.get 0 rfl).cell 1 _ rfl)
                have kc2 := cell_regrown ((hS.get 0 rfl).cell 2 _ rfl)
                have kc3 := cell_regrown ((hS.get 0 rfl).cell 3 _ rfl)
                have kc4 := cell_regrown ((hS.get 0 rfl).cell 4 _ rfl)
                have kp0 := cell_regrown ((hS.get 1 rfl).cell 0 _ rfl)
                have HSQ := hide hS
                clear hS
                refine wp_region_quiet_below (by kernel_rfl) (by kernel_rfl) ?_
                repeat (go_big_quiet_step (first | (go_at_call 28; exact Calls.regrown_of ((unhide HA5) _)) | (go_at_call 22; exact Calls.regrown_of (of11_any _ _ _))))
                refine wpQuiet_nil ?_
                intro _ hw'
                obtain ⟨⟨dq, osq⟩, hw''⟩ := hw'
                subst hw''
                have hQ := below_regrown u5 dq osq
                have hS := (unhide HSQ).call hQ
                clear HSQ kc0 kc1 kc2 kc3 kc4 kp0 HA5
                have hB2 := (unhide HBR).trans (hQ.mono (unhide HBR).size)
                clear hQ HBR t1
                generalize grow (redrawn u5 dq) osq = u8 at *
                have hv2 : ((A.m.ws j : Int) != (Um.withN xj sd b : Int)) = false := by rw [(unhide HMA).1 g1]; simp
                go_wp2_with (first | (refine wpx_box hS rfl _ _ rfl _ rfl _ (by intro _; simp only [Act.put, sx1, sx2, sx3]; first | done | exact rfl) ?_; clear hS; intro _ _ hS; dsimp only [blit, List.set, sx4, sx5, Value.cells, sx6] at hS) | (refine wpx_alloc hS rfl _ rfl _ (zer_any2 rfl) _ (by intro _; simp only [Act.put, sx1, sx2, sx3]; first | done | exact rfl) ?_; clear hS; intro _ _ hS; dsimp only [blit, List.set, sx4, sx5, Value.cells, sx6] at hS) | (refine wpx_ld hS rfl _ _ rfl _ _ rfl ?_; (repeat (first | refine sxh ?_ | refine sxn ?_)); first | refine .inl ⟨_, one_any2 rfl, rfl, _, (by simp only [Act.put, sx1, sx2, sx3]; first | done | exact rfl), ?_⟩ | refine .inr ⟨_, _, row_any2 rfl, rfl, (by dsimp only [cutL, List.drop, List.take]; first | done | exact rfl), _, (by simp only [Act.put, sx1, sx2, sx3]; first | done | exact rfl), ?_⟩) | (refine wpx_st hS rfl _ _ _ rfl rfl _ _ rfl ?_; (repeat (first | refine sxh ?_ | refine sxn ?_)); refine ⟨_, (by first | exact shA rfl | exact shI rfl | exact shB rfl | exact shS rfl | exact shP rfl | exact shF rfl | exact shN rfl), _, siz_any2 rfl, (by exact rfl), (by exact rfl), (by exact rfl), ?_⟩; clear hS; intro _ hS; dsimp only [blit, List.set, sx4, sx5, Value.cells, sx6] at hS))
                refine (refWith_any xj sd b _ (unhide HXW)).mono ?_
                rintro r u7 ⟨rfl, rfl⟩
                clear hS
                go_wp2
                exact ⟨⟨j + 1, by omega, by go_num, hB2⟩, by simp [intOf]; omega⟩
              · have t1 : ∀ w, (binOp .eql 57 (.agg #[.int .i64 ak, .int .i64 ao]) (.agg #[.int .i64 4, .int .i64 sl])).run Try.prog w = .ok (.bool false) w := eqlSpot _ (Or.inl rfl) (r := false) (decide_eq_false g1).symm
                have kc0 := cell_regrown ((hS.get 0 rfl).cell 0 _ rfl)
                have kc1 := cell_regrown ((hS.get 0 rfl).cell 1 _ rfl)
                have kc2 := cell_regrown ((hS.get 0 rfl).cell 2 _ rfl)
                have kc3 := cell_regrown ((hS.get 0 rfl).cell 3 _ rfl)
                have kc4 := cell_regrown ((hS.get 0 rfl).cell 4 _ rfl)
                have kp0 := cell_regrown ((hS.get 1 rfl).cell 0 _ rfl)
                have HSQ := hide hS
                clear hS
                refine wp_region_quiet_below (by kernel_rfl) (by kernel_rfl) ?_
                repeat (go_big_quiet_step (first | (go_at_call 28; exact Calls.regrown_of ((unhide HA5) _)) | (go_at_call 22; exact Calls.regrown_of (of11_any _ _ _))))
                refine wpQuiet_nil ?_
                intro _ hw'
                obtain ⟨⟨dq, osq⟩, hw''⟩ := hw'
                subst hw''
                have hQ := below_regrown u5 dq osq
                have hS := (unhide HSQ).call hQ
                clear HSQ kc0 kc1 kc2 kc3 kc4 kp0 HA5
                have hB2 := (unhide HBR).trans (hQ.mono (unhide HBR).size)
                clear hQ HBR t1
                generalize grow (redrawn u5 dq) osq = u8 at *
                have hv2 : ((A.m.ws j : Int) != (xj : Int)) = false := by rw [(unhide HMA).2 g1]; simp
                clear hS
                go_wp2
                exact ⟨⟨j + 1, by omega, by go_num, hB2⟩, by simp [intOf]; omega⟩
            · have hge : ¬ (j : Int) < (c.n : Int) := by omega
              go_wp2_with fail
              refine (jAlive_any _).mono ?_
              rintro r u ⟨rfl, hb⟩
              replace hS := hS.call hb
              have hB := hS.bel
              clear hb hS
              go_wp2
              go_ret
              exact ⟨rfl, hB⟩

theorem walk {H : Type} {enc : TypeId × Value → H} {base : Nat} {v0 v1 v2 : Value} {d0 d1 d2 : DataW H} {p0 p1 p2 : List MemPlace} (w : World)
    (hv0 : Value.okWide Try.prog w .any base 24 v0) (h0 : DataW.Trod enc Try.prog w 0 (fun _ => true) true 24 v0 d0 p0)
    (hv1 : Value.okWide Try.prog w .any base 25 v1) (h1 : DataW.Trod enc Try.prog w 0 (fun _ => true) true 25 v1 d1 p1)
    (hv2 : Value.okWide Try.prog w .any base 28 v2) (h2 : DataW.Trod enc Try.prog w 0 (fun _ => true) true 28 v2 d2 p2) :
    Calls Try.prog 5 #[v0, v1, v2] w fun e w' => e = .returned (.bool true) ∧ Below w.heap.size w w' := by
  obtain ⟨ct, s, k, g, q, rfl, hsb⟩ := open_cfg hv0 h0
  obtain ⟨n, ws, hI⟩ := open_words hv1 h1
  obtain ⟨sl, sd, b, sn, st, la, nl, cl, Z, rfl, hbd, hx, hnc, hZ⟩ := open_play11 hv2 h2
  cases hr : (⟨ct, s, k, g, q⟩ : Um.Cf).r with
  | false =>
    obtain ⟨sw, cap, rfl⟩ := words_len hI
    exact walk_wrong w ⟨ct, s, k, g, q⟩ sw n cap sl sd b sn st la nl cl hr
  | true =>
    by_cases hn : n = (⟨ct, s, k, g, q⟩ : Um.Cf).n
    · subst hn
      by_cases g0 : sl < 0
      · exact walk_out0 w ⟨ct, s, k, g, q⟩ v1 ws sl sd b sn st la nl cl hr hI g0
      by_cases g1 : s ≤ sl
      · exact walk_out1 w ⟨ct, s, k, g, q⟩ v1 ws sl sd b sn st la nl cl hr hI g0 g1
      by_cases g2 : b < 0
      · exact walk_out2 w ⟨ct, s, k, g, q⟩ v1 ws sl sd b sn st la nl cl hr hI g0 g1 g2
      by_cases g3 : 11 < b
      · exact walk_out3 w ⟨ct, s, k, g, q⟩ v1 ws sl sd b sn st la nl cl hr hI g0 g1 g2 g3
      by_cases g4 : sd < 0
      · exact walk_out4 w ⟨ct, s, k, g, q⟩ v1 ws sl sd b sn st la nl cl hr hI g0 g1 g2 g3 g4
      by_cases g5 : 1 < sd
      · exact walk_out5 w ⟨ct, s, k, g, q⟩ v1 ws sl sd b sn st la nl cl hr hI g0 g1 g2 g3 g4 g5
      exact walk_right w ⟨ct, s, k, g, q⟩ v1 ws sl sd b sn st la nl cl hr hI g0 g1 g2 g3 g4 g5
    · obtain ⟨sw, cap, rfl⟩ := words_len hI
      exact walk_short w ⟨ct, s, k, g, q⟩ sw n cap sl sd b sn st la nl cl hr hn

set_option maxRecDepth 100000 in
theorem lifted (os : Os) (started : os.Started) (H : Type) (enc : TypeId × Value → H) :
    ReturnsInHanded {} Try.checked os 5 .any (Rows.joinAloneSpec.pre6 enc Try.prog Try.f5 Rows.joinAloneRow.domain false) (Rows.joinAloneSpec.post enc Try.prog Try.f5 false true false false) := by
  refine returnsInHanded_of_change (C := Try.checked) own started (by kernel_rfl) Try.func5
    (ChangeSpec.witness6 (enc := enc) (C := Try.checked) false ⟨#[], #[.agg #[.int .i64 0, .int .i64 0, .int .i64 0, .int .i64 0, .int .u64 0], .slice none 0 0, .agg #[.int .i64 0, .int .i64 0, .int .i64 0, .int .u64 0, .int .i64 0, .slice none 0 0]], []⟩ 8 (by kernel_rfl) (by kernel_rfl) (by kernel_rfl) (by kernel_rfl)) ?_
  intro W base args ds gs before hval0 hW hcnd _
  have hval : ∀ (j : Nat) t v, Try.f5.params[j]? = some t → args[j]? = some v → Value.okWide Try.prog W .any base t v := hval0
  have hW' := hW
  obtain ⟨p, q, hA0, hV, rfl, hfz, hnd⟩ := hW
  have hA : DataW.TrodAll enc Try.prog W 0 (fun _ => true) true Try.f5.params.toList args.toList ds p := hA0
  rw [Try.params5] at hA hval
  obtain ⟨v0, vs0, d0, ds0, p0, q0, hargs, rfl, rfl, h0, r0⟩ := trodAll_cons hA
  obtain ⟨v1, vs1, d1, ds1, p1, q1, rfl, rfl, rfl, h1, r1⟩ := trodAll_cons r0
  obtain ⟨v2, vs2, d2, ds2, p2, q2, rfl, rfl, rfl, h2, r2⟩ := trodAll_cons r1
  obtain ⟨rfl, rfl, rfl⟩ := trodAll_nil r2
  obtain rfl : args = #[v0, v1, v2] := by cases args; simp_all
  obtain ⟨rfl, rfl⟩ := trodVars_none hV
  have k0 := h0
  have lt0 : ∀ x ∈ p0, x.block < W.heap.size := by obtain ⟨m, hm⟩ := k0; exact DataW.trod_lt m _ _ _ hm
  have k1 := h1
  have lt1 : ∀ x ∈ p1, x.block < W.heap.size := by obtain ⟨m, hm⟩ := k1; exact DataW.trod_lt m _ _ _ hm
  have k2 := h2
  have lt2 : ∀ x ∈ p2, x.block < W.heap.size := by obtain ⟨m, hm⟩ := k2; exact DataW.trod_lt m _ _ _ hm
  refine (walk W (hval 0 24 v0 rfl rfl) h0 (hval 1 25 v1 rfl rfl) h1 (hval 2 28 v2 rfl rfl) h2).mono fun e W' ⟨he, bel⟩ => ?_
  subst he
  exact ⟨_, rfl, _, _, _, [], _, [], hW', trodAll_mk1 (shut_bool Try.underlying4 _), (trodAll_cons_mk (Below.trod laidOut (by kernel_rfl) (of_decide_eq_true (by kernel_rfl)) k0 bel lt0) (trodAll_cons_mk (Below.trod laidOut (by kernel_rfl) (of_decide_eq_true (by kernel_rfl)) k1 bel lt1) (trodAll_cons_mk (Below.trod laidOut (by kernel_rfl) (of_decide_eq_true (by kernel_rfl)) k2 bel lt2) trodAll_mk0))), rfl, bel.frame _, fun h => by cases h⟩

theorem JoinAlone_proved : Rows.JoinAloneSaid :=
  OpenClaim.holds_of_wide 5 Try.f5 rfl rfl rfl rfl rfl rfl rfl ⟨rfl, rfl, rfl, rfl, rfl⟩ rfl rfl rfl rfl rfl (by kernel_rfl) Try.func5 (by kernel_rfl)
    (of_decide_eq_true (by kernel_rfl)) (by unfold Func.isWrapper; first | (rw [if_pos (by decide +kernel)]; kernel_rfl) | (rw [if_neg (by decide +kernel)]; exact ⟨rfl, rfl⟩))
    (fun os started H enc _ => lifted os started H enc)

end Go.Proofs.Ytcpmclidndmgeaa.joinAlone
