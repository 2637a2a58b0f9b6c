/-
  For every world's size, status and turns, the law JoinTwo answers true: two that lay conflicts to one active status at once lay both, however their steps are mixed; so do two that lay their own ends. Conditions: none.
-/
import Derived.Test.YtcpmclidndmgeaaRows
import Derived.Test.YtcpmclidndmgeaaK8
import Derived.Test.YtcpmclidndmgeaaK5
import Derived.Test.YtcpmclidndmgeaaK3
import Derived.Test.YtcpmclidndmgeaaK4
import Derived.WalkKit
import Derived.ProofKit
import Derived.OpenShut
import Derived.ShutString
import Derived.LoopTactic
import Derived.Lib.QuietBelow
import Derived.Deep.DeepCutAuto
namespace Go.Proofs.Ytcpmclidndmgeaa.joinTwo
set_option maxRecDepth 100000
open Go.ChangeShapes Go.WideShapes Go.ChangeAt Go.RowKit Go.Sort
set_option linter.unusedVariables false
set_option linter.unusedSimpArgs false

theorem own : ownKnob Try.prog.godebug = none := by kernel_rfl
theorem laidOut : laidOutB Try.prog = true := by kernel_rfl

/-- the same blocks, told in another order -/
theorem Sx.perm {bs : List Nat} {w0 w : World} {l l' e : List (Nat × List Value)} (h : Sx bs w0 w l e) (p : l'.Perm l) : Sx bs w0 w l' e :=
  ⟨h.off, fun q hq => h.low q (p.mem_iff.1 hq), fun q hq => h.blk q (p.mem_iff.1 hq), (p.pairwise_iff (fun hab => Ne.symm hab)).2 h.nd, h.eb, fun q hq r hr => h.ed q hq r (p.mem_iff.1 hr)⟩

theorem and7 (a : Int) : 0 ≤ bits .and .i64 a 7 ∧ bits .and .i64 a 7 ≤ 7 := by
  have h1 : (BitVec.ofInt 64 a &&& BitVec.ofInt 64 7).toNat ≤ 7 := by
    rw [BitVec.toNat_and]
    exact Nat.and_le_right
  show 0 ≤ IntKind.i64.wrap ((BitVec.ofInt 64 a &&& BitVec.ofInt 64 7).toNat : Int) ∧ IntKind.i64.wrap ((BitVec.ofInt 64 a &&& BitVec.ofInt 64 7).toNat : Int) ≤ 7
  rw [IntKind.wrap_i64]
  omega

set_option maxHeartbeats 4000000 in
theorem walk_wrong (w : World) (c : Um.Cf) (g st : Int) (b i o : Bool) (n t : Int) (ta tb : Int) (la : Option Addr) (nl cl : Nat) (h : c.r = false) :
    Calls Try.prog 7 #[(.agg #[.int .i64 (c.t), .int .i64 (c.s), .int .i64 (c.k), .int .i64 (c.g), .int .u64 (c.q : Int)]), .agg #[.int .i64 g, .int .i64 st, .bool b, .bool i, .bool o, .int .i64 n, .int .i64 t], .agg #[.int .i64 ta, .int .i64 tb, .slice la nl cl]] w fun e w' => e = .returned (.bool true) ∧ Below w.heap.size w w' := by
  have HL := hide (fun w => sNew_wrong c w h)
  clear h
  have hS := Sx.new w
  go_enter Try.func7, Try.ntmps7
  go_wp2_with (first | (refine wpx_box hS rfl _ _ rfl _ rfl _ (by intro _; simp only [Act.put, sx1, sx2, sx3]; first | done | exact rfl) ?_; clear hS; intro _ _ hS; dsimp only [blit, List.set, sx4, sx5, Value.cells, sx6] at hS) | (refine wpx_alloc hS rfl _ rfl _ (zer_any2 rfl) _ (by intro _; simp only [Act.put, sx1, sx2, sx3]; first | done | exact rfl) ?_; clear hS; intro _ _ hS; dsimp only [blit, List.set, sx4, sx5, Value.cells, sx6] at hS) | (refine wpx_ld hS rfl _ _ rfl _ _ rfl ?_; (repeat (first | refine sxh ?_ | refine sxn ?_)); first | refine .inl ⟨_, one_any2 rfl, rfl, _, (by simp only [Act.put, sx1, sx2, sx3]; first | done | exact rfl), ?_⟩ | refine .inr ⟨_, _, row_any2 rfl, rfl, (by dsimp only [cutL, List.drop, List.take]; first | done | exact rfl), _, (by simp only [Act.put, sx1, sx2, sx3]; first | done | exact rfl), ?_⟩) | (refine wpx_st hS rfl _ _ _ rfl rfl _ _ rfl ?_; (repeat (first | refine sxh ?_ | refine sxn ?_)); refine ⟨_, (by first | exact shA rfl | exact shI rfl | exact shB rfl | exact shS rfl | exact shP rfl | exact shF rfl | exact shN rfl), _, siz_any2 rfl, (by exact rfl), (by exact rfl), (by exact rfl), ?_⟩; clear hS; intro _ hS; dsimp only [blit, List.set, sx4, sx5, Value.cells, sx6] at hS))
  refine ((unhide HL) _).mono ?_
  rintro r u ⟨rfl, hb⟩
  replace hS := hS.call hb
  clear hb HL
  go_wp2_with (first | (refine wpx_box hS rfl _ _ rfl _ rfl _ (by intro _; simp only [Act.put, sx1, sx2, sx3]; first | done | exact rfl) ?_; clear hS; intro _ _ hS; dsimp only [blit, List.set, sx4, sx5, Value.cells, sx6] at hS) | (refine wpx_alloc hS rfl _ rfl _ (zer_any2 rfl) _ (by intro _; simp only [Act.put, sx1, sx2, sx3]; first | done | exact rfl) ?_; clear hS; intro _ _ hS; dsimp only [blit, List.set, sx4, sx5, Value.cells, sx6] at hS) | (refine wpx_ld hS rfl _ _ rfl _ _ rfl ?_; (repeat (first | refine sxh ?_ | refine sxn ?_)); first | refine .inl ⟨_, one_any2 rfl, rfl, _, (by simp only [Act.put, sx1, sx2, sx3]; first | done | exact rfl), ?_⟩ | refine .inr ⟨_, _, row_any2 rfl, rfl, (by dsimp only [cutL, List.drop, List.take]; first | done | exact rfl), _, (by simp only [Act.put, sx1, sx2, sx3]; first | done | exact rfl), ?_⟩) | (refine wpx_st hS rfl _ _ _ rfl rfl _ _ rfl ?_; (repeat (first | refine sxh ?_ | refine sxn ?_)); refine ⟨_, (by first | exact shA rfl | exact shI rfl | exact shB rfl | exact shS rfl | exact shP rfl | exact shF rfl | exact shN rfl), _, siz_any2 rfl, (by exact rfl), (by exact rfl), (by exact rfl), ?_⟩; clear hS; intro _ hS; dsimp only [blit, List.set, sx4, sx5, Value.cells, sx6] at hS))
  refine (refPack_any g 2 b i o n t _).mono ?_
  rintro r u ⟨rfl, hb⟩
  replace hS := hS.call hb
  clear hb
  generalize Um.okSt g 2 n t = okb
  generalize Um.packV g 2 b i o n t = pv
  go_wp2_with fail
  refine (jAlive_any _).mono ?_
  rintro r u ⟨rfl, hb⟩
  replace hS := hS.call hb
  have hB := hS.bel
  clear hb hS
  go_wp2
  go_ret
  exact ⟨rfl, hB⟩

set_option maxHeartbeats 4000000 in
theorem walk_bad (w : World) (c : Um.Cf) (g st : Int) (b i o : Bool) (n t : Int) (ta tb : Int) (la : Option Addr) (nl cl : Nat) (h : c.r = true) (hk : Um.okSt g 2 n t = false) :
    Calls Try.prog 7 #[(.agg #[.int .i64 (c.t), .int .i64 (c.s), .int .i64 (c.k), .int .i64 (c.g), .int .u64 (c.q : Int)]), .agg #[.int .i64 g, .int .i64 st, .bool b, .bool i, .bool o, .int .i64 n, .int .i64 t], .agg #[.int .i64 ta, .int .i64 tb, .slice la nl cl]] w fun e w' => e = .returned (.bool true) ∧ Below w.heap.size w w' := by
  have HK := hide hk
  clear hk
  have HR := hide h
  clear h
  have hS := Sx.new w
  go_enter Try.func7, Try.ntmps7
  go_wp2_with (first | (refine wpx_box hS rfl _ _ rfl _ rfl _ (by intro _; simp only [Act.put, sx1, sx2, sx3]; first | done | exact rfl) ?_; clear hS; intro _ _ hS; dsimp only [blit, List.set, sx4, sx5, Value.cells, sx6] at hS) | (refine wpx_alloc hS rfl _ rfl _ (zer_any2 rfl) _ (by intro _; simp only [Act.put, sx1, sx2, sx3]; first | done | exact rfl) ?_; clear hS; intro _ _ hS; dsimp only [blit, List.set, sx4, sx5, Value.cells, sx6] at hS) | (refine wpx_ld hS rfl _ _ rfl _ _ rfl ?_; (repeat (first | refine sxh ?_ | refine sxn ?_)); first | refine .inl ⟨_, one_any2 rfl, rfl, _, (by simp only [Act.put, sx1, sx2, sx3]; first | done | exact rfl), ?_⟩ | refine .inr ⟨_, _, row_any2 rfl, rfl, (by dsimp only [cutL, List.drop, List.take]; first | done | exact rfl), _, (by simp only [Act.put, sx1, sx2, sx3]; first | done | exact rfl), ?_⟩) | (refine wpx_st hS rfl _ _ _ rfl rfl _ _ rfl ?_; (repeat (first | refine sxh ?_ | refine sxn ?_)); refine ⟨_, (by first | exact shA rfl | exact shI rfl | exact shB rfl | exact shS rfl | exact shP rfl | exact shF rfl | exact shN rfl), _, siz_any2 rfl, (by exact rfl), (by exact rfl), (by exact rfl), ?_⟩; clear hS; intro _ hS; dsimp only [blit, List.set, sx4, sx5, Value.cells, sx6] at hS))
  refine (new_x hS c (unhide HR)).mono ?_
  rintro r u ⟨B, C, rfl, hWn, hSn⟩
  clear hS
  have hS := hSn
  clear hSn
  dsimp only [putL, List.set, List.cons_append, List.nil_append] at hS
  have HW0 := hide hWn
  clear hWn
  go_wp2_with (first | (refine wpx_box hS rfl _ _ rfl _ rfl _ (by intro _; simp only [Act.put, sx1, sx2, sx3]; first | done | exact rfl) ?_; clear hS; intro _ _ hS; dsimp only [blit, List.set, sx4, sx5, Value.cells, sx6] at hS) | (refine wpx_alloc hS rfl _ rfl _ (zer_any2 rfl) _ (by intro _; simp only [Act.put, sx1, sx2, sx3]; first | done | exact rfl) ?_; clear hS; intro _ _ hS; dsimp only [blit, List.set, sx4, sx5, Value.cells, sx6] at hS) | (refine wpx_ld hS rfl _ _ rfl _ _ rfl ?_; (repeat (first | refine sxh ?_ | refine sxn ?_)); first | refine .inl ⟨_, one_any2 rfl, rfl, _, (by simp only [Act.put, sx1, sx2, sx3]; first | done | exact rfl), ?_⟩ | refine .inr ⟨_, _, row_any2 rfl, rfl, (by dsimp only [cutL, List.drop, List.take]; first | done | exact rfl), _, (by simp only [Act.put, sx1, sx2, sx3]; first | done | exact rfl), ?_⟩) | (refine wpx_st hS rfl _ _ _ rfl rfl _ _ rfl ?_; (repeat (first | refine sxh ?_ | refine sxn ?_)); refine ⟨_, (by first | exact shA rfl | exact shI rfl | exact shB rfl | exact shS rfl | exact shP rfl | exact shF rfl | exact shN rfl), _, siz_any2 rfl, (by exact rfl), (by exact rfl), (by exact rfl), ?_⟩; clear hS; intro _ hS; dsimp only [blit, List.set, sx4, sx5, Value.cells, sx6] at hS))
  refine (refPack_any g 2 b i o n t _).mono ?_
  rintro r u ⟨rfl, hb⟩
  replace hS := hS.call hb
  clear hb
  rw [unhide HK]
  generalize Um.packV g 2 b i o n t = pv
  go_wp2_with fail
  refine (jAlive_any _).mono ?_
  rintro r u ⟨rfl, hb⟩
  replace hS := hS.call hb
  have hB := hS.bel
  clear hb hS
  go_wp2
  go_ret
  exact ⟨rfl, hB⟩

set_option maxHeartbeats 4000000 in
theorem walk_long (w : World) (c : Um.Cf) (g st : Int) (b i o : Bool) (n t : Int) (ta tb : Int) (la : Option Addr) (nl cl : Nat) (h : c.r = true) (hk : Um.okSt g 2 n t = true) (hb : 100 < nl) :
    Calls Try.prog 7 #[(.agg #[.int .i64 (c.t), .int .i64 (c.s), .int .i64 (c.k), .int .i64 (c.g), .int .u64 (c.q : Int)]), .agg #[.int .i64 g, .int .i64 st, .bool b, .bool i, .bool o, .int .i64 n, .int .i64 t], .agg #[.int .i64 ta, .int .i64 tb, .slice la nl cl]] w fun e w' => e = .returned (.bool true) ∧ Below w.heap.size w w' := by
  have HK := hide hk
  clear hk
  have b1 : (100 : Int) < (nl : Int) := by omega
  have b2 : decide ((100 : Int) < (nl : Int)) = true := decide_eq_true b1
  have HR := hide h
  clear h
  have hS := Sx.new w
  go_enter Try.func7, Try.ntmps7
  go_wp2_with (first | (refine wpx_box hS rfl _ _ rfl _ rfl _ (by intro _; simp only [Act.put, sx1, sx2, sx3]; first | done | exact rfl) ?_; clear hS; intro _ _ hS; dsimp only [blit, List.set, sx4, sx5, Value.cells, sx6] at hS) | (refine wpx_alloc hS rfl _ rfl _ (zer_any2 rfl) _ (by intro _; simp only [Act.put, sx1, sx2, sx3]; first | done | exact rfl) ?_; clear hS; intro _ _ hS; dsimp only [blit, List.set, sx4, sx5, Value.cells, sx6] at hS) | (refine wpx_ld hS rfl _ _ rfl _ _ rfl ?_; (repeat (first | refine sxh ?_ | refine sxn ?_)); first | refine .inl ⟨_, one_any2 rfl, rfl, _, (by simp only [Act.put, sx1, sx2, sx3]; first | done | exact rfl), ?_⟩ | refine .inr ⟨_, _, row_any2 rfl, rfl, (by dsimp only [cutL, List.drop, List.take]; first | done | exact rfl), _, (by simp only [Act.put, sx1, sx2, sx3]; first | done | exact rfl), ?_⟩) | (refine wpx_st hS rfl _ _ _ rfl rfl _ _ rfl ?_; (repeat (first | refine sxh ?_ | refine sxn ?_)); refine ⟨_, (by first | exact shA rfl | exact shI rfl | exact shB rfl | exact shS rfl | exact shP rfl | exact shF rfl | exact shN rfl), _, siz_any2 rfl, (by exact rfl), (by exact rfl), (by exact rfl), ?_⟩; clear hS; intro _ hS; dsimp only [blit, List.set, sx4, sx5, Value.cells, sx6] at hS))
  refine (new_x hS c (unhide HR)).mono ?_
  rintro r u ⟨B, C, rfl, hWn, hSn⟩
  clear hS
  have hS := hSn
  clear hSn
  dsimp only [putL, List.set, List.cons_append, List.nil_append] at hS
  have HW0 := hide hWn
  clear hWn
  go_wp2_with (first | (refine wpx_box hS rfl _ _ rfl _ rfl _ (by intro _; simp only [Act.put, sx1, sx2, sx3]; first | done | exact rfl) ?_; clear hS; intro _ _ hS; dsimp only [blit, List.set, sx4, sx5, Value.cells, sx6] at hS) | (refine wpx_alloc hS rfl _ rfl _ (zer_any2 rfl) _ (by intro _; simp only [Act.put, sx1, sx2, sx3]; first | done | exact rfl) ?_; clear hS; intro _ _ hS; dsimp only [blit, List.set, sx4, sx5, Value.cells, sx6] at hS) | (refine wpx_ld hS rfl _ _ rfl _ _ rfl ?_; (repeat (first | refine sxh ?_ | refine sxn ?_)); first | refine .inl ⟨_, one_any2 rfl, rfl, _, (by simp only [Act.put, sx1, sx2, sx3]; first | done | exact rfl), ?_⟩ | refine .inr ⟨_, _, row_any2 rfl, rfl, (by dsimp only [cutL, List.drop, List.take]; first | done | exact rfl), _, (by simp only [Act.put, sx1, sx2, sx3]; first | done | exact rfl), ?_⟩) | (refine wpx_st hS rfl _ _ _ rfl rfl _ _ rfl ?_; (repeat (first | refine sxh ?_ | refine sxn ?_)); refine ⟨_, (by first | exact shA rfl | exact shI rfl | exact shB rfl | exact shS rfl | exact shP rfl | exact shF rfl | exact shN rfl), _, siz_any2 rfl, (by exact rfl), (by exact rfl), (by exact rfl), ?_⟩; clear hS; intro _ hS; dsimp only [blit, List.set, sx4, sx5, Value.cells, sx6] at hS))
  refine (refPack_any g 2 b i o n t _).mono ?_
  rintro r u ⟨rfl, hb⟩
  replace hS := hS.call hb
  clear hb
  rw [unhide HK]
  generalize Um.packV g 2 b i o n t = pv
  have kz := (hS.get 2 rfl).cell 2 _ rfl
  have ks := (hS.get 1 rfl).cell 1 _ rfl
  go_wp2_with fail
  refine (jAlive_any _).mono ?_
  rintro r u ⟨rfl, hb⟩
  replace hS := hS.call hb
  have hB := hS.bel
  clear hb hS
  go_wp2
  go_ret
  exact ⟨rfl, hB⟩

set_option maxRecDepth 100000 in
set_option maxHeartbeats 16000000 in
theorem walk_right (w : World) (c : Um.Cf) (g st : Int) (b i o : Bool) (n t : Int) (ta tb : Int) (la : Option Addr) (nl cl : Nat) (Z : Nat → Bool) (h : c.r = true) (hk : Um.okSt g 2 n t = true) (hb : ¬ 100 < nl) (hcl : nl ≤ cl) (hZ : RowOf w la nl (fun i => .bool (Z i))) :
    Calls Try.prog 7 #[(.agg #[.int .i64 (c.t), .int .i64 (c.s), .int .i64 (c.k), .int .i64 (c.g), .int .u64 (c.q : Int)]), .agg #[.int .i64 g, .int .i64 st, .bool b, .bool i, .bool o, .int .i64 n, .int .i64 t], .agg #[.int .i64 ta, .int .i64 tb, .slice la nl cl]] w fun e w' => e = .returned (.bool true) ∧ Below w.heap.size w w' := by
  have b1 : ¬ (100 : Int) < (nl : Int) := by omega
  have b2 : decide ((100 : Int) < (nl : Int)) = false := decide_eq_false b1
  have HK := hide hk
  clear hk
  obtain ⟨v, hv⟩ : ∃ v, v = (Um.packV g 2 b i o n t) := ⟨_, rfl⟩
  have hstv : ((Um.stN v : Nat) : Int) = 2 := by rw [hv]; exact Um.st_pack (unhide HK)
  have HVW := hide (show Um.Word v by rw [hv, Um.packV_yes (unhide HK)]; exact Um.pack_word (unhide HK))
  have HVE := hide hv
  obtain ⟨a70, a71⟩ := and7 ta
  obtain ⟨b70, b71⟩ := and7 tb
  obtain ⟨a7, ha7⟩ : ∃ a7, bits .and .i64 ta 7 = a7 := ⟨_, rfl⟩
  obtain ⟨b7, hb7⟩ : ∃ b7, bits .and .i64 tb 7 = b7 := ⟨_, rfl⟩
  rw [ha7] at a70 a71
  rw [hb7] at b70 b71
  have HOA := hide (Um.ok0 a70 a71)
  have HOB := hide (Um.ok1 b70 b71)
  have HS1 := hide (Um.slot0 h)
  obtain ⟨m1, hm1⟩ : ∃ m1, m1 = Um.mtouch c (⟨fun _ => 0, 0, Um.noT⟩ : Um.Mm) 2 4 0 0 v := ⟨_, rfl⟩
  have HM1 := hide hm1
  have HB0 := hide (show Um.Tj (Um.clo a7 b7 v) (m1.ws (c.cl 4 0).toNat) a7 b7 (Um.jnew m1) (Um.jnew m1) (Um.lnew m1) ∧ Um.past (m1.ws (c.cl 6 0).toNat) 5 = false by
    obtain ⟨s1, s2⟩ := Um.one_start h _ m1 v hm1
    rw [s1, s2]
    exact ⟨Um.tj_new _ _ v (by omega) _ _ _, show Um.past 0 5 = false by decide⟩)
  clear a70 a71 b70 b71 hstv hm1 hv
  have HZ := hide hZ
  have hnb : nl ≤ 100 := by omega
  have HR := hide h
  clear hZ hb h
  have hS := Sx.new w
  go_enter Try.func7, Try.ntmps7
  go_wp2_with (first | (refine wpx_box hS rfl _ _ rfl _ rfl _ (by intro _; simp only [Act.put, sx1, sx2, sx3]; first | done | exact rfl) ?_; clear hS; intro _ _ hS; dsimp only [blit, List.set, sx4, sx5, Value.cells, sx6] at hS) | (refine wpx_alloc hS rfl _ rfl _ (zer_any2 rfl) _ (by intro _; simp only [Act.put, sx1, sx2, sx3]; first | done | exact rfl) ?_; clear hS; intro _ _ hS; dsimp only [blit, List.set, sx4, sx5, Value.cells, sx6] at hS) | (refine wpx_ld hS rfl _ _ rfl _ _ rfl ?_; (repeat (first | refine sxh ?_ | refine sxn ?_)); first | refine .inl ⟨_, one_any2 rfl, rfl, _, (by simp only [Act.put, sx1, sx2, sx3]; first | done | exact rfl), ?_⟩ | refine .inr ⟨_, _, row_any2 rfl, rfl, (by dsimp only [cutL, List.drop, List.take]; first | done | exact rfl), _, (by simp only [Act.put, sx1, sx2, sx3]; first | done | exact rfl), ?_⟩) | (refine wpx_st hS rfl _ _ _ rfl rfl _ _ rfl ?_; (repeat (first | refine sxh ?_ | refine sxn ?_)); refine ⟨_, (by first | exact shA rfl | exact shI rfl | exact shB rfl | exact shS rfl | exact shP rfl | exact shF rfl | exact shN rfl), _, siz_any2 rfl, (by exact rfl), (by exact rfl), (by exact rfl), ?_⟩; clear hS; intro _ hS; dsimp only [blit, List.set, sx4, sx5, Value.cells, sx6] at hS))
  refine (new_x hS c (unhide HR)).mono ?_
  rintro r u ⟨B, C, rfl, hWn, hSn⟩
  clear hS
  have hS := hSn
  clear hSn
  dsimp only [putL, List.set, List.cons_append, List.nil_append] at hS
  have HW0 := hide hWn
  clear hWn
  go_wp2_with (first | (refine wpx_box hS rfl _ _ rfl _ rfl _ (by intro _; simp only [Act.put, sx1, sx2, sx3]; first | done | exact rfl) ?_; clear hS; intro _ _ hS; dsimp only [blit, List.set, sx4, sx5, Value.cells, sx6] at hS) | (refine wpx_alloc hS rfl _ rfl _ (zer_any2 rfl) _ (by intro _; simp only [Act.put, sx1, sx2, sx3]; first | done | exact rfl) ?_; clear hS; intro _ _ hS; dsimp only [blit, List.set, sx4, sx5, Value.cells, sx6] at hS) | (refine wpx_ld hS rfl _ _ rfl _ _ rfl ?_; (repeat (first | refine sxh ?_ | refine sxn ?_)); first | refine .inl ⟨_, one_any2 rfl, rfl, _, (by simp only [Act.put, sx1, sx2, sx3]; first | done | exact rfl), ?_⟩ | refine .inr ⟨_, _, row_any2 rfl, rfl, (by dsimp only [cutL, List.drop, List.take]; first | done | exact rfl), _, (by simp only [Act.put, sx1, sx2, sx3]; first | done | exact rfl), ?_⟩) | (refine wpx_st hS rfl _ _ _ rfl rfl _ _ rfl ?_; (repeat (first | refine sxh ?_ | refine sxn ?_)); refine ⟨_, (by first | exact shA rfl | exact shI rfl | exact shB rfl | exact shS rfl | exact shP rfl | exact shF rfl | exact shN rfl), _, siz_any2 rfl, (by exact rfl), (by exact rfl), (by exact rfl), ?_⟩; clear hS; intro _ hS; dsimp only [blit, List.set, sx4, sx5, Value.cells, sx6] at hS))
  refine (refPack_any g 2 b i o n t _).mono ?_
  rintro r u ⟨rfl, hb⟩
  replace hS := hS.call hb
  clear hb
  rw [unhide HK, ← unhide HVE]
  obtain ⟨CF, rfl⟩ := nameB hS 0 rfl
  obtain ⟨SB, rfl⟩ := nameB hS 1 rfl
  obtain ⟨TB, rfl⟩ := nameB hS 2 rfl
  go_wp2_with (first | (refine wpx_box hS rfl _ _ rfl _ rfl _ (by intro _; simp only [Act.put, sx1, sx2, sx3]; first | done | exact rfl) ?_; clear hS; intro _ _ hS; dsimp only [blit, List.set, sx4, sx5, Value.cells, sx6] at hS) | (refine wpx_alloc hS rfl _ rfl _ (zer_any2 rfl) _ (by intro _; simp only [Act.put, sx1, sx2, sx3]; first | done | exact rfl) ?_; clear hS; intro _ _ hS; dsimp only [blit, List.set, sx4, sx5, Value.cells, sx6] at hS) | (refine wpx_ld hS rfl _ _ rfl _ _ rfl ?_; (repeat (first | refine sxh ?_ | refine sxn ?_)); first | refine .inl ⟨_, one_any2 rfl, rfl, _, (by simp only [Act.put, sx1, sx2, sx3]; first | done | exact rfl), ?_⟩ | refine .inr ⟨_, _, row_any2 rfl, rfl, (by dsimp only [cutL, List.drop, List.take]; first | done | exact rfl), _, (by simp only [Act.put, sx1, sx2, sx3]; first | done | exact rfl), ?_⟩) | (refine wpx_st hS rfl _ _ _ rfl rfl _ _ rfl ?_; (repeat (first | refine sxh ?_ | refine sxn ?_)); refine ⟨_, (by first | exact shA rfl | exact shI rfl | exact shB rfl | exact shS rfl | exact shP rfl | exact shF rfl | exact shN rfl), _, siz_any2 rfl, (by exact rfl), (by exact rfl), (by exact rfl), ?_⟩; clear hS; intro _ hS; dsimp only [blit, List.set, sx4, sx5, Value.cells, sx6] at hS))
  refine (of11_any 4 0 _).mono ?_
  rintro r u ⟨rfl, hb⟩
  replace hS := hS.call hb
  clear hb
  go_wp2_with fail
  refine (mStore_x hS 3 4 rfl rfl (by decide) (unhide HR) (unhide HW0) 4 0 v (unhide HVW) (by decide) (by decide) m1 (unhide HM1)).mono ?_
  rintro r u ⟨rfl, hWn, hSn⟩
  clear hS
  have hS := hSn
  clear hSn
  dsimp only [putL, List.set, List.cons_append, List.nil_append] at hS
  have HW1 := hide hWn
  clear hWn
  go_wp2_with fail
  go_upto_region 7 with fail
  go_cut [11, 12, 13] (fun s11 s12 s13 wx => ∃ Pa Pb Po, s11 = .pointer (some ⟨Pa, 0, none⟩) ∧ s12 = .pointer (some ⟨Pb, 0, none⟩) ∧ s13 = .pointer (some ⟨Po, 0, none⟩) ∧ Sx [] w wx [(CF, [.int .i64 c.t, .int .i64 c.s, .int .i64 c.k, .int .i64 c.g, .int .u64 c.q]), (SB, [.int .i64 g, .int .i64 2, .bool b, .bool i, .bool o, .int .i64 n, .int .i64 t]), (TB, [.int .i64 ta, .int .i64 tb, .slice la nl cl]), (B, memL c C m1), (C, rowW m1.ws c.n), (Pa, jnL 0 0 a7 5 (Um.jnew m1)), (Pb, jnL 0 1 b7 5 (Um.jnew m1)), (Po, owL 0 0 7 (Um.lnew m1))] [])
  case first =>
    have k0 := fun w' (hq : BlkAt w' TB [.int .i64 ta, .int .i64 tb, .slice la nl cl]) => hq.cell 0 _ rfl
    have k1 := fun w' (hq : BlkAt w' TB [.int .i64 ta, .int .i64 tb, .slice la nl cl]) => hq.cell 1 _ rfl
    have HP := hide (hS.get 2 rfl)
    have HS3 := hide hS
    clear hS
    go_region_held3 (fun w' => BlkAt w' TB [.int .i64 ta, .int .i64 tb, .slice la nl cl]) (first | exact (unhide HP).drew | exact BlkAt.below (by assumption) (by assumption) | assumption) (first | (go_at_call 10; refine (jnew_any (by first | exact hSa | exact (unhide HS3).drew) _ _ _ 5 m1).mono ?_; rintro e u5 ⟨Pa, rfl, hSa⟩; have hPa := hSa.get 2 rfl) | (go_at_call 17; refine (onew_any (by first | exact hSa | exact (unhide HS3).drew) _ _ _ m1).mono ?_; rintro e u5 ⟨Pa, rfl, hSa⟩; have hPa := hSa.get 2 rfl))
    all_goals
      go_wp2_with fail
      go_meet
      refine ⟨_, _, _, rfl, rfl, rfl, ?_⟩
      refine Sx.perm hSa ?_
      refine .cons _ (.cons _ (.cons _ (.cons _ (.cons _ ?_))))
      first | exact .refl _ | exact .swap _ _ _ | exact .cons _ (.swap _ _ _) | exact .trans (.swap _ _ _) (.cons _ (.swap _ _ _)) | exact .trans (.cons _ (.swap _ _ _)) (.swap _ _ _) | exact .trans (.swap _ _ _) (.trans (.cons _ (.swap _ _ _)) (.swap _ _ _))
  case rest =>
  clear hS
  obtain ⟨Pa, Pb, Po, rfl, rfl, rfl, hS⟩ := hcut
  go_wp2_with (first | (refine wpx_box hS rfl _ _ rfl _ rfl _ (by intro _; simp only [Act.put, sx1, sx2, sx3]; first | done | exact rfl) ?_; clear hS; intro _ _ hS; dsimp only [blit, List.set, sx4, sx5, Value.cells, sx6] at hS) | (refine wpx_alloc hS rfl _ rfl _ (zer_any2 rfl) _ (by intro _; simp only [Act.put, sx1, sx2, sx3]; first | done | exact rfl) ?_; clear hS; intro _ _ hS; dsimp only [blit, List.set, sx4, sx5, Value.cells, sx6] at hS) | (refine wpx_ld hS rfl _ _ rfl _ _ rfl ?_; (repeat (first | refine sxh ?_ | refine sxn ?_)); first | refine .inl ⟨_, one_any2 rfl, rfl, _, (by simp only [Act.put, sx1, sx2, sx3]; first | done | exact rfl), ?_⟩ | refine .inr ⟨_, _, row_any2 rfl, rfl, (by dsimp only [cutL, List.drop, List.take]; first | done | exact rfl), _, (by simp only [Act.put, sx1, sx2, sx3]; first | done | exact rfl), ?_⟩) | (refine wpx_st hS rfl _ _ _ rfl rfl _ _ rfl ?_; (repeat (first | refine sxh ?_ | refine sxn ?_)); refine ⟨_, (by first | exact shA rfl | exact shI rfl | exact shB rfl | exact shS rfl | exact shP rfl | exact shF rfl | exact shN rfl), _, siz_any2 rfl, (by exact rfl), (by exact rfl), (by exact rfl), ?_⟩; clear hS; intro _ hS; dsimp only [blit, List.set, sx4, sx5, Value.cells, sx6] at hS))
  clear b1 b2
  go_loopw [75] (fun iv wr => ∃ (j : Nat) (m : Um.Mm) (x y : Um.Js) (z : Um.Ls) , j ≤ nl ∧ iv = .int .i64 j ∧ Hid (Um.Tj (Um.clo a7 b7 v) (m.ws (c.cl 4 0).toNat) a7 b7 x y z ∧ Um.past (m.ws (c.cl 6 0).toNat) 5 = false) ∧ Hid (WordsOk c m) ∧ Hid (Um.JokW c x) ∧ Hid (Um.JokW c y) ∧ Hid (Um.LokW c z) ∧ Hid (Sx [] w wr [(CF, [.int .i64 c.t, .int .i64 c.s, .int .i64 c.k, .int .i64 c.g, .int .u64 c.q]), (SB, [.int .i64 g, .int .i64 2, .bool b, .bool i, .bool o, .int .i64 n, .int .i64 t]), (TB, [.int .i64 ta, .int .i64 tb, .slice la nl cl]), (B, memL c C m), (C, rowW m.ws c.n), (Pa, jnL 0 0 a7 5 x), (Pb, jnL 0 1 b7 5 y), (Po, owL 0 0 7 z)] [])) (fun iv _ => nl - (intOf iv).toNat)
  case atStart => exact ⟨0, m1, Um.jnew m1, Um.jnew m1, Um.lnew m1, Nat.zero_le _, rfl, HB0, hide (unhide HW1), hide (Um.jnew_ok (unhide HW1)).okw, hide (Um.jnew_ok (unhide HW1)).okw, hide (Um.lnew_ok (unhide HW1)).okw, hide hS⟩
  case round =>
    clear hS HW0 HW1 HB0
    rename_i wr
    obtain ⟨j, m, x, y, z, hj, rfl, HD, HW, HOX, HOY, HOZ, HS⟩ := hrel
    have hS := unhide HS
    clear HS
    by_cases hlt : j < nl
    · have hlti : (j : Int) < (nl : Int) := by omega
      obtain ⟨lb, lo, hla, hlb, hlc⟩ := (unhide HZ).resolve_left (by omega)
      have q9 : wr.cell? ⟨lb, lo + j, none⟩ = some (.bool (Z j)) := (hS.bel.cell (p := ⟨lb, lo + j, none⟩) hlb).trans (hlc j hlt)
      subst hla
      clear hlc
      cases hz : Z j with
      | true =>
        rw [hz] at q9
        obtain ⟨X, hX⟩ : ∃ X, X = Um.jstep c 0 0 a7 5 (Um.setJ m x) := ⟨_, rfl⟩
        have HD2 := hide (show Um.Tj (Um.clo a7 b7 v) (X.m.ws (c.cl 4 0).toNat) a7 b7 X y z ∧ Um.past (X.m.ws (c.cl 6 0).toNat) 5 = false by
          obtain ⟨d1, d2⟩ := unhide HD
          obtain ⟨e1, e2⟩ := Um.tj_x (x := Um.setJ m x) (unhide HR) (Int.le_refl 0) (unhide HS1) (unhide HOA) d2 (d1.at m y.m z.m)
          rw [← hX] at e1 e2
          exact ⟨e1, by rw [e2]; exact d2⟩)
        have HHX := hide hX
        clear hX hz
        go_wp2_with fail
        refine (jStep_any (sl := 0) (sd := 0) (b := a7) (sn := 5) hS 3 4 5 (Um.setJ m x) X (unhide HHX) rfl rfl rfl (by decide) (by decide) (by decide) (unhide HR) ((unhide HOX) m (unhide HW)) (by decide) (by decide) (by decide) (by decide)).mono ?_
        rintro r u ⟨rfl, hOn, hSn⟩
        clear hS
        have hS := hSn
        clear hSn
        dsimp only [putL, List.set, List.cons_append, List.nil_append] at hS
        have HOkX := hide hOn.okw
        have HWkX := hide hOn.wd
        clear hOn
        have HS6 := hide hS
        clear hS q9
        go_wp2
        exact ⟨⟨j + 1, X.m, X, y, z, by omega, by go_num, HD2, HWkX, HOkX, HOY, HOZ, HS6⟩, by simp [intOf]; omega⟩
      | false =>
        rw [hz] at q9
        obtain ⟨Y, hY⟩ : ∃ Y, Y = Um.jstep c 0 1 b7 5 (Um.setJ m y) := ⟨_, rfl⟩
        obtain ⟨O, hO⟩ : ∃ O, O = Um.wstep c 0 0 7 (Um.setLs Y.m z) := ⟨_, rfl⟩
        have HD2 := hide (show Um.Tj (Um.clo a7 b7 v) (O.m.ws (c.cl 4 0).toNat) a7 b7 x Y O ∧ Um.past (O.m.ws (c.cl 6 0).toNat) 5 = false by
          obtain ⟨d1, d2⟩ := unhide HD
          obtain ⟨e1, e2⟩ := Um.tj_y (y := Um.setJ m y) (unhide HR) (Int.le_refl 0) (unhide HS1) (unhide HOB) d2 (d1.at x.m m z.m)
          rw [← hY] at e1 e2
          obtain ⟨f1, f2⟩ := Um.tj_o (o := Um.setLs Y.m z) (unhide HR) (Int.le_refl 0) (unhide HS1) (e1.at x.m Y.m Y.m)
          rw [← hO] at f1 f2
          exact ⟨f1.at x.m Y.m O.m, by rw [f2]; show Um.past (Y.m.ws _) 5 = false; rw [e2]; exact d2⟩)
        have HHY := hide hY
        have HHO := hide hO
        clear hY hO hz
        go_wp2_with fail
        refine (jStep_any (sl := 0) (sd := 1) (b := b7) (sn := 5) hS 3 4 6 (Um.setJ m y) Y (unhide HHY) rfl rfl rfl (by decide) (by decide) (by decide) (unhide HR) ((unhide HOY) m (unhide HW)) (by decide) (by decide) (by decide) (by decide)).mono ?_
        rintro r u ⟨rfl, hOn, hSn⟩
        clear hS
        have hS := hSn
        clear hSn
        dsimp only [putL, List.set, List.cons_append, List.nil_append] at hS
        have HOkY := hide hOn.okw
        have HWkY := hide hOn.wd
        clear hOn
        go_wp2_with fail
        refine (oStep_any (sl := 0) (sd := 0) (b := 7) hS 3 4 7 (Um.setLs Y.m z) O (unhide HHO) rfl rfl rfl (by decide) (by decide) (by decide) (unhide HR) ((unhide HOZ) Y.m (unhide HWkY)) (by decide) (by decide)).mono ?_
        rintro r u ⟨rfl, hOn, hSn⟩
        clear hS
        have hS := hSn
        clear hSn
        dsimp only [putL, List.set, List.cons_append, List.nil_append] at hS
        have HOkO := hide hOn.okw
        have HWkO := hide hOn.wd
        clear hOn
        have HS6 := hide hS
        clear hS q9
        go_wp2
        exact ⟨⟨j + 1, O.m, x, Y, O, by omega, by go_num, HD2, HWkO, HOX, HOkY, HOkO, HS6⟩, by simp [intOf]; omega⟩
    · have hge : ¬ (j : Int) < (nl : Int) := by omega
      obtain ⟨d1, d2⟩ := unhide HD
      obtain ⟨A, hA⟩ : ∃ A, A = Um.jit c 0 0 a7 5 (Um.setJ m x) 50 := ⟨_, rfl⟩
      obtain ⟨E, hE⟩ : ∃ E, E = Um.jit c 0 1 b7 5 (Um.setJ A.m y) 50 := ⟨_, rfl⟩
      obtain ⟨O, hO⟩ : ∃ O, O = Um.wit c 0 0 7 (Um.setLs E.m z) 50 := ⟨_, rfl⟩
      obtain ⟨m6, hm6⟩ : ∃ m6, m6 = Um.mtouch c O.m 1 4 0 0 0 := ⟨_, rfl⟩
      obtain ⟨e1, e2, e3⟩ := Um.tj_endx (x := Um.setJ m x) (unhide HR) (Int.le_refl 0) (unhide HS1) (unhide HOA) d2 (d1.at m y.m z.m) (by decide) A hA
      obtain ⟨f1, f2, f3⟩ := Um.tj_endy (y := Um.setJ A.m y) (unhide HR) (Int.le_refl 0) (unhide HS1) (unhide HOB) (by show Um.past (A.m.ws _) 5 = false; rw [e2]; exact d2) (e1.at A.m A.m z.m) (by decide) E hE
      obtain ⟨g1, g2⟩ := Um.tj_endo (o := Um.setLs E.m z) (unhide HR) (Int.le_refl 0) (unhide HS1) (f1.at A.m E.m E.m) (by decide) O hO
      obtain ⟨t1, t2, t3⟩ := Um.tj_tell (g1.at A.m E.m O.m) e3 f3 g2
      have HXR := hide (show ((A.r : Nat) : Int) = 2 by have t1' : A.r = 2 := t1; rw [t1']; rfl)
      have HYR := hide (show ((E.r : Nat) : Int) = 2 by have t2' : E.r = 2 := t2; rw [t2']; rfl)
      have HOD := hide g2
      have HLO := hide (show m6.l.old = Um.withN (Um.withN (Um.withN v 0 a7) 1 b7) 0 7 by
        rw [hm6, Um.load_old, if_pos (Um.slot_cells (unhide HR) (Int.le_refl 0) (unhide HS1)).1]
        exact t3)
      have HHA := hide hA
      have HHE := hide hE
      have HHO := hide hO
      have HM6 := hide hm6
      clear d1 d2 e1 e2 e3 f1 f2 f3 g1 g2 t1 t2 t3 hA hE hO hm6
      go_wp2_with fail
      refine (ends_x (sl := 0) (sd := 0) (b := a7) (sn := 5) hS 3 4 5 (Um.setJ m x) rfl rfl rfl (by decide) (by decide) (by decide) (unhide HR) ((unhide HOX) m (unhide HW)) (by decide) (by decide) (by decide) (by decide) 50 (by decide) A (unhide HHA)).mono ?_
      rintro r u ⟨N5, rfl, _, _, _, hOn, hSn⟩
      clear hS
      have hS := hSn
      clear hSn
      dsimp only [putL, List.set, List.cons_append, List.nil_append] at hS
      have HO1 := hide hOn
      clear hOn
      rw [unhide HXR]
      go_wp2_with fail
      refine (ends_x (sl := 0) (sd := 1) (b := b7) (sn := 5) hS 3 4 6 (Um.setJ A.m y) rfl rfl rfl (by decide) (by decide) (by decide) (unhide HR) ((unhide HOY) A.m (unhide HO1).wd) (by decide) (by decide) (by decide) (by decide) 50 (by decide) E (unhide HHE)).mono ?_
      rintro r u ⟨N6, rfl, _, _, _, hOn, hSn⟩
      clear hS
      have hS := hSn
      clear hSn
      dsimp only [putL, List.set, List.cons_append, List.nil_append] at hS
      have HO2 := hide hOn
      clear hOn
      rw [unhide HYR]
      go_wp2_with fail
      refine (owns_x (sl := 0) (sd := 0) (b := 7) hS 3 4 7 (Um.setLs E.m z) rfl rfl rfl (by decide) (by decide) (by decide) (unhide HR) ((unhide HOZ) E.m (unhide HO2).wd) (by decide) (by decide) 50 (by decide) O (unhide HHO)).mono ?_
      rintro r u ⟨N7, rfl, _, _, _, hOn, hSn⟩
      clear hS
      have hS := hSn
      clear hSn
      dsimp only [putL, List.set, List.cons_append, List.nil_append] at hS
      have HO3 := hide hOn
      clear hOn
      go_wp2_with fail
      obtain ⟨u5, rfl⟩ := nameW hS
      have kp0 := cell_regrown ((hS.get 2 rfl).cell 0 _ rfl)
      have kp1 := cell_regrown ((hS.get 2 rfl).cell 1 _ rfl)
      have HSQ := hide hS
      clear hS
      refine wp_region_quiet_below (by kernel_rfl) (by kernel_rfl) ?_
      repeat (go_big_quiet_step (first | (go_at_call 29; exact Calls.regrown_of (same_below (refWith_any _ _ _ _ (by first | exact unhide HVW | exact Um.with_word (unhide HVW) _ _ | exact Um.with_word (Um.with_word (unhide HVW) _ _) _ _))))))
      refine wpQuiet_nil ?_
      intro _ hw'
      obtain ⟨⟨dq, osq⟩, hw''⟩ := hw'
      subst hw''
      have hS := (unhide HSQ).call (below_regrown u5 dq osq)
      clear HSQ kp0 kp1
      generalize grow (redrawn u5 dq) osq = u8 at *
      go_wp2_with fail
      refine (jAlive_any _).mono ?_
      rintro r u ⟨rfl, hb⟩
      replace hS := hS.call hb
      clear hb
      go_wp2_with fail
      refine (oDone_any (o := O) (hS.get 7 rfl)).mono ?_
      rintro r u ⟨rfl, rfl⟩
      rw [unhide HOD]
      go_wp2_with fail
      refine (of11_any 4 0 _).mono ?_
      rintro r u ⟨rfl, hb⟩
      replace hS := hS.call hb
      clear hb
      go_wp2_with fail
      refine (mLoad_x hS 3 4 rfl rfl (by decide) (unhide HR) (unhide HO3).wd 4 0 (by decide) (by decide) m6 (unhide HM6)).mono ?_
      rintro r u ⟨rfl, hWn, hSn⟩
      clear hS
      have hS := hSn
      clear hSn
      dsimp only [putL, List.set, List.cons_append, List.nil_append] at hS
      clear hWn
      rw [unhide HLO]
      generalize Um.withN (Um.withN (Um.withN v 0 a7) 1 b7) 0 7 = tt
      have hbb : (((tt : Nat) : Int) == ((tt : Nat) : Int)) = true := by simp
      have hB := hS.bel
      clear hS
      go_wp2
      go_ret
      exact ⟨rfl, hB⟩

theorem walk {H : Type} {enc : TypeId × Value → H} {base : Nat} {v0 v1 v2 : Value} {d0 d1 d2 : DataW H} {p0 p1 p2 : List MemPlace} (w : World)
    (hv0 : Value.okWide Try.prog w .any base 24 v0) (h0 : DataW.Trod enc Try.prog w 0 (fun _ => true) true 24 v0 d0 p0)
    (hv1 : Value.okWide Try.prog w .any base 68 v1) (h1 : DataW.Trod enc Try.prog w 0 (fun _ => true) true 68 v1 d1 p1)
    (hv2 : Value.okWide Try.prog w .any base 71 v2) (h2 : DataW.Trod enc Try.prog w 0 (fun _ => true) true 71 v2 d2 p2) :
    Calls Try.prog 7 #[v0, v1, v2] w fun e w' => e = .returned (.bool true) ∧ Below w.heap.size w w' := by
  obtain ⟨ct, s, k, g0, q, rfl, hsb⟩ := open_cfg hv0 h0
  obtain ⟨g, st, b, i, o, n, t, rfl⟩ := open_status11 hv1 h1
  obtain ⟨ta, tb, la, nl, cl, Z, rfl, _, _, hnc, hZ⟩ := open_turns11 hv2 h2
  cases hr : (⟨ct, s, k, g0, q⟩ : Um.Cf).r with
  | false => exact walk_wrong w ⟨ct, s, k, g0, q⟩ g st b i o n t ta tb la nl cl hr
  | true =>
    cases hk : Um.okSt g 2 n t with
    | false => exact walk_bad w ⟨ct, s, k, g0, q⟩ g st b i o n t ta tb la nl cl hr hk
    | true =>
      by_cases hb : 100 < nl
      · exact walk_long w ⟨ct, s, k, g0, q⟩ g st b i o n t ta tb la nl cl hr hk hb
      · exact walk_right w ⟨ct, s, k, g0, q⟩ g st b i o n t ta tb la nl cl Z hr hk hb hnc hZ

set_option maxRecDepth 100000 in
theorem lifted (os : Os) (started : os.Started) (H : Type) (enc : TypeId × Value → H) :
    ReturnsInHanded {} Try.checked os 7 .any (Rows.joinTwoSpec.pre6 enc Try.prog Try.f7 Rows.joinTwoRow.domain false) (Rows.joinTwoSpec.post enc Try.prog Try.f7 false true false false) := by
  refine returnsInHanded_of_change (C := Try.checked) own started (by kernel_rfl) Try.func7
    (ChangeSpec.witness6 (enc := enc) (C := Try.checked) false ⟨#[], #[.agg #[.int .i64 0, .int .i64 0, .int .i64 0, .int .i64 0, .int .u64 0], .agg #[.int .i64 0, .int .i64 0, .bool false, .bool false, .bool false, .int .i64 0, .int .i64 0], .agg #[.int .i64 0, .int .i64 0, .slice none 0 0]], []⟩ 8 (by kernel_rfl) (by kernel_rfl) (by kernel_rfl) (by kernel_rfl)) ?_
  intro W base args ds gs before hval0 hW hcnd _
  have hval : ∀ (j : Nat) t v, Try.f7.params[j]? = some t → args[j]? = some v → Value.okWide Try.prog W .any base t v := hval0
  have hW' := hW
  obtain ⟨p, q, hA0, hV, rfl, hfz, hnd⟩ := hW
  have hA : DataW.TrodAll enc Try.prog W 0 (fun _ => true) true Try.f7.params.toList args.toList ds p := hA0
  rw [Try.params7] at hA hval
  obtain ⟨v0, vs0, d0, ds0, p0, q0, hargs, rfl, rfl, h0, r0⟩ := trodAll_cons hA
  obtain ⟨v1, vs1, d1, ds1, p1, q1, rfl, rfl, rfl, h1, r1⟩ := trodAll_cons r0
  obtain ⟨v2, vs2, d2, ds2, p2, q2, rfl, rfl, rfl, h2, r2⟩ := trodAll_cons r1
  obtain ⟨rfl, rfl, rfl⟩ := trodAll_nil r2
  obtain rfl : args = #[v0, v1, v2] := by cases args; simp_all
  obtain ⟨rfl, rfl⟩ := trodVars_none hV
  have k0 := h0
  have lt0 : ∀ x ∈ p0, x.block < W.heap.size := by obtain ⟨m, hm⟩ := k0; exact DataW.trod_lt m _ _ _ hm
  have k1 := h1
  have lt1 : ∀ x ∈ p1, x.block < W.heap.size := by obtain ⟨m, hm⟩ := k1; exact DataW.trod_lt m _ _ _ hm
  have k2 := h2
  have lt2 : ∀ x ∈ p2, x.block < W.heap.size := by obtain ⟨m, hm⟩ := k2; exact DataW.trod_lt m _ _ _ hm
  refine (walk W (hval 0 24 v0 rfl rfl) h0 (hval 1 68 v1 rfl rfl) h1 (hval 2 71 v2 rfl rfl) h2).mono fun e W' ⟨he, bel⟩ => ?_
  subst he
  exact ⟨_, rfl, _, _, _, [], _, [], hW', trodAll_mk1 (shut_bool Try.underlying4 _), (trodAll_cons_mk (Below.trod laidOut (by kernel_rfl) (of_decide_eq_true (by kernel_rfl)) k0 bel lt0) (trodAll_cons_mk (Below.trod laidOut (by kernel_rfl) (of_decide_eq_true (by kernel_rfl)) k1 bel lt1) (trodAll_cons_mk (Below.trod laidOut (by kernel_rfl) (of_decide_eq_true (by kernel_rfl)) k2 bel lt2) trodAll_mk0))), rfl, bel.frame _, fun h => by cases h⟩

theorem JoinTwo_proved : Rows.JoinTwoSaid :=
  OpenClaim.holds_of_wide 7 Try.f7 rfl rfl rfl rfl rfl rfl rfl ⟨rfl, rfl, rfl, rfl, rfl⟩ rfl rfl rfl rfl rfl (by kernel_rfl) Try.func7 (by kernel_rfl)
    (of_decide_eq_true (by kernel_rfl)) (by unfold Func.isWrapper; first | (rw [if_pos (by decide +kernel)]; kernel_rfl) | (rw [if_neg (by decide +kernel)]; exact ⟨rfl, rfl⟩))
    (fun os started H enc _ => lifted os started H enc)

end Go.Proofs.Ytcpmclidndmgeaa.joinTwo
