/-
  For every world's size, number of commits and row of integers, the law OpenSeen answers true: whatever commits are counted meanwhile, a beginning's snapshot is how many there were at some moment while it went on. Conditions: none.
-/
import Derived.Test.YtkiaogbddfjkkaaRows
import Derived.Test.YtkiaogbddfjkkaaM17
import Derived.WalkKit
import Derived.ProofKit
import Derived.OpenShut
import Derived.ShutString
import Derived.LoopTactic
import Derived.Lib.QuietBelow
import Derived.Deep.RegionHeld3
namespace Go.Proofs.Ytkiaogbddfjkkaa.openSeen
set_option maxRecDepth 100000
open Go.ChangeShapes Go.WideShapes Go.ChangeAt Go.RowKit Go.Sort
set_option linter.unusedVariables false

theorem own : ownKnob Try.prog.godebug = none := by kernel_rfl
theorem laidOut : laidOutB Try.prog = true := by kernel_rfl

set_option maxHeartbeats 2000000 in
theorem walk_wrong (w : World) (c : Um.Cf) (sq : Nat) (la : Option Addr) (nl cl : Nat) (h : c.r = false) :
    Calls Try.prog 9 #[(.agg #[.int .i64 (c.t), .int .i64 (c.s), .int .i64 (c.k), .int .i64 (c.g), .int .u64 (c.q : Int)]), .int .u64 (sq : Nat), .slice la nl cl] w fun e w' => e = .returned (.bool true) ∧ Below w.heap.size w w' := by
  have HL := hide (fun w => sNew_wrong c w h)
  clear h
  have hS := Sx.new w
  go_enter Try.func9, Try.ntmps9
  go_wp2_with (first | (refine wpx_box hS rfl _ _ rfl _ rfl _ (by intro _; simp only [Act.put, List.setIfInBounds_toArray, List.set_cons_zero, List.set_cons_succ]; first | done | exact rfl) ?_; clear hS; intro _ _ hS; dsimp only [blit, List.set, List.cons_append, List.nil_append, Value.cells, List.toList_toArray] at hS) | (refine wpx_alloc hS rfl _ rfl _ (zer_any2 rfl) _ (by intro _; simp only [Act.put, List.setIfInBounds_toArray, List.set_cons_zero, List.set_cons_succ]; first | done | exact rfl) ?_; clear hS; intro _ _ hS; dsimp only [blit, List.set, List.cons_append, List.nil_append, Value.cells, List.toList_toArray] at hS) | (refine wpx_ld hS rfl _ _ rfl _ _ rfl ?_; (first | refine ⟨0, _, rfl, ?_⟩ | refine ⟨1, _, rfl, ?_⟩ | refine ⟨2, _, rfl, ?_⟩ | refine ⟨3, _, rfl, ?_⟩ | refine ⟨4, _, rfl, ?_⟩ | refine ⟨5, _, rfl, ?_⟩ | refine ⟨6, _, rfl, ?_⟩ | refine ⟨7, _, rfl, ?_⟩ | refine ⟨8, _, rfl, ?_⟩ | refine ⟨9, _, rfl, ?_⟩); first | refine .inl ⟨_, one_any2 rfl, rfl, _, (by simp only [Act.put, List.setIfInBounds_toArray, List.set_cons_zero, List.set_cons_succ]; first | done | exact rfl), ?_⟩ | refine .inr ⟨_, _, row_any2 rfl, rfl, (by dsimp only [cutL, List.drop, List.take]; first | done | exact rfl), _, (by simp only [Act.put, List.setIfInBounds_toArray, List.set_cons_zero, List.set_cons_succ]; first | done | exact rfl), ?_⟩) | (refine wpx_st hS rfl _ _ _ rfl rfl _ _ rfl ?_; (first | refine ⟨0, _, rfl, ?_⟩ | refine ⟨1, _, rfl, ?_⟩ | refine ⟨2, _, rfl, ?_⟩ | refine ⟨3, _, rfl, ?_⟩ | refine ⟨4, _, rfl, ?_⟩ | refine ⟨5, _, rfl, ?_⟩ | refine ⟨6, _, rfl, ?_⟩ | refine ⟨7, _, rfl, ?_⟩ | refine ⟨8, _, rfl, ?_⟩ | refine ⟨9, _, rfl, ?_⟩); refine ⟨_, (by first | exact shA rfl | exact shI rfl | exact shB rfl | exact shS rfl | exact shP rfl | exact shF rfl | exact shN rfl), _, siz_any2 rfl, (by exact rfl), (by exact rfl), (by exact rfl), ?_⟩; clear hS; intro _ hS; dsimp only [blit, List.set, List.cons_append, List.nil_append, Value.cells, List.toList_toArray] at hS))
  refine ((unhide HL) _).mono ?_
  rintro r u ⟨rfl, hb⟩
  replace hS := hS.call hb
  clear hb HL
  go_wp2_with fail
  refine (onew_any hS (⟨fun _ => 0, 0, Um.noT⟩ : Um.Mm)).mono ?_
  rintro r u ⟨P, K, rfl, hSn⟩
  clear hS
  have hS := hSn
  clear hSn
  dsimp only [putL, List.set, List.cons_append, List.nil_append] at hS
  go_wp2_with fail
  refine (oAlive_any _).mono ?_
  rintro r u ⟨rfl, hb⟩
  replace hS := hS.call hb
  have hB := hS.bel
  clear hb hS
  go_wp2
  go_ret
  exact ⟨rfl, hB⟩

set_option maxHeartbeats 2000000 in
theorem walk_long (w : World) (c : Um.Cf) (sq : Nat) (la : Option Addr) (nl cl : Nat) (h : c.r = true) (hb : 50 < nl) :
    Calls Try.prog 9 #[(.agg #[.int .i64 (c.t), .int .i64 (c.s), .int .i64 (c.k), .int .i64 (c.g), .int .u64 (c.q : Int)]), .int .u64 (sq : Nat), .slice la nl cl] w fun e w' => e = .returned (.bool true) ∧ Below w.heap.size w w' := by
  have HR := hide h
  clear h
  have b1 : (50 : Int) < (nl : Int) := by omega
  have b2 : decide ((50 : Int) < (nl : Int)) = true := decide_eq_true b1
  have hS := Sx.new w
  go_enter Try.func9, Try.ntmps9
  go_wp2_with (first | (refine wpx_box hS rfl _ _ rfl _ rfl _ (by intro _; simp only [Act.put, List.setIfInBounds_toArray, List.set_cons_zero, List.set_cons_succ]; first | done | exact rfl) ?_; clear hS; intro _ _ hS; dsimp only [blit, List.set, List.cons_append, List.nil_append, Value.cells, List.toList_toArray] at hS) | (refine wpx_alloc hS rfl _ rfl _ (zer_any2 rfl) _ (by intro _; simp only [Act.put, List.setIfInBounds_toArray, List.set_cons_zero, List.set_cons_succ]; first | done | exact rfl) ?_; clear hS; intro _ _ hS; dsimp only [blit, List.set, List.cons_append, List.nil_append, Value.cells, List.toList_toArray] at hS) | (refine wpx_ld hS rfl _ _ rfl _ _ rfl ?_; (first | refine ⟨0, _, rfl, ?_⟩ | refine ⟨1, _, rfl, ?_⟩ | refine ⟨2, _, rfl, ?_⟩ | refine ⟨3, _, rfl, ?_⟩ | refine ⟨4, _, rfl, ?_⟩ | refine ⟨5, _, rfl, ?_⟩ | refine ⟨6, _, rfl, ?_⟩ | refine ⟨7, _, rfl, ?_⟩ | refine ⟨8, _, rfl, ?_⟩ | refine ⟨9, _, rfl, ?_⟩); first | refine .inl ⟨_, one_any2 rfl, rfl, _, (by simp only [Act.put, List.setIfInBounds_toArray, List.set_cons_zero, List.set_cons_succ]; first | done | exact rfl), ?_⟩ | refine .inr ⟨_, _, row_any2 rfl, rfl, (by dsimp only [cutL, List.drop, List.take]; first | done | exact rfl), _, (by simp only [Act.put, List.setIfInBounds_toArray, List.set_cons_zero, List.set_cons_succ]; first | done | exact rfl), ?_⟩) | (refine wpx_st hS rfl _ _ _ rfl rfl _ _ rfl ?_; (first | refine ⟨0, _, rfl, ?_⟩ | refine ⟨1, _, rfl, ?_⟩ | refine ⟨2, _, rfl, ?_⟩ | refine ⟨3, _, rfl, ?_⟩ | refine ⟨4, _, rfl, ?_⟩ | refine ⟨5, _, rfl, ?_⟩ | refine ⟨6, _, rfl, ?_⟩ | refine ⟨7, _, rfl, ?_⟩ | refine ⟨8, _, rfl, ?_⟩ | refine ⟨9, _, rfl, ?_⟩); refine ⟨_, (by first | exact shA rfl | exact shI rfl | exact shB rfl | exact shS rfl | exact shP rfl | exact shF rfl | exact shN rfl), _, siz_any2 rfl, (by exact rfl), (by exact rfl), (by exact rfl), ?_⟩; clear hS; intro _ hS; dsimp only [blit, List.set, List.cons_append, List.nil_append, Value.cells, List.toList_toArray] at hS))
  refine (new_x hS c (unhide HR)).mono ?_
  rintro r u ⟨B, C, rfl, hWn, hSn⟩
  clear hS
  have hS := hSn
  clear hSn
  dsimp only [putL, List.set, List.cons_append, List.nil_append] at hS
  have HW0 := hide hWn
  clear hWn
  go_wp2_with fail
  refine (onew_any hS (⟨fun _ => 0, 0, Um.noT⟩ : Um.Mm)).mono ?_
  rintro r u ⟨P, K, rfl, hSn⟩
  clear hS
  have hS := hSn
  clear hSn
  dsimp only [putL, List.set, List.cons_append, List.nil_append] at hS
  go_wp2_with fail
  refine (oAlive_any _).mono ?_
  rintro r u ⟨rfl, hb⟩
  replace hS := hS.call hb
  have hB := hS.bel
  clear hb hS
  go_wp2
  go_ret
  exact ⟨rfl, hB⟩

set_option maxHeartbeats 2000000 in
theorem walk_big (w : World) (c : Um.Cf) (sq : Nat) (la : Option Addr) (nl cl : Nat) (h : c.r = true) (hb : ¬ 50 < nl) (hq : 1000 < sq) :
    Calls Try.prog 9 #[(.agg #[.int .i64 (c.t), .int .i64 (c.s), .int .i64 (c.k), .int .i64 (c.g), .int .u64 (c.q : Int)]), .int .u64 (sq : Nat), .slice la nl cl] w fun e w' => e = .returned (.bool true) ∧ Below w.heap.size w w' := by
  have HR := hide h
  clear h
  have b1 : ¬ (50 : Int) < (nl : Int) := by omega
  have b2 : decide ((50 : Int) < (nl : Int)) = false := decide_eq_false b1
  have b3 : (1000 : Int) < (sq : Int) := by omega
  have b4 : decide ((1000 : Int) < (sq : Int)) = true := decide_eq_true b3
  have hS := Sx.new w
  go_enter Try.func9, Try.ntmps9
  go_wp2_with (first | (refine wpx_box hS rfl _ _ rfl _ rfl _ (by intro _; simp only [Act.put, List.setIfInBounds_toArray, List.set_cons_zero, List.set_cons_succ]; first | done | exact rfl) ?_; clear hS; intro _ _ hS; dsimp only [blit, List.set, List.cons_append, List.nil_append, Value.cells, List.toList_toArray] at hS) | (refine wpx_alloc hS rfl _ rfl _ (zer_any2 rfl) _ (by intro _; simp only [Act.put, List.setIfInBounds_toArray, List.set_cons_zero, List.set_cons_succ]; first | done | exact rfl) ?_; clear hS; intro _ _ hS; dsimp only [blit, List.set, List.cons_append, List.nil_append, Value.cells, List.toList_toArray] at hS) | (refine wpx_ld hS rfl _ _ rfl _ _ rfl ?_; (first | refine ⟨0, _, rfl, ?_⟩ | refine ⟨1, _, rfl, ?_⟩ | refine ⟨2, _, rfl, ?_⟩ | refine ⟨3, _, rfl, ?_⟩ | refine ⟨4, _, rfl, ?_⟩ | refine ⟨5, _, rfl, ?_⟩ | refine ⟨6, _, rfl, ?_⟩ | refine ⟨7, _, rfl, ?_⟩ | refine ⟨8, _, rfl, ?_⟩ | refine ⟨9, _, rfl, ?_⟩); first | refine .inl ⟨_, one_any2 rfl, rfl, _, (by simp only [Act.put, List.setIfInBounds_toArray, List.set_cons_zero, List.set_cons_succ]; first | done | exact rfl), ?_⟩ | refine .inr ⟨_, _, row_any2 rfl, rfl, (by dsimp only [cutL, List.drop, List.take]; first | done | exact rfl), _, (by simp only [Act.put, List.setIfInBounds_toArray, List.set_cons_zero, List.set_cons_succ]; first | done | exact rfl), ?_⟩) | (refine wpx_st hS rfl _ _ _ rfl rfl _ _ rfl ?_; (first | refine ⟨0, _, rfl, ?_⟩ | refine ⟨1, _, rfl, ?_⟩ | refine ⟨2, _, rfl, ?_⟩ | refine ⟨3, _, rfl, ?_⟩ | refine ⟨4, _, rfl, ?_⟩ | refine ⟨5, _, rfl, ?_⟩ | refine ⟨6, _, rfl, ?_⟩ | refine ⟨7, _, rfl, ?_⟩ | refine ⟨8, _, rfl, ?_⟩ | refine ⟨9, _, rfl, ?_⟩); refine ⟨_, (by first | exact shA rfl | exact shI rfl | exact shB rfl | exact shS rfl | exact shP rfl | exact shF rfl | exact shN rfl), _, siz_any2 rfl, (by exact rfl), (by exact rfl), (by exact rfl), ?_⟩; clear hS; intro _ hS; dsimp only [blit, List.set, List.cons_append, List.nil_append, Value.cells, List.toList_toArray] at hS))
  refine (new_x hS c (unhide HR)).mono ?_
  rintro r u ⟨B, C, rfl, hWn, hSn⟩
  clear hS
  have hS := hSn
  clear hSn
  dsimp only [putL, List.set, List.cons_append, List.nil_append] at hS
  have HW0 := hide hWn
  clear hWn
  go_wp2_with fail
  refine (onew_any hS (⟨fun _ => 0, 0, Um.noT⟩ : Um.Mm)).mono ?_
  rintro r u ⟨P, K, rfl, hSn⟩
  clear hS
  have hS := hSn
  clear hSn
  dsimp only [putL, List.set, List.cons_append, List.nil_append] at hS
  go_wp2_with fail
  refine (oAlive_any _).mono ?_
  rintro r u ⟨rfl, hb⟩
  replace hS := hS.call hb
  have hB := hS.bel
  clear hb hS
  go_wp2
  go_ret
  exact ⟨rfl, hB⟩

set_option maxRecDepth 100000 in
set_option maxHeartbeats 8000000 in
theorem walk_right (w : World) (c : Um.Cf) (sq : Nat) (la : Option Addr) (nl cl : Nat) (Z : Nat → Int) (h : c.r = true) (hb : ¬ 50 < nl) (hq : ¬ 1000 < sq) (hcl : nl ≤ cl) (hZ : RowOf w la nl (fun i => .int .i64 (Z i))) :
    Calls Try.prog 9 #[(.agg #[.int .i64 (c.t), .int .i64 (c.s), .int .i64 (c.k), .int .i64 (c.g), .int .u64 (c.q : Int)]), .int .u64 (sq : Nat), .slice la nl cl] w fun e w' => e = .returned (.bool true) ∧ Below w.heap.size w w' := by
  have b1 : ¬ (50 : Int) < (nl : Int) := by omega
  have b2 : decide ((50 : Int) < (nl : Int)) = false := decide_eq_false b1
  have b3 : ¬ (1000 : Int) < (sq : Int) := by omega
  have b4 : decide ((1000 : Int) < (sq : Int)) = false := decide_eq_false b3
  have HZ := hide hZ
  obtain ⟨x0, hx0⟩ : ∃ x0, x0 = 16 * sq := ⟨_, rfl⟩
  have HZ1 := hide (show 16 * (sq : Int) = ((x0 : Nat) : Int) by omega)
  have HXW := hide (show Um.Word x0 by unfold Um.Word; omega)
  obtain ⟨m1, hm1⟩ : ∃ m1, m1 = Um.mtouch c (⟨fun _ => 0, 0, Um.noT⟩ : Um.Mm) 2 1 0 0 x0 := ⟨_, rfl⟩
  have HD0 := hide (Um.seen_new h (⟨fun _ => 0, 0, Um.noT⟩ : Um.Mm) m1 (fun _ => rfl) sq (by rw [hm1, hx0]))
  have HM1 := hide hm1
  have hnl : nl ≤ 50 := by omega
  have hsq : sq ≤ 1000 := by omega
  clear hZ hm1
  have HR := hide h
  clear h
  have hS := Sx.new w
  go_enter Try.func9, Try.ntmps9
  go_wp2_with (first | (refine wpx_box hS rfl _ _ rfl _ rfl _ (by intro _; simp only [Act.put, List.setIfInBounds_toArray, List.set_cons_zero, List.set_cons_succ]; first | done | exact rfl) ?_; clear hS; intro _ _ hS; dsimp only [blit, List.set, List.cons_append, List.nil_append, Value.cells, List.toList_toArray] at hS) | (refine wpx_alloc hS rfl _ rfl _ (zer_any2 rfl) _ (by intro _; simp only [Act.put, List.setIfInBounds_toArray, List.set_cons_zero, List.set_cons_succ]; first | done | exact rfl) ?_; clear hS; intro _ _ hS; dsimp only [blit, List.set, List.cons_append, List.nil_append, Value.cells, List.toList_toArray] at hS) | (refine wpx_ld hS rfl _ _ rfl _ _ rfl ?_; (first | refine ⟨0, _, rfl, ?_⟩ | refine ⟨1, _, rfl, ?_⟩ | refine ⟨2, _, rfl, ?_⟩ | refine ⟨3, _, rfl, ?_⟩ | refine ⟨4, _, rfl, ?_⟩ | refine ⟨5, _, rfl, ?_⟩ | refine ⟨6, _, rfl, ?_⟩ | refine ⟨7, _, rfl, ?_⟩ | refine ⟨8, _, rfl, ?_⟩ | refine ⟨9, _, rfl, ?_⟩); first | refine .inl ⟨_, one_any2 rfl, rfl, _, (by simp only [Act.put, List.setIfInBounds_toArray, List.set_cons_zero, List.set_cons_succ]; first | done | exact rfl), ?_⟩ | refine .inr ⟨_, _, row_any2 rfl, rfl, (by dsimp only [cutL, List.drop, List.take]; first | done | exact rfl), _, (by simp only [Act.put, List.setIfInBounds_toArray, List.set_cons_zero, List.set_cons_succ]; first | done | exact rfl), ?_⟩) | (refine wpx_st hS rfl _ _ _ rfl rfl _ _ rfl ?_; (first | refine ⟨0, _, rfl, ?_⟩ | refine ⟨1, _, rfl, ?_⟩ | refine ⟨2, _, rfl, ?_⟩ | refine ⟨3, _, rfl, ?_⟩ | refine ⟨4, _, rfl, ?_⟩ | refine ⟨5, _, rfl, ?_⟩ | refine ⟨6, _, rfl, ?_⟩ | refine ⟨7, _, rfl, ?_⟩ | refine ⟨8, _, rfl, ?_⟩ | refine ⟨9, _, rfl, ?_⟩); refine ⟨_, (by first | exact shA rfl | exact shI rfl | exact shB rfl | exact shS rfl | exact shP rfl | exact shF rfl | exact shN rfl), _, siz_any2 rfl, (by exact rfl), (by exact rfl), (by exact rfl), ?_⟩; clear hS; intro _ hS; dsimp only [blit, List.set, List.cons_append, List.nil_append, Value.cells, List.toList_toArray] at hS))
  refine (new_x hS c (unhide HR)).mono ?_
  rintro r u ⟨B, C, rfl, hWn, hSn⟩
  clear hS
  have hS := hSn
  clear hSn
  dsimp only [putL, List.set, List.cons_append, List.nil_append] at hS
  have HW0 := hide hWn
  clear hWn
  go_wp2_with fail
  refine (onew_any hS (⟨fun _ => 0, 0, Um.noT⟩ : Um.Mm)).mono ?_
  rintro r u ⟨P, K, rfl, hSn⟩
  clear hS
  have hS := hSn
  clear hSn
  dsimp only [putL, List.set, List.cons_append, List.nil_append] at hS
  go_wp2_with fail
  refine (of9_any 1 0 _).mono ?_
  rintro r u ⟨rfl, hb⟩
  replace hS := hS.call hb
  clear hb
  clear b1 b2 b3 b4
  go_wp2_with fail
  rw [unhide HZ1]
  refine (mStore_x hS 1 2 rfl rfl (by decide) (unhide HR) (unhide HW0) 1 0 x0 (unhide HXW) (by decide) (by decide) m1 (unhide HM1)).mono ?_
  rintro r u ⟨rfl, hWn, hSn⟩
  clear hS
  have hS := hSn
  clear hSn
  dsimp only [putL, List.set, List.cons_append, List.nil_append] at hS
  have HW1 := hide hWn
  clear hWn
  clear hx0
  go_wp2_with (first | (refine wpx_box hS rfl _ _ rfl _ rfl _ (by intro _; simp only [Act.put, List.setIfInBounds_toArray, List.set_cons_zero, List.set_cons_succ]; first | done | exact rfl) ?_; clear hS; intro _ _ hS; dsimp only [blit, List.set, List.cons_append, List.nil_append, Value.cells, List.toList_toArray] at hS) | (refine wpx_alloc hS rfl _ rfl _ (zer_any2 rfl) _ (by intro _; simp only [Act.put, List.setIfInBounds_toArray, List.set_cons_zero, List.set_cons_succ]; first | done | exact rfl) ?_; clear hS; intro _ _ hS; dsimp only [blit, List.set, List.cons_append, List.nil_append, Value.cells, List.toList_toArray] at hS) | (refine wpx_ld hS rfl _ _ rfl _ _ rfl ?_; (first | refine ⟨0, _, rfl, ?_⟩ | refine ⟨1, _, rfl, ?_⟩ | refine ⟨2, _, rfl, ?_⟩ | refine ⟨3, _, rfl, ?_⟩ | refine ⟨4, _, rfl, ?_⟩ | refine ⟨5, _, rfl, ?_⟩ | refine ⟨6, _, rfl, ?_⟩ | refine ⟨7, _, rfl, ?_⟩ | refine ⟨8, _, rfl, ?_⟩ | refine ⟨9, _, rfl, ?_⟩); first | refine .inl ⟨_, one_any2 rfl, rfl, _, (by simp only [Act.put, List.setIfInBounds_toArray, List.set_cons_zero, List.set_cons_succ]; first | done | exact rfl), ?_⟩ | refine .inr ⟨_, _, row_any2 rfl, rfl, (by dsimp only [cutL, List.drop, List.take]; first | done | exact rfl), _, (by simp only [Act.put, List.setIfInBounds_toArray, List.set_cons_zero, List.set_cons_succ]; first | done | exact rfl), ?_⟩) | (refine wpx_st hS rfl _ _ _ rfl rfl _ _ rfl ?_; (first | refine ⟨0, _, rfl, ?_⟩ | refine ⟨1, _, rfl, ?_⟩ | refine ⟨2, _, rfl, ?_⟩ | refine ⟨3, _, rfl, ?_⟩ | refine ⟨4, _, rfl, ?_⟩ | refine ⟨5, _, rfl, ?_⟩ | refine ⟨6, _, rfl, ?_⟩ | refine ⟨7, _, rfl, ?_⟩ | refine ⟨8, _, rfl, ?_⟩ | refine ⟨9, _, rfl, ?_⟩); refine ⟨_, (by first | exact shA rfl | exact shI rfl | exact shB rfl | exact shS rfl | exact shP rfl | exact shF rfl | exact shN rfl), _, siz_any2 rfl, (by exact rfl), (by exact rfl), (by exact rfl), ?_⟩; clear hS; intro _ hS; dsimp only [blit, List.set, List.cons_append, List.nil_append, Value.cells, List.toList_toArray] at hS))
  obtain ⟨CF, rfl⟩ := nameB hS 0 rfl
  go_loopw [10, 52] (fun wn i wr => ∃ (j now : Nat) (m : Um.Mm) (o : Um.Os) (nt : Option Addr) (q : Nat), j ≤ nl ∧ wn = .int .u64 (now : Nat) ∧ i = .int .i64 j ∧ now ≤ sq + j ∧ Hid (Um.Seen c m o sq now) ∧ Hid (WordsOk c m) ∧ Hid (Um.OkW c o) ∧ Hid (QB o q) ∧ Hid (Sx [] w wr [(CF, [.int .i64 c.t, .int .i64 c.s, .int .i64 c.k, .int .i64 c.g, .int .u64 c.q]), (B, memL c C m), (C, rowW m.ws c.n), (P, opnL K P nt q o), (K, [.int .i64 o.sl])] [])) (fun _ i _ => nl - (intOf i).toNat)
  case atStart => exact ⟨0, sq, m1, Um.onew m1, none, 0, Nat.zero_le _, rfl, rfl, by omega, HD0, HW1, hide (onew_ok (unhide HR) (unhide HW1)).okw, hide (qb_new _), hide hS⟩
  case round =>
    clear hS HW0 HW1 HD0
    rename_i wr
    obtain ⟨j, now, m, o, nt, q, hj, rfl, rfl, hnow, HD, HW, HO, HQ, HS⟩ := hrel
    have hS := unhide HS
    clear HS
    by_cases hlt : j < nl
    · have hlti : (j : Int) < (nl : Int) := by omega
      obtain ⟨lb, lo, hla, hlb, hlc⟩ := (unhide HZ).resolve_left (by omega)
      have q9 : wr.cell? ⟨lb, lo + j, none⟩ = some (.int .i64 (Z j)) := (hS.bel.cell (p := ⟨lb, lo + j, none⟩) hlb).trans (hlc j hlt)
      subst hla
      clear hlc
      generalize Z j = zj at q9
      by_cases h6 : o.nx = 6
      · have HDn := hide (oDone_any (hS.get 3 rfl) (show o.nx ≤ 6 by omega))
        rw [decide_eq_true h6] at HDn
        clear h6
        go_wp2_with fail
        refine (unhide HDn).mono ?_
        rintro r u ⟨rfl, rfl⟩
        clear HDn q9
        obtain ⟨A, hA⟩ : ∃ A, A = Um.oit c (Um.setM m o) 100 := ⟨_, rfl⟩
        have hD1 : Um.Seen c (Um.setM m o).m (Um.setM m o) sq now := (unhide HD).at m
        obtain ⟨hD2, hn6⟩ := Um.seen_ends (unhide HR) hD1 (k := 100) (by decide) A hA
        obtain ⟨M9, hM9⟩ : ∃ M9, M9 = Um.mtouch c A.m 1 5 0 0 0 := ⟨_, rfl⟩
        obtain ⟨qq, hqq⟩ : ∃ qq, qq = A.q := ⟨_, rfl⟩
        have hold : M9.l.old = qq := by
          have hb := c.rb (unhide HR)
          obtain ⟨s1, s2, _⟩ := Um.sl_cells (unhide HR) (f := 0) (by decide) (by omega)
          rw [hM9, Um.load_old, if_pos (by omega), hqq]
          exact hD2.sn (by omega)
        have hq4 := hD2.q (by omega)
        have ht6 := hD2.t6 hn6
        rw [← hqq] at hq4 ht6
        have HN3 := hide hD1.n3
        have HX6 := hide hn6
        have HTE := hide ht6.1
        have HTN := hide (show ((A.tn : Nat) : Int) = ((qq : Nat) : Int) by rw [ht6.2])
        have HOLD := hide (show ((M9.l.old : Nat) : Int) = ((qq : Nat) : Int) by rw [hold])
        have HM9 := hide hM9
        have HH := hide hA
        have c1 : (sq : Int) ≤ (qq : Int) := by omega
        have c2 : decide ((sq : Int) ≤ (qq : Int)) = true := decide_eq_true c1
        have c3 : (qq : Int) ≤ (now : Int) := by omega
        have c4 : decide ((qq : Int) ≤ (now : Int)) = true := decide_eq_true c3
        have c5 : ((qq : Int) == (qq : Int)) = true := by simp
        clear hA hD1 hD2 hn6 hM9 hqq hold hq4 ht6 HD
        go_wp2_with fail
        refine (ends9_x hS 1 2 3 4 (Um.setM m o) (unhide HN3) (show QB (Um.setM m o) _ from unhide HQ) rfl rfl rfl rfl (by decide) (by decide) (by decide) (by decide) (by decide) (by decide) (unhide HR) ((unhide HO) m (unhide HW)) 100 (by decide) A (unhide HH)).mono ?_
        rintro r u ⟨N1, rfl, _, _, _, hOn, nt1, q1, _, hSn⟩
        clear hS
        have hS := hSn
        clear hSn
        dsimp only [putL, List.set, List.cons_append, List.nil_append] at hS
        have HO1 := hide hOn
        clear hOn
        go_wp2_with fail
        refine (oAnswer_any (hS.get 3 rfl)).mono ?_
        rintro r u ⟨rfl, hb⟩
        replace hS := hS.call hb
        clear hb
        rw [unhide HTE, unhide HTN]
        go_wp2_with (first | (refine wpx_box hS rfl _ _ rfl _ rfl _ (by intro _; simp only [Act.put, List.setIfInBounds_toArray, List.set_cons_zero, List.set_cons_succ]; first | done | exact rfl) ?_; clear hS; intro _ _ hS; dsimp only [blit, List.set, List.cons_append, List.nil_append, Value.cells, List.toList_toArray] at hS) | (refine wpx_alloc hS rfl _ rfl _ (zer_any2 rfl) _ (by intro _; simp only [Act.put, List.setIfInBounds_toArray, List.set_cons_zero, List.set_cons_succ]; first | done | exact rfl) ?_; clear hS; intro _ _ hS; dsimp only [blit, List.set, List.cons_append, List.nil_append, Value.cells, List.toList_toArray] at hS) | (refine wpx_ld hS rfl _ _ rfl _ _ rfl ?_; (first | refine ⟨0, _, rfl, ?_⟩ | refine ⟨1, _, rfl, ?_⟩ | refine ⟨2, _, rfl, ?_⟩ | refine ⟨3, _, rfl, ?_⟩ | refine ⟨4, _, rfl, ?_⟩ | refine ⟨5, _, rfl, ?_⟩ | refine ⟨6, _, rfl, ?_⟩ | refine ⟨7, _, rfl, ?_⟩ | refine ⟨8, _, rfl, ?_⟩ | refine ⟨9, _, rfl, ?_⟩); first | refine .inl ⟨_, one_any2 rfl, rfl, _, (by simp only [Act.put, List.setIfInBounds_toArray, List.set_cons_zero, List.set_cons_succ]; first | done | exact rfl), ?_⟩ | refine .inr ⟨_, _, row_any2 rfl, rfl, (by dsimp only [cutL, List.drop, List.take]; first | done | exact rfl), _, (by simp only [Act.put, List.setIfInBounds_toArray, List.set_cons_zero, List.set_cons_succ]; first | done | exact rfl), ?_⟩) | (refine wpx_st hS rfl _ _ _ rfl rfl _ _ rfl ?_; (first | refine ⟨0, _, rfl, ?_⟩ | refine ⟨1, _, rfl, ?_⟩ | refine ⟨2, _, rfl, ?_⟩ | refine ⟨3, _, rfl, ?_⟩ | refine ⟨4, _, rfl, ?_⟩ | refine ⟨5, _, rfl, ?_⟩ | refine ⟨6, _, rfl, ?_⟩ | refine ⟨7, _, rfl, ?_⟩ | refine ⟨8, _, rfl, ?_⟩ | refine ⟨9, _, rfl, ?_⟩); refine ⟨_, (by first | exact shA rfl | exact shI rfl | exact shB rfl | exact shS rfl | exact shP rfl | exact shF rfl | exact shN rfl), _, siz_any2 rfl, (by exact rfl), (by exact rfl), (by exact rfl), ?_⟩; clear hS; intro _ hS; dsimp only [blit, List.set, List.cons_append, List.nil_append, Value.cells, List.toList_toArray] at hS))
        obtain ⟨X, rfl⟩ := nameB hS 5 rfl
        have HP := hide (hS.get 5 rfl)
        have k0 := fun w' (h : BlkAt w' X [.int .i64 0, .int .u64 (A.th : Nat), .int .u64 (qq : Nat)]) => h.cell 0 _ rfl
        have k2 := fun w' (h : BlkAt w' X [.int .i64 0, .int .u64 (A.th : Nat), .int .u64 (qq : Nat)]) => h.cell 2 _ rfl
        have HS3 := hide hS
        clear hS
        go_region_held3 (fun w' => BlkAt w' X [.int .i64 0, .int .u64 (A.th : Nat), .int .u64 (qq : Nat)]) (first | exact (unhide HP).drew | exact BlkAt.below (by assumption) (by assumption) | assumption) (first | (go_at_call 25; refine (mLoad_x (((unhide HS3).undrew hb4).call hb5) 1 2 rfl rfl (by decide) (unhide HR) (unhide HO1).wd 5 0 (by decide) (by decide) M9 (unhide HM9)).mono ?_; rintro e u7 ⟨e7, hW6, hS6⟩; rw [unhide HOLD] at e7; subst e7; have hP6 := hS6.get 5 rfl) | (go_at_call 20; refine (of9_any _ _ _).mono ?_; rintro e u5 ⟨rfl, hb5⟩) | (go_at_call 17; refine (oDone_any (((unhide HS3).undrew hb4).get 3 rfl) (unhide HO1).nx).mono ?_; rintro e u6 ⟨e6, rfl⟩; rw [decide_eq_true (unhide HX6)] at e6; subst e6) | (go_at_call 12; refine (oAlive_any _).mono ?_; rintro e u4 ⟨rfl, hb4⟩))
        have hB := hS6.bel
        clear hS6 hP6 hW6 k0 k2 HS3 HP
        go_wp2
        go_ret
        exact ⟨rfl, hB⟩
      · have HDn := hide (oDone_any (hS.get 3 rfl) (unhide HD).nx)
        rw [decide_eq_false h6] at HDn
        clear h6
        by_cases hk : bits .and .i64 zj 1 = 1
        · go_wp2_with fail
          refine (unhide HDn).mono ?_
          rintro r u ⟨rfl, rfl⟩
          clear HDn q9
          obtain ⟨n2, hn2⟩ : ∃ n2, n2 = now + 1 := ⟨_, rfl⟩
          obtain ⟨x2, hx2⟩ : ∃ x2, x2 = 16 * n2 := ⟨_, rfl⟩
          have HZ2 := hide (show 16 * ((now : Int) + 1) = ((x2 : Nat) : Int) by omega)
          have HZ3 := hide (show (now : Int) + 1 = ((n2 : Nat) : Int) by omega)
          have HXW2 := hide (show Um.Word x2 by unfold Um.Word; omega)
          obtain ⟨m2, hm2⟩ : ∃ m2, m2 = Um.mtouch c m 2 1 0 0 x2 := ⟨_, rfl⟩
          have hE := (unhide HD).more (unhide HR) (m' := m2) (by rw [hm2, hx2, hn2])
          rw [← hn2] at hE
          have HE := hide hE
          have HM2 := hide hm2
          clear hE hm2 HD
          go_wp2_with fail
          refine (of9_any 1 0 _).mono ?_
          rintro r u ⟨rfl, hb⟩
          replace hS := hS.call hb
          clear hb
          go_wp2_with fail
          rw [unhide HZ2, unhide HZ3]
          refine (mStore_x hS 1 2 rfl rfl (by decide) (unhide HR) (unhide HW) 1 0 x2 (unhide HXW2) (by decide) (by decide) m2 (unhide HM2)).mono ?_
          rintro r u ⟨rfl, hWn, hSn⟩
          clear hS
          have hS := hSn
          clear hSn
          dsimp only [putL, List.set, List.cons_append, List.nil_append] at hS
          have HW3 := hide hWn
          clear hWn
          have hnb : n2 ≤ sq + (j + 1) := by omega
          clear hx2 hk hn2
          obtain ⟨O, hO⟩ : ∃ O, O = Um.ostep c (Um.setM m2 o) := ⟨_, rfl⟩
          have hE1 : Um.Seen c (Um.setM m2 o).m (Um.setM m2 o) sq n2 := (unhide HE).at m2
          have hE2 := Um.seen_step (unhide HR) hE1
          rw [← hO] at hE2
          have HN := hide (And.intro hE1.n3 hE2.n3)
          have HD2 := hide hE2
          have HH := hide hO
          clear hE1 hE2 hO
          go_wp2_with fail
          refine (oStep_p hS 1 2 3 4 (Um.setM m2 o) O (unhide HH) (unhide HN).1 (unhide HN).2 (show QB (Um.setM m2 o) _ from unhide HQ) rfl rfl rfl rfl (by decide) (by decide) (by decide) (by decide) (by decide) (by decide) (unhide HR) ((unhide HO) m2 (unhide HW3))).mono ?_
          rintro r u ⟨rfl, hOn, nt2, q2, hQn, hSn⟩
          clear hS
          have hS := hSn
          clear hSn
          dsimp only [putL, List.set, List.cons_append, List.nil_append] at hS
          have HS6 := hide hS
          have HO2 := hide hOn.okw
          have HW2 := hide hOn.wd
          have HQ2 := hide hQn
          clear hS hOn hQn
          go_wp2
          exact ⟨⟨j + 1, n2, O.m, O, nt2, q2, by omega, rfl, by go_num, by omega, HD2, HW2, HO2, HQ2, HS6⟩, by simp [intOf]; omega⟩
        · have hk2 : (bits .and .i64 zj 1 == 1) = false := by simpa using hk
          go_wp2_with fail
          refine (unhide HDn).mono ?_
          rintro r u ⟨rfl, rfl⟩
          clear HDn q9
          go_wp2_with fail
          clear hk hk2
          obtain ⟨O, hO⟩ : ∃ O, O = Um.ostep c (Um.setM m o) := ⟨_, rfl⟩
          have hE1 : Um.Seen c (Um.setM m o).m (Um.setM m o) sq now := (unhide HD).at m
          have hE2 := Um.seen_step (unhide HR) hE1
          rw [← hO] at hE2
          have HN := hide (And.intro hE1.n3 hE2.n3)
          have HD2 := hide hE2
          have HH := hide hO
          clear hE1 hE2 hO
          try go_wp2_with fail
          refine (oStep_p hS 1 2 3 4 (Um.setM m o) O (unhide HH) (unhide HN).1 (unhide HN).2 (show QB (Um.setM m o) _ from unhide HQ) rfl rfl rfl rfl (by decide) (by decide) (by decide) (by decide) (by decide) (by decide) (unhide HR) ((unhide HO) m (unhide HW))).mono ?_
          rintro r u ⟨rfl, hOn, nt2, q2, hQn, hSn⟩
          clear hS
          have hS := hSn
          clear hSn
          dsimp only [putL, List.set, List.cons_append, List.nil_append] at hS
          have HS6 := hide hS
          have HO2 := hide hOn.okw
          have HW2 := hide hOn.wd
          have HQ2 := hide hQn
          clear hS hOn hQn
          go_wp2
          exact ⟨⟨j + 1, now, O.m, O, nt2, q2, by omega, rfl, by go_num, by omega, HD2, HW2, HO2, HQ2, HS6⟩, by simp [intOf]; omega⟩
    · have hge : ¬ (j : Int) < (nl : Int) := by omega
      obtain ⟨A, hA⟩ : ∃ A, A = Um.oit c (Um.setM m o) 100 := ⟨_, rfl⟩
      have hD1 : Um.Seen c (Um.setM m o).m (Um.setM m o) sq now := (unhide HD).at m
      obtain ⟨hD2, hn6⟩ := Um.seen_ends (unhide HR) hD1 (k := 100) (by decide) A hA
      obtain ⟨M9, hM9⟩ : ∃ M9, M9 = Um.mtouch c A.m 1 5 0 0 0 := ⟨_, rfl⟩
      obtain ⟨qq, hqq⟩ : ∃ qq, qq = A.q := ⟨_, rfl⟩
      have hold : M9.l.old = qq := by
        have hb := c.rb (unhide HR)
        obtain ⟨s1, s2, _⟩ := Um.sl_cells (unhide HR) (f := 0) (by decide) (by omega)
        rw [hM9, Um.load_old, if_pos (by omega), hqq]
        exact hD2.sn (by omega)
      have hq4 := hD2.q (by omega)
      have ht6 := hD2.t6 hn6
      rw [← hqq] at hq4 ht6
      have HN3 := hide hD1.n3
      have HX6 := hide hn6
      have HTE := hide ht6.1
      have HTN := hide (show ((A.tn : Nat) : Int) = ((qq : Nat) : Int) by rw [ht6.2])
      have HOLD := hide (show ((M9.l.old : Nat) : Int) = ((qq : Nat) : Int) by rw [hold])
      have HM9 := hide hM9
      have HH := hide hA
      have c1 : (sq : Int) ≤ (qq : Int) := by omega
      have c2 : decide ((sq : Int) ≤ (qq : Int)) = true := decide_eq_true c1
      have c3 : (qq : Int) ≤ (now : Int) := by omega
      have c4 : decide ((qq : Int) ≤ (now : Int)) = true := decide_eq_true c3
      have c5 : ((qq : Int) == (qq : Int)) = true := by simp
      clear hA hD1 hD2 hn6 hM9 hqq hold hq4 ht6 HD
      go_wp2_with fail
      refine (ends9_x hS 1 2 3 4 (Um.setM m o) (unhide HN3) (show QB (Um.setM m o) _ from unhide HQ) rfl rfl rfl rfl (by decide) (by decide) (by decide) (by decide) (by decide) (by decide) (unhide HR) ((unhide HO) m (unhide HW)) 100 (by decide) A (unhide HH)).mono ?_
      rintro r u ⟨N1, rfl, _, _, _, hOn, nt1, q1, _, hSn⟩
      clear hS
      have hS := hSn
      clear hSn
      dsimp only [putL, List.set, List.cons_append, List.nil_append] at hS
      have HO1 := hide hOn
      clear hOn
      go_wp2_with fail
      refine (oAnswer_any (hS.get 3 rfl)).mono ?_
      rintro r u ⟨rfl, hb⟩
      replace hS := hS.call hb
      clear hb
      rw [unhide HTE, unhide HTN]
      go_wp2_with (first | (refine wpx_box hS rfl _ _ rfl _ rfl _ (by intro _; simp only [Act.put, List.setIfInBounds_toArray, List.set_cons_zero, List.set_cons_succ]; first | done | exact rfl) ?_; clear hS; intro _ _ hS; dsimp only [blit, List.set, List.cons_append, List.nil_append, Value.cells, List.toList_toArray] at hS) | (refine wpx_alloc hS rfl _ rfl _ (zer_any2 rfl) _ (by intro _; simp only [Act.put, List.setIfInBounds_toArray, List.set_cons_zero, List.set_cons_succ]; first | done | exact rfl) ?_; clear hS; intro _ _ hS; dsimp only [blit, List.set, List.cons_append, List.nil_append, Value.cells, List.toList_toArray] at hS) | (refine wpx_ld hS rfl _ _ rfl _ _ rfl ?_; (first | refine ⟨0, _, rfl, ?_⟩ | refine ⟨1, _, rfl, ?_⟩ | refine ⟨2, _, rfl, ?_⟩ | refine ⟨3, _, rfl, ?_⟩ | refine ⟨4, _, rfl, ?_⟩ | refine ⟨5, _, rfl, ?_⟩ | refine ⟨6, _, rfl, ?_⟩ | refine ⟨7, _, rfl, ?_⟩ | refine ⟨8, _, rfl, ?_⟩ | refine ⟨9, _, rfl, ?_⟩); first | refine .inl ⟨_, one_any2 rfl, rfl, _, (by simp only [Act.put, List.setIfInBounds_toArray, List.set_cons_zero, List.set_cons_succ]; first | done | exact rfl), ?_⟩ | refine .inr ⟨_, _, row_any2 rfl, rfl, (by dsimp only [cutL, List.drop, List.take]; first | done | exact rfl), _, (by simp only [Act.put, List.setIfInBounds_toArray, List.set_cons_zero, List.set_cons_succ]; first | done | exact rfl), ?_⟩) | (refine wpx_st hS rfl _ _ _ rfl rfl _ _ rfl ?_; (first | refine ⟨0, _, rfl, ?_⟩ | refine ⟨1, _, rfl, ?_⟩ | refine ⟨2, _, rfl, ?_⟩ | refine ⟨3, _, rfl, ?_⟩ | refine ⟨4, _, rfl, ?_⟩ | refine ⟨5, _, rfl, ?_⟩ | refine ⟨6, _, rfl, ?_⟩ | refine ⟨7, _, rfl, ?_⟩ | refine ⟨8, _, rfl, ?_⟩ | refine ⟨9, _, rfl, ?_⟩); refine ⟨_, (by first | exact shA rfl | exact shI rfl | exact shB rfl | exact shS rfl | exact shP rfl | exact shF rfl | exact shN rfl), _, siz_any2 rfl, (by exact rfl), (by exact rfl), (by exact rfl), ?_⟩; clear hS; intro _ hS; dsimp only [blit, List.set, List.cons_append, List.nil_append, Value.cells, List.toList_toArray] at hS))
      obtain ⟨X, rfl⟩ := nameB hS 5 rfl
      have HP := hide (hS.get 5 rfl)
      have k0 := fun w' (h : BlkAt w' X [.int .i64 0, .int .u64 (A.th : Nat), .int .u64 (qq : Nat)]) => h.cell 0 _ rfl
      have k2 := fun w' (h : BlkAt w' X [.int .i64 0, .int .u64 (A.th : Nat), .int .u64 (qq : Nat)]) => h.cell 2 _ rfl
      have HS3 := hide hS
      clear hS
      go_region_held3 (fun w' => BlkAt w' X [.int .i64 0, .int .u64 (A.th : Nat), .int .u64 (qq : Nat)]) (first | exact (unhide HP).drew | exact BlkAt.below (by assumption) (by assumption) | assumption) (first | (go_at_call 25; refine (mLoad_x (((unhide HS3).undrew hb4).call hb5) 1 2 rfl rfl (by decide) (unhide HR) (unhide HO1).wd 5 0 (by decide) (by decide) M9 (unhide HM9)).mono ?_; rintro e u7 ⟨e7, hW6, hS6⟩; rw [unhide HOLD] at e7; subst e7; have hP6 := hS6.get 5 rfl) | (go_at_call 20; refine (of9_any _ _ _).mono ?_; rintro e u5 ⟨rfl, hb5⟩) | (go_at_call 17; refine (oDone_any (((unhide HS3).undrew hb4).get 3 rfl) (unhide HO1).nx).mono ?_; rintro e u6 ⟨e6, rfl⟩; rw [decide_eq_true (unhide HX6)] at e6; subst e6) | (go_at_call 12; refine (oAlive_any _).mono ?_; rintro e u4 ⟨rfl, hb4⟩))
      have hB := hS6.bel
      clear hS6 hP6 hW6 k0 k2 HS3 HP
      go_wp2
      go_ret
      exact ⟨rfl, hB⟩

theorem walk {H : Type} {enc : TypeId × Value → H} {base : Nat} {v0 v2 : Value} {d0 d2 : DataW H} {p0 p2 : List MemPlace} (w : World)
    (hv0 : Value.okWide Try.prog w .any base 24 v0) (h0 : DataW.Trod enc Try.prog w 0 (fun _ => true) true 24 v0 d0 p0)
    (a1 : Int) (w1 : (Lit.int .u64 a1).wf = true)
    (hv2 : Value.okWide Try.prog w .any base 76 v2) (h2 : DataW.Trod enc Try.prog w 0 (fun _ => true) true 76 v2 d2 p2) :
    Calls Try.prog 9 #[v0, .int .u64 a1, v2] w fun e w' => e = .returned (.bool true) ∧ Below w.heap.size w w' := by
  obtain ⟨ct, s, k, g, q, rfl, hsb⟩ := open_cfg hv0 h0
  obtain ⟨sq, rfl, hsq⟩ := word_of w1
  obtain ⟨la, nl, cl, Z, rfl, hnc, hZ⟩ := open_row hv2 h2
  cases hr : (⟨ct, s, k, g, q⟩ : Um.Cf).r with
  | false => exact walk_wrong w ⟨ct, s, k, g, q⟩ sq la nl cl hr
  | true =>
    by_cases hb : 50 < nl
    · exact walk_long w ⟨ct, s, k, g, q⟩ sq la nl cl hr hb
    by_cases hq : 1000 < sq
    · exact walk_big w ⟨ct, s, k, g, q⟩ sq la nl cl hr hb hq
    exact walk_right w ⟨ct, s, k, g, q⟩ sq la nl cl Z hr hb hq hnc hZ

set_option maxRecDepth 100000 in
theorem lifted (os : Os) (started : os.Started) (H : Type) (enc : TypeId × Value → H) :
    ReturnsInHanded {} Try.checked os 9 .any (Rows.openSeenSpec.pre6 enc Try.prog Try.f9 Rows.openSeenRow.domain false) (Rows.openSeenSpec.post enc Try.prog Try.f9 false true false false) := by
  refine returnsInHanded_of_change (C := Try.checked) own started (by kernel_rfl) Try.func9
    (ChangeSpec.witness6 (enc := enc) (C := Try.checked) false ⟨#[], #[.agg #[.int .i64 0, .int .i64 0, .int .i64 0, .int .i64 0, .int .u64 0], .int .u64 0, .slice none 0 0], []⟩ 8 (by kernel_rfl) (by kernel_rfl) (by kernel_rfl) (by kernel_rfl)) ?_
  intro W base args ds gs before hval0 hW hcnd _
  have hval : ∀ (j : Nat) t v, Try.f9.params[j]? = some t → args[j]? = some v → Value.okWide Try.prog W .any base t v := hval0
  have hW' := hW
  obtain ⟨p, q, hA0, hV, rfl, hfz, hnd⟩ := hW
  have hA : DataW.TrodAll enc Try.prog W 0 (fun _ => true) true Try.f9.params.toList args.toList ds p := hA0
  rw [Try.params9] at hA hval
  obtain ⟨v0, vs0, d0, ds0, p0, q0, hargs, rfl, rfl, h0, r0⟩ := trodAll_cons hA
  obtain ⟨v1, vs1, d1, ds1, p1, q1, rfl, rfl, rfl, h1, r1⟩ := trodAll_cons r0
  obtain ⟨v2, vs2, d2, ds2, p2, q2, rfl, rfl, rfl, h2, r2⟩ := trodAll_cons r1
  obtain ⟨rfl, rfl, rfl⟩ := trodAll_nil r2
  obtain rfl : args = #[v0, v1, v2] := by cases args; simp_all
  obtain ⟨rfl, rfl⟩ := trodVars_none hV
  have k0 := h0
  have lt0 : ∀ x ∈ p0, x.block < W.heap.size := by obtain ⟨m, hm⟩ := k0; exact DataW.trod_lt m _ _ _ hm
  have k1 := h1
  have lt1 : ∀ x ∈ p1, x.block < W.heap.size := by obtain ⟨m, hm⟩ := k1; exact DataW.trod_lt m _ _ _ hm
  have k2 := h2
  have lt2 : ∀ x ∈ p2, x.block < W.heap.size := by obtain ⟨m, hm⟩ := k2; exact DataW.trod_lt m _ _ _ hm
  obtain ⟨a1, rfl, hd1, hp1, w1⟩ := open_int Try.underlying22 (hval 1 22 v1 rfl rfl) h1
  refine (walk W (hval 0 24 v0 rfl rfl) h0 a1 w1 (hval 2 76 v2 rfl rfl) h2).mono fun e W' ⟨he, bel⟩ => ?_
  subst he
  exact ⟨_, rfl, _, _, _, [], _, [], hW', trodAll_mk1 (shut_bool Try.underlying4 _), (trodAll_cons_mk (Below.trod laidOut (by kernel_rfl) (of_decide_eq_true (by kernel_rfl)) k0 bel lt0) (trodAll_cons_mk (Below.trod laidOut (by kernel_rfl) (of_decide_eq_true (by kernel_rfl)) k1 bel lt1) (trodAll_cons_mk (Below.trod laidOut (by kernel_rfl) (of_decide_eq_true (by kernel_rfl)) k2 bel lt2) trodAll_mk0))), rfl, bel.frame _, fun h => by cases h⟩

theorem OpenSeen_proved : Rows.OpenSeenSaid :=
  OpenClaim.holds_of_wide 9 Try.f9 rfl rfl rfl rfl rfl rfl rfl ⟨rfl, rfl, rfl, rfl, rfl⟩ rfl rfl rfl rfl rfl (by kernel_rfl) Try.func9 (by kernel_rfl)
    (of_decide_eq_true (by kernel_rfl)) (by unfold Func.isWrapper; first | (rw [if_pos (by decide +kernel)]; kernel_rfl) | (rw [if_neg (by decide +kernel)]; exact ⟨rfl, rfl⟩))
    (fun os started H enc _ => lifted os started H enc)

end Go.Proofs.Ytkiaogbddfjkkaa.openSeen
