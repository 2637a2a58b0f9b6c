/-
  For every world's size and generation, the law OpenLast answers true: a slot whose generation is above the greatest is got no more. Conditions: none.
-/
import Derived.Test.YtkiaogbddfjkkaaRows
import Derived.Test.YtkiaogbddfjkkaaM17
import Derived.WalkKit
import Derived.ProofKit
import Derived.OpenShut
import Derived.ShutString
import Derived.LoopTactic
import Derived.Lib.QuietBelow
namespace Go.Proofs.Ytkiaogbddfjkkaa.openLast
set_option maxRecDepth 100000
open Go.ChangeShapes Go.WideShapes Go.ChangeAt Go.RowKit Go.Sort
set_option linter.unusedVariables false

theorem own : ownKnob Try.prog.godebug = none := by kernel_rfl
theorem laidOut : laidOutB Try.prog = true := by kernel_rfl

theorem field_ans0 (a b c : Value) (w : World) : (Instr.field 45 (.agg #[a, b, c]) 0).run Try.prog w = .ok a w := by simp [Instr.field, go_sem, asAgg]

set_option maxHeartbeats 1000000 in
theorem rNewG_any (g : Int) (w : World) : Calls Try.prog 29 #[.int .i64 0, .int .i64 g] w fun r w' => r = .returned (.int .u64 (Um.packV g 0 false false false 0 0 : Int)) ∧ Below w.heap.size w w' := by
  go_enter Try.func29, Try.ntmps29
  go_wp2_with fail
  refine (refPack_any g 0 false false false 0 0 _).mono ?_
  rintro r u ⟨rfl, hb⟩
  go_wp2
  go_ret
  exact ⟨rfl, hb⟩

theorem gw_facts {g : Int} (h0 : 0 ≤ g) (h1 : g ≤ 1073741824) : Um.Word (Um.packV g 0 false false false 0 0) ∧ Um.stN (Um.packV g 0 false false false 0 0) = 0 ∧ ((Um.gnN (Um.packV g 0 false false false 0 0) : Nat) : Int) = g := by
  have hok : Um.okSt g 0 0 0 = true := decide_eq_true ⟨by decide, by decide, by decide, by decide, by decide, by decide, h0, h1⟩
  rw [Um.packV_yes hok]
  obtain ⟨_, _, _, _, _, h5, h6⟩ := Um.pack_parts (b := false) (i := false) (o := false) hok
  refine ⟨Um.pack_word hok, h5, ?_⟩
  show ((Um.part _ 30 32 : Nat) : Int) = g
  rw [h6]
  omega

/-- so many slots have one status -/
def Las (c : Um.Cf) (gw : Nat) (m : Um.Mm) (n : Int) : Prop := ∀ j : Int, 0 ≤ j → j < n → m.ws (c.cl 4 j).toNat = gw

theorem Las.more {c : Um.Cf} {gw : Nat} {m M : Um.Mm} {n : Int} (hr : c.r = true) (h : Las c gw m n) (h0 : 0 ≤ n) (h1 : n < c.s) (hM : M = Um.mtouch c m 2 4 n 0 gw) : Las c gw M (n + 1) := by
  intro j j0 j1
  have hj := (Um.sl_cells hr j0 (show j < c.s by omega)).1
  rw [hM, Um.put_ws]
  by_cases e : j = n
  · rw [e] at hj ⊢
    rw [if_pos (by omega)]
  · have := Um.st_cell_ne hr j0 (show j < c.s by omega) h0 h1 e
    rw [if_neg (by omega)]
    exact h j j0 (by omega)

set_option maxHeartbeats 2000000 in
theorem walk_wrong (w : World) (c : Um.Cf) (gen : Int) (h : c.r = false) :
    Calls Try.prog 7 #[(.agg #[.int .i64 (c.t), .int .i64 (c.s), .int .i64 (c.k), .int .i64 (c.g), .int .u64 (c.q : Int)]), .int .i64 gen] w fun e w' => e = .returned (.bool true) ∧ Below w.heap.size w w' := by
  have HL := hide (fun w => sNew_wrong c w h)
  clear h
  have hS := Sx.new w
  go_enter Try.func7, Try.ntmps7
  go_wp2_with (first | (refine wpx_box hS rfl _ _ rfl _ rfl _ (by intro _; simp only [Act.put, List.setIfInBounds_toArray, List.set_cons_zero, List.set_cons_succ]; first | done | exact rfl) ?_; clear hS; intro _ _ hS; dsimp only [blit, List.set, List.cons_append, List.nil_append, Value.cells, List.toList_toArray] at hS) | (refine wpx_alloc hS rfl _ rfl _ (zer_any2 rfl) _ (by intro _; simp only [Act.put, List.setIfInBounds_toArray, List.set_cons_zero, List.set_cons_succ]; first | done | exact rfl) ?_; clear hS; intro _ _ hS; dsimp only [blit, List.set, List.cons_append, List.nil_append, Value.cells, List.toList_toArray] at hS) | (refine wpx_ld hS rfl _ _ rfl _ _ rfl ?_; (first | refine ⟨0, _, rfl, ?_⟩ | refine ⟨1, _, rfl, ?_⟩ | refine ⟨2, _, rfl, ?_⟩ | refine ⟨3, _, rfl, ?_⟩ | refine ⟨4, _, rfl, ?_⟩ | refine ⟨5, _, rfl, ?_⟩ | refine ⟨6, _, rfl, ?_⟩ | refine ⟨7, _, rfl, ?_⟩ | refine ⟨8, _, rfl, ?_⟩ | refine ⟨9, _, rfl, ?_⟩); first | refine .inl ⟨_, one_any2 rfl, rfl, _, (by simp only [Act.put, List.setIfInBounds_toArray, List.set_cons_zero, List.set_cons_succ]; first | done | exact rfl), ?_⟩ | refine .inr ⟨_, _, row_any2 rfl, rfl, (by dsimp only [cutL, List.drop, List.take]; first | done | exact rfl), _, (by simp only [Act.put, List.setIfInBounds_toArray, List.set_cons_zero, List.set_cons_succ]; first | done | exact rfl), ?_⟩) | (refine wpx_st hS rfl _ _ _ rfl rfl _ _ rfl ?_; (first | refine ⟨0, _, rfl, ?_⟩ | refine ⟨1, _, rfl, ?_⟩ | refine ⟨2, _, rfl, ?_⟩ | refine ⟨3, _, rfl, ?_⟩ | refine ⟨4, _, rfl, ?_⟩ | refine ⟨5, _, rfl, ?_⟩ | refine ⟨6, _, rfl, ?_⟩ | refine ⟨7, _, rfl, ?_⟩ | refine ⟨8, _, rfl, ?_⟩ | refine ⟨9, _, rfl, ?_⟩); refine ⟨_, (by first | exact shA rfl | exact shI rfl | exact shB rfl | exact shS rfl | exact shP rfl | exact shF rfl | exact shN rfl), _, siz_any2 rfl, (by exact rfl), (by exact rfl), (by exact rfl), ?_⟩; clear hS; intro _ hS; dsimp only [blit, List.set, List.cons_append, List.nil_append, Value.cells, List.toList_toArray] at hS))
  refine ((unhide HL) _).mono ?_
  rintro r u ⟨rfl, hb⟩
  replace hS := hS.call hb
  clear hb HL
  go_wp2_with fail
  refine (onew_any hS (⟨fun _ => 0, 0, Um.noT⟩ : Um.Mm)).mono ?_
  rintro r u ⟨P, K, rfl, hSn⟩
  clear hS
  have hS := hSn
  clear hSn
  dsimp only [putL, List.set, List.cons_append, List.nil_append] at hS
  go_wp2_with fail
  refine (oAlive_any _).mono ?_
  rintro r u ⟨rfl, hb⟩
  replace hS := hS.call hb
  have hB := hS.bel
  clear hb hS
  go_wp2
  go_ret
  exact ⟨rfl, hB⟩

set_option maxHeartbeats 2000000 in
theorem walk_neg (w : World) (c : Um.Cf) (gen : Int) (h : c.r = true) (hg : gen < 0) :
    Calls Try.prog 7 #[(.agg #[.int .i64 (c.t), .int .i64 (c.s), .int .i64 (c.k), .int .i64 (c.g), .int .u64 (c.q : Int)]), .int .i64 gen] w fun e w' => e = .returned (.bool true) ∧ Below w.heap.size w w' := by
  have HR := hide h
  clear h
  have p1 : decide (gen < 0) = true := decide_eq_true hg
  have hS := Sx.new w
  go_enter Try.func7, Try.ntmps7
  go_wp2_with (first | (refine wpx_box hS rfl _ _ rfl _ rfl _ (by intro _; simp only [Act.put, List.setIfInBounds_toArray, List.set_cons_zero, List.set_cons_succ]; first | done | exact rfl) ?_; clear hS; intro _ _ hS; dsimp only [blit, List.set, List.cons_append, List.nil_append, Value.cells, List.toList_toArray] at hS) | (refine wpx_alloc hS rfl _ rfl _ (zer_any2 rfl) _ (by intro _; simp only [Act.put, List.setIfInBounds_toArray, List.set_cons_zero, List.set_cons_succ]; first | done | exact rfl) ?_; clear hS; intro _ _ hS; dsimp only [blit, List.set, List.cons_append, List.nil_append, Value.cells, List.toList_toArray] at hS) | (refine wpx_ld hS rfl _ _ rfl _ _ rfl ?_; (first | refine ⟨0, _, rfl, ?_⟩ | refine ⟨1, _, rfl, ?_⟩ | refine ⟨2, _, rfl, ?_⟩ | refine ⟨3, _, rfl, ?_⟩ | refine ⟨4, _, rfl, ?_⟩ | refine ⟨5, _, rfl, ?_⟩ | refine ⟨6, _, rfl, ?_⟩ | refine ⟨7, _, rfl, ?_⟩ | refine ⟨8, _, rfl, ?_⟩ | refine ⟨9, _, rfl, ?_⟩); first | refine .inl ⟨_, one_any2 rfl, rfl, _, (by simp only [Act.put, List.setIfInBounds_toArray, List.set_cons_zero, List.set_cons_succ]; first | done | exact rfl), ?_⟩ | refine .inr ⟨_, _, row_any2 rfl, rfl, (by dsimp only [cutL, List.drop, List.take]; first | done | exact rfl), _, (by simp only [Act.put, List.setIfInBounds_toArray, List.set_cons_zero, List.set_cons_succ]; first | done | exact rfl), ?_⟩) | (refine wpx_st hS rfl _ _ _ rfl rfl _ _ rfl ?_; (first | refine ⟨0, _, rfl, ?_⟩ | refine ⟨1, _, rfl, ?_⟩ | refine ⟨2, _, rfl, ?_⟩ | refine ⟨3, _, rfl, ?_⟩ | refine ⟨4, _, rfl, ?_⟩ | refine ⟨5, _, rfl, ?_⟩ | refine ⟨6, _, rfl, ?_⟩ | refine ⟨7, _, rfl, ?_⟩ | refine ⟨8, _, rfl, ?_⟩ | refine ⟨9, _, rfl, ?_⟩); refine ⟨_, (by first | exact shA rfl | exact shI rfl | exact shB rfl | exact shS rfl | exact shP rfl | exact shF rfl | exact shN rfl), _, siz_any2 rfl, (by exact rfl), (by exact rfl), (by exact rfl), ?_⟩; clear hS; intro _ hS; dsimp only [blit, List.set, List.cons_append, List.nil_append, Value.cells, List.toList_toArray] at hS))
  refine (new_x hS c (unhide HR)).mono ?_
  rintro r u ⟨B, C, rfl, hWn, hSn⟩
  clear hS
  have hS := hSn
  clear hSn
  dsimp only [putL, List.set, List.cons_append, List.nil_append] at hS
  have HW0 := hide hWn
  clear hWn
  go_wp2_with fail
  refine (onew_any hS (⟨fun _ => 0, 0, Um.noT⟩ : Um.Mm)).mono ?_
  rintro r u ⟨P, K, rfl, hSn⟩
  clear hS
  have hS := hSn
  clear hSn
  dsimp only [putL, List.set, List.cons_append, List.nil_append] at hS
  go_wp2_with fail
  refine (oAlive_any _).mono ?_
  rintro r u ⟨rfl, hb⟩
  replace hS := hS.call hb
  have hB := hS.bel
  clear hb hS
  go_wp2
  go_ret
  exact ⟨rfl, hB⟩

set_option maxHeartbeats 2000000 in
theorem walk_big (w : World) (c : Um.Cf) (gen : Int) (h : c.r = true) (hg0 : 0 ≤ gen) (hg : 1073741824 < gen) :
    Calls Try.prog 7 #[(.agg #[.int .i64 (c.t), .int .i64 (c.s), .int .i64 (c.k), .int .i64 (c.g), .int .u64 (c.q : Int)]), .int .i64 gen] w fun e w' => e = .returned (.bool true) ∧ Below w.heap.size w w' := by
  have HR := hide h
  clear h
  have p0 : ¬ gen < 0 := by omega
  have p1 : decide (gen < 0) = false := decide_eq_false p0
  have p2 : decide (1073741824 < gen) = true := decide_eq_true hg
  have hS := Sx.new w
  go_enter Try.func7, Try.ntmps7
  go_wp2_with (first | (refine wpx_box hS rfl _ _ rfl _ rfl _ (by intro _; simp only [Act.put, List.setIfInBounds_toArray, List.set_cons_zero, List.set_cons_succ]; first | done | exact rfl) ?_; clear hS; intro _ _ hS; dsimp only [blit, List.set, List.cons_append, List.nil_append, Value.cells, List.toList_toArray] at hS) | (refine wpx_alloc hS rfl _ rfl _ (zer_any2 rfl) _ (by intro _; simp only [Act.put, List.setIfInBounds_toArray, List.set_cons_zero, List.set_cons_succ]; first | done | exact rfl) ?_; clear hS; intro _ _ hS; dsimp only [blit, List.set, List.cons_append, List.nil_append, Value.cells, List.toList_toArray] at hS) | (refine wpx_ld hS rfl _ _ rfl _ _ rfl ?_; (first | refine ⟨0, _, rfl, ?_⟩ | refine ⟨1, _, rfl, ?_⟩ | refine ⟨2, _, rfl, ?_⟩ | refine ⟨3, _, rfl, ?_⟩ | refine ⟨4, _, rfl, ?_⟩ | refine ⟨5, _, rfl, ?_⟩ | refine ⟨6, _, rfl, ?_⟩ | refine ⟨7, _, rfl, ?_⟩ | refine ⟨8, _, rfl, ?_⟩ | refine ⟨9, _, rfl, ?_⟩); first | refine .inl ⟨_, one_any2 rfl, rfl, _, (by simp only [Act.put, List.setIfInBounds_toArray, List.set_cons_zero, List.set_cons_succ]; first | done | exact rfl), ?_⟩ | refine .inr ⟨_, _, row_any2 rfl, rfl, (by dsimp only [cutL, List.drop, List.take]; first | done | exact rfl), _, (by simp only [Act.put, List.setIfInBounds_toArray, List.set_cons_zero, List.set_cons_succ]; first | done | exact rfl), ?_⟩) | (refine wpx_st hS rfl _ _ _ rfl rfl _ _ rfl ?_; (first | refine ⟨0, _, rfl, ?_⟩ | refine ⟨1, _, rfl, ?_⟩ | refine ⟨2, _, rfl, ?_⟩ | refine ⟨3, _, rfl, ?_⟩ | refine ⟨4, _, rfl, ?_⟩ | refine ⟨5, _, rfl, ?_⟩ | refine ⟨6, _, rfl, ?_⟩ | refine ⟨7, _, rfl, ?_⟩ | refine ⟨8, _, rfl, ?_⟩ | refine ⟨9, _, rfl, ?_⟩); refine ⟨_, (by first | exact shA rfl | exact shI rfl | exact shB rfl | exact shS rfl | exact shP rfl | exact shF rfl | exact shN rfl), _, siz_any2 rfl, (by exact rfl), (by exact rfl), (by exact rfl), ?_⟩; clear hS; intro _ hS; dsimp only [blit, List.set, List.cons_append, List.nil_append, Value.cells, List.toList_toArray] at hS))
  refine (new_x hS c (unhide HR)).mono ?_
  rintro r u ⟨B, C, rfl, hWn, hSn⟩
  clear hS
  have hS := hSn
  clear hSn
  dsimp only [putL, List.set, List.cons_append, List.nil_append] at hS
  have HW0 := hide hWn
  clear hWn
  go_wp2_with fail
  refine (onew_any hS (⟨fun _ => 0, 0, Um.noT⟩ : Um.Mm)).mono ?_
  rintro r u ⟨P, K, rfl, hSn⟩
  clear hS
  have hS := hSn
  clear hSn
  dsimp only [putL, List.set, List.cons_append, List.nil_append] at hS
  go_wp2_with fail
  refine (oAlive_any _).mono ?_
  rintro r u ⟨rfl, hb⟩
  replace hS := hS.call hb
  have hB := hS.bel
  clear hb hS
  go_wp2
  go_ret
  exact ⟨rfl, hB⟩

set_option maxHeartbeats 8000000 in
theorem walk_right (w : World) (c : Um.Cf) (gen : Int) (h : c.r = true) (hg0 : 0 ≤ gen) (hg1 : gen ≤ 1073741824) :
    Calls Try.prog 7 #[(.agg #[.int .i64 (c.t), .int .i64 (c.s), .int .i64 (c.k), .int .i64 (c.g), .int .u64 (c.q : Int)]), .int .i64 gen] w fun e w' => e = .returned (.bool true) ∧ Below w.heap.size w w' := by
  have p0 : ¬ gen < 0 := by omega
  have p1 : decide (gen < 0) = false := decide_eq_false p0
  have p3 : ¬ 1073741824 < gen := by omega
  have p2 : decide (1073741824 < gen) = false := decide_eq_false p3
  have hcb := c.rb h
  obtain ⟨hs1, hs12⟩ : 1 ≤ c.s ∧ c.s ≤ 12 := by omega
  obtain ⟨gw, hgw⟩ : ∃ gw, gw = Um.packV gen 0 false false false 0 0 := ⟨_, rfl⟩
  obtain ⟨w1, w2, w3⟩ := gw_facts hg0 hg1
  rw [← hgw] at w1 w2 w3
  have HGW := hide hgw
  have HG1 := hide w1
  have HG2 := hide w2
  have HG3 := hide w3
  clear hcb hgw w1 w2 w3
  have HR := hide h
  clear h
  have hS := Sx.new w
  go_enter Try.func7, Try.ntmps7
  go_wp2_with (first | (refine wpx_box hS rfl _ _ rfl _ rfl _ (by intro _; simp only [Act.put, List.setIfInBounds_toArray, List.set_cons_zero, List.set_cons_succ]; first | done | exact rfl) ?_; clear hS; intro _ _ hS; dsimp only [blit, List.set, List.cons_append, List.nil_append, Value.cells, List.toList_toArray] at hS) | (refine wpx_alloc hS rfl _ rfl _ (zer_any2 rfl) _ (by intro _; simp only [Act.put, List.setIfInBounds_toArray, List.set_cons_zero, List.set_cons_succ]; first | done | exact rfl) ?_; clear hS; intro _ _ hS; dsimp only [blit, List.set, List.cons_append, List.nil_append, Value.cells, List.toList_toArray] at hS) | (refine wpx_ld hS rfl _ _ rfl _ _ rfl ?_; (first | refine ⟨0, _, rfl, ?_⟩ | refine ⟨1, _, rfl, ?_⟩ | refine ⟨2, _, rfl, ?_⟩ | refine ⟨3, _, rfl, ?_⟩ | refine ⟨4, _, rfl, ?_⟩ | refine ⟨5, _, rfl, ?_⟩ | refine ⟨6, _, rfl, ?_⟩ | refine ⟨7, _, rfl, ?_⟩ | refine ⟨8, _, rfl, ?_⟩ | refine ⟨9, _, rfl, ?_⟩); first | refine .inl ⟨_, one_any2 rfl, rfl, _, (by simp only [Act.put, List.setIfInBounds_toArray, List.set_cons_zero, List.set_cons_succ]; first | done | exact rfl), ?_⟩ | refine .inr ⟨_, _, row_any2 rfl, rfl, (by dsimp only [cutL, List.drop, List.take]; first | done | exact rfl), _, (by simp only [Act.put, List.setIfInBounds_toArray, List.set_cons_zero, List.set_cons_succ]; first | done | exact rfl), ?_⟩) | (refine wpx_st hS rfl _ _ _ rfl rfl _ _ rfl ?_; (first | refine ⟨0, _, rfl, ?_⟩ | refine ⟨1, _, rfl, ?_⟩ | refine ⟨2, _, rfl, ?_⟩ | refine ⟨3, _, rfl, ?_⟩ | refine ⟨4, _, rfl, ?_⟩ | refine ⟨5, _, rfl, ?_⟩ | refine ⟨6, _, rfl, ?_⟩ | refine ⟨7, _, rfl, ?_⟩ | refine ⟨8, _, rfl, ?_⟩ | refine ⟨9, _, rfl, ?_⟩); refine ⟨_, (by first | exact shA rfl | exact shI rfl | exact shB rfl | exact shS rfl | exact shP rfl | exact shF rfl | exact shN rfl), _, siz_any2 rfl, (by exact rfl), (by exact rfl), (by exact rfl), ?_⟩; clear hS; intro _ hS; dsimp only [blit, List.set, List.cons_append, List.nil_append, Value.cells, List.toList_toArray] at hS))
  refine (new_x hS c (unhide HR)).mono ?_
  rintro r u ⟨B, C, rfl, hWn, hSn⟩
  clear hS
  have hS := hSn
  clear hSn
  dsimp only [putL, List.set, List.cons_append, List.nil_append] at hS
  have HW0 := hide hWn
  clear hWn
  go_wp2_with fail
  refine (onew_any hS (⟨fun _ => 0, 0, Um.noT⟩ : Um.Mm)).mono ?_
  rintro r u ⟨P, K, rfl, hSn⟩
  clear hS
  have hS := hSn
  clear hSn
  dsimp only [putL, List.set, List.cons_append, List.nil_append] at hS
  go_wp2_with (first | (refine wpx_box hS rfl _ _ rfl _ rfl _ (by intro _; simp only [Act.put, List.setIfInBounds_toArray, List.set_cons_zero, List.set_cons_succ]; first | done | exact rfl) ?_; clear hS; intro _ _ hS; dsimp only [blit, List.set, List.cons_append, List.nil_append, Value.cells, List.toList_toArray] at hS) | (refine wpx_alloc hS rfl _ rfl _ (zer_any2 rfl) _ (by intro _; simp only [Act.put, List.setIfInBounds_toArray, List.set_cons_zero, List.set_cons_succ]; first | done | exact rfl) ?_; clear hS; intro _ _ hS; dsimp only [blit, List.set, List.cons_append, List.nil_append, Value.cells, List.toList_toArray] at hS) | (refine wpx_ld hS rfl _ _ rfl _ _ rfl ?_; (first | refine ⟨0, _, rfl, ?_⟩ | refine ⟨1, _, rfl, ?_⟩ | refine ⟨2, _, rfl, ?_⟩ | refine ⟨3, _, rfl, ?_⟩ | refine ⟨4, _, rfl, ?_⟩ | refine ⟨5, _, rfl, ?_⟩ | refine ⟨6, _, rfl, ?_⟩ | refine ⟨7, _, rfl, ?_⟩ | refine ⟨8, _, rfl, ?_⟩ | refine ⟨9, _, rfl, ?_⟩); first | refine .inl ⟨_, one_any2 rfl, rfl, _, (by simp only [Act.put, List.setIfInBounds_toArray, List.set_cons_zero, List.set_cons_succ]; first | done | exact rfl), ?_⟩ | refine .inr ⟨_, _, row_any2 rfl, rfl, (by dsimp only [cutL, List.drop, List.take]; first | done | exact rfl), _, (by simp only [Act.put, List.setIfInBounds_toArray, List.set_cons_zero, List.set_cons_succ]; first | done | exact rfl), ?_⟩) | (refine wpx_st hS rfl _ _ _ rfl rfl _ _ rfl ?_; (first | refine ⟨0, _, rfl, ?_⟩ | refine ⟨1, _, rfl, ?_⟩ | refine ⟨2, _, rfl, ?_⟩ | refine ⟨3, _, rfl, ?_⟩ | refine ⟨4, _, rfl, ?_⟩ | refine ⟨5, _, rfl, ?_⟩ | refine ⟨6, _, rfl, ?_⟩ | refine ⟨7, _, rfl, ?_⟩ | refine ⟨8, _, rfl, ?_⟩ | refine ⟨9, _, rfl, ?_⟩); refine ⟨_, (by first | exact shA rfl | exact shI rfl | exact shB rfl | exact shS rfl | exact shP rfl | exact shF rfl | exact shN rfl), _, siz_any2 rfl, (by exact rfl), (by exact rfl), (by exact rfl), ?_⟩; clear hS; intro _ hS; dsimp only [blit, List.set, List.cons_append, List.nil_append, Value.cells, List.toList_toArray] at hS))
  obtain ⟨CF, rfl⟩ := nameB hS 0 rfl
  clear p0 p1 p2 p3
  go_loopw [40] (fun i wr => ∃ (n : Nat) (m : Um.Mm), (n : Int) ≤ c.s ∧ i = .int .i64 n ∧ Hid (Las c gw m n) ∧ Hid (WordsOk c m) ∧ Hid (Sx [] w wr [(CF, [.int .i64 c.t, .int .i64 c.s, .int .i64 c.k, .int .i64 c.g, .int .u64 c.q]), (B, memL c C m), (C, rowW m.ws c.n), (P, opnL K P none 0 (Um.onew m)), (K, [.int .i64 0])] [])) (fun i _ => (c.s - intOf i).toNat)
  case atStart => exact ⟨0, (⟨fun _ => 0, 0, Um.noT⟩ : Um.Mm), by omega, rfl, hide (fun j j0 j1 => by omega), hide (unhide HW0), hide hS⟩
  case round =>
    clear hS HW0
    rename_i wr
    obtain ⟨n, m, hn, rfl, HL, HW, HS⟩ := hrel
    have hS := unhide HS
    clear HS
    by_cases hlt : (n : Int) < c.s
    · obtain ⟨M, hM⟩ : ∃ M, M = Um.mtouch c m 2 4 (n : Int) 0 gw := ⟨_, rfl⟩
      have HL2 := hide (Las.more (unhide HR) (unhide HL) (by omega) hlt hM)
      have HM := hide hM
      clear hM
      go_wp2_with fail
      refine (of9_any 4 (n : Int) _).mono ?_
      rintro r u ⟨rfl, hb⟩
      replace hS := hS.call hb
      clear hb
      go_wp2_with fail
      refine (rNewG_any gen _).mono ?_
      rintro r u ⟨rfl, hb⟩
      replace hS := hS.call hb
      clear hb
      rw [← unhide HGW]
      go_wp2_with fail
      refine (mStore_x hS 1 2 rfl rfl (by decide) (unhide HR) (unhide HW) 4 (n : Int) gw (unhide HG1) (by omega) (by omega) M (unhide HM)).mono ?_
      rintro r u ⟨rfl, hWn, hSn⟩
      clear hS
      have hS := hSn
      clear hSn
      dsimp only [putL, List.set, List.cons_append, List.nil_append] at hS
      have HW6 := hide hWn
      have HS6 := hide hS
      clear hWn hS
      go_wp2
      refine ⟨⟨n + 1, M, by omega, by go_num, ?_, HW6, HS6⟩, by simp [intOf]; omega⟩
      exact hide (show Las c gw M ((n + 1 : Nat) : Int) by have := unhide HL2; rwa [show ((n + 1 : Nat) : Int) = (n : Int) + 1 by omega])
    · have hge : ¬ (n : Int) < c.s := hlt
      have hns : (n : Int) = c.s := by omega
      obtain ⟨A, hA⟩ : ∃ A, A = Um.oit c (Um.onew m) 100 := ⟨_, rfl⟩
      obtain ⟨e1, e2, e3⟩ := Um.last_end (unhide HR) m gw (unhide HG2) (by have := unhide HL; rwa [hns] at this) (k := 100) (by decide) A hA
      rw [unhide HG3] at e2 e3
      have HN6 := hide e1
      have HE := hide (And.intro e2 e3)
      have HH := hide hA
      clear e1 e2 e3 hA
      go_wp2_with fail
      refine (ends9_x hS 1 2 3 4 (Um.onew m) (show 0 ≠ 3 by decide) (qb_new _) rfl rfl rfl rfl (by decide) (by decide) (by decide) (by decide) (by decide) (by decide) (unhide HR) (onew_ok (unhide HR) (unhide HW)) 100 (by decide) A (unhide HH)).mono ?_
      rintro r u ⟨N1, rfl, _, _, _, hOn, nt1, q1, _, hSn⟩
      clear hS
      have hS := hSn
      clear hSn
      dsimp only [putL, List.set, List.cons_append, List.nil_append] at hS
      have HO := hide hOn
      clear hOn
      by_cases hgc : gen ≤ c.g
      · have hd : decide (gen ≤ c.g) = true := decide_eq_true hgc
        have HTE := hide (show A.te = 0 from (unhide HE).1 (by omega))
        go_wp2_with fail
        obtain ⟨u, rfl⟩ := nameW hS
        have hf := field_ans0
        have HDN := hide (fun d os => Calls.regrown_of ((oDone_any ((hS.call (below_regrown u d os)).get 3 rfl) (unhide HO).nx).mono (fun r w' h => ⟨h.1.trans (by rw [decide_eq_true (unhide HN6)]), h.2 ▸ Below.refl _ _⟩)))
        have HAN := hide (fun d os => Calls.regrown_of ((oAnswer_any ((hS.call (below_regrown u d os)).get 3 rfl)).mono (fun r w' h => ⟨h.1.trans (by rw [unhide HTE]), h.2⟩)))
        have kG := cell_regrown ((hS.get 0 rfl).cell 3 _ rfl)
        have HSQ := hide hS
        clear hS
        refine wp_region_quiet_below (by kernel_rfl) (by kernel_rfl) ?_
        repeat (go_big_quiet_step (first | (go_at_call 12; exact Calls.regrown_of (oAlive_any _)) | (go_at_call 17; exact (unhide HDN) _ _) | (go_at_call 18; exact (unhide HAN) _ _)))
        refine wpQuiet_nil ?_
        intro _ hw'
        obtain ⟨⟨dq, osq⟩, hw''⟩ := hw'
        subst hw''
        have hB := ((unhide HSQ).call (below_regrown u dq osq)).bel
        clear HSQ kG HDN HAN
        generalize grow (redrawn u dq) osq = u9 at *
        go_wp2
        go_ret
        exact ⟨rfl, hB⟩
      · have hd : decide (gen ≤ c.g) = false := decide_eq_false hgc
        have HTE := hide (show A.te = 6 from (unhide HE).2 (by omega))
        go_wp2_with fail
        obtain ⟨u, rfl⟩ := nameW hS
        have hf := field_ans0
        have HDN := hide (fun d os => Calls.regrown_of ((oDone_any ((hS.call (below_regrown u d os)).get 3 rfl) (unhide HO).nx).mono (fun r w' h => ⟨h.1.trans (by rw [decide_eq_true (unhide HN6)]), h.2 ▸ Below.refl _ _⟩)))
        have HAN := hide (fun d os => Calls.regrown_of ((oAnswer_any ((hS.call (below_regrown u d os)).get 3 rfl)).mono (fun r w' h => ⟨h.1.trans (by rw [unhide HTE]), h.2⟩)))
        have kG := cell_regrown ((hS.get 0 rfl).cell 3 _ rfl)
        have HSQ := hide hS
        clear hS
        refine wp_region_quiet_below (by kernel_rfl) (by kernel_rfl) ?_
        repeat (go_big_quiet_step (first | (go_at_call 12; exact Calls.regrown_of (oAlive_any _)) | (go_at_call 17; exact (unhide HDN) _ _) | (go_at_call 18; exact (unhide HAN) _ _)))
        refine wpQuiet_nil ?_
        intro _ hw'
        obtain ⟨⟨dq, osq⟩, hw''⟩ := hw'
        subst hw''
        have hB := ((unhide HSQ).call (below_regrown u dq osq)).bel
        clear HSQ kG HDN HAN
        generalize grow (redrawn u dq) osq = u9 at *
        go_wp2
        go_ret
        exact ⟨rfl, hB⟩

theorem walk {H : Type} {enc : TypeId × Value → H} {base : Nat} {v0 : Value} {d0 : DataW H} {p0 : List MemPlace} (w : World)
    (hv0 : Value.okWide Try.prog w .any base 24 v0) (h0 : DataW.Trod enc Try.prog w 0 (fun _ => true) true 24 v0 d0 p0)
    (a1 : Int) (w1 : (Lit.int .i64 a1).wf = true) :
    Calls Try.prog 7 #[v0, .int .i64 a1] w fun e w' => e = .returned (.bool true) ∧ Below w.heap.size w w' := by
  obtain ⟨ct, s, k, g, q, rfl, hsb⟩ := open_cfg hv0 h0
  cases hr : (⟨ct, s, k, g, q⟩ : Um.Cf).r with
  | false => exact walk_wrong w ⟨ct, s, k, g, q⟩ a1 hr
  | true =>
    by_cases h0 : a1 < 0
    · exact walk_neg w ⟨ct, s, k, g, q⟩ a1 hr h0
    by_cases h1 : 1073741824 < a1
    · exact walk_big w ⟨ct, s, k, g, q⟩ a1 hr (by omega) h1
    exact walk_right w ⟨ct, s, k, g, q⟩ a1 hr (by omega) (by omega)

set_option maxRecDepth 100000 in
theorem lifted (os : Os) (started : os.Started) (H : Type) (enc : TypeId × Value → H) :
    ReturnsInHanded {} Try.checked os 7 .any (Rows.openLastSpec.pre6 enc Try.prog Try.f7 Rows.openLastRow.domain false) (Rows.openLastSpec.post enc Try.prog Try.f7 false true false false) := by
  refine returnsInHanded_of_change (C := Try.checked) own started (by kernel_rfl) Try.func7
    (ChangeSpec.witness6 (enc := enc) (C := Try.checked) false ⟨#[], #[.agg #[.int .i64 0, .int .i64 0, .int .i64 0, .int .i64 0, .int .u64 0], .int .i64 0], []⟩ 8 (by kernel_rfl) (by kernel_rfl) (by kernel_rfl) (by kernel_rfl)) ?_
  intro W base args ds gs before hval0 hW hcnd _
  have hval : ∀ (j : Nat) t v, Try.f7.params[j]? = some t → args[j]? = some v → Value.okWide Try.prog W .any base t v := hval0
  have hW' := hW
  obtain ⟨p, q, hA0, hV, rfl, hfz, hnd⟩ := hW
  have hA : DataW.TrodAll enc Try.prog W 0 (fun _ => true) true Try.f7.params.toList args.toList ds p := hA0
  rw [Try.params7] at hA hval
  obtain ⟨v0, vs0, d0, ds0, p0, q0, hargs, rfl, rfl, h0, r0⟩ := trodAll_cons hA
  obtain ⟨v1, vs1, d1, ds1, p1, q1, rfl, rfl, rfl, h1, r1⟩ := trodAll_cons r0
  obtain ⟨rfl, rfl, rfl⟩ := trodAll_nil r1
  obtain rfl : args = #[v0, v1] := by cases args; simp_all
  obtain ⟨rfl, rfl⟩ := trodVars_none hV
  have k0 := h0
  have lt0 : ∀ x ∈ p0, x.block < W.heap.size := by obtain ⟨m, hm⟩ := k0; exact DataW.trod_lt m _ _ _ hm
  have k1 := h1
  have lt1 : ∀ x ∈ p1, x.block < W.heap.size := by obtain ⟨m, hm⟩ := k1; exact DataW.trod_lt m _ _ _ hm
  obtain ⟨a1, rfl, hd1, hp1, w1⟩ := open_int Try.underlying3 (hval 1 3 v1 rfl rfl) h1
  refine (walk W (hval 0 24 v0 rfl rfl) h0 a1 w1).mono fun e W' ⟨he, bel⟩ => ?_
  subst he
  exact ⟨_, rfl, _, _, _, [], _, [], hW', trodAll_mk1 (shut_bool Try.underlying4 _), (trodAll_cons_mk (Below.trod laidOut (by kernel_rfl) (of_decide_eq_true (by kernel_rfl)) k0 bel lt0) (trodAll_cons_mk (Below.trod laidOut (by kernel_rfl) (of_decide_eq_true (by kernel_rfl)) k1 bel lt1) trodAll_mk0)), rfl, bel.frame _, fun h => by cases h⟩

theorem OpenLast_proved : Rows.OpenLastSaid :=
  OpenClaim.holds_of_wide 7 Try.f7 rfl rfl rfl rfl rfl rfl rfl ⟨rfl, rfl, rfl, rfl, rfl⟩ rfl rfl rfl rfl rfl (by kernel_rfl) Try.func7 (by kernel_rfl)
    (of_decide_eq_true (by kernel_rfl)) (by unfold Func.isWrapper; first | (rw [if_pos (by decide +kernel)]; kernel_rfl) | (rw [if_neg (by decide +kernel)]; exact ⟨rfl, rfl⟩))
    (fun os started H enc _ => lifted os started H enc)

end Go.Proofs.Ytkiaogbddfjkkaa.openLast
