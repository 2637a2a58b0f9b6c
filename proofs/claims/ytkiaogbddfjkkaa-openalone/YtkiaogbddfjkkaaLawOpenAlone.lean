/-
  For every world's size and words, the law OpenAlone answers true: alone a beginning gets the lowest slot that is free, if there is one, in its generation; its snapshot is how many commits there were, and nothing is pending then. Conditions: none.
-/
import Derived.Test.YtkiaogbddfjkkaaRows
import Derived.Test.YtkiaogbddfjkkaaM17
import Derived.Test.YtkiaogbddfjkkaaM7
import Derived.Test.YtkiaogbddfjkkaaM3
import Derived.Test.YtkiaogbddfjkkaaM5
import Derived.WalkKit
import Derived.ProofKit
import Derived.OpenShut
import Derived.ShutString
import Derived.LoopTactic
import Derived.Lib.QuietBelow
namespace Go.Proofs.Ytkiaogbddfjkkaa.openAlone
set_option maxRecDepth 100000
open Go.ChangeShapes Go.WideShapes Go.ChangeAt Go.RowKit Go.Sort
set_option linter.unusedVariables false

theorem own : ownKnob Try.prog.godebug = none := by kernel_rfl
theorem laidOut : laidOutB Try.prog = true := by kernel_rfl

set_option maxHeartbeats 2000000 in
theorem walk_wrong (w : World) (c : Um.Cf) (a : Option Addr) (n cap : Nat)  (h : c.r = false) :
    Calls Try.prog 4 #[(.agg #[.int .i64 (c.t), .int .i64 (c.s), .int .i64 (c.k), .int .i64 (c.g), .int .u64 (c.q : Int)]), .slice a n cap] w fun e w' => e = .returned (.bool true) ∧ Below w.heap.size w w' := by
  have HL := hide (fun w => lOf_wrong c a n cap w h)
  clear h
  have hS := Sx.new w
  go_enter Try.func4, Try.ntmps4
  go_wp2_with (first | (refine wpx_box hS rfl _ _ rfl _ rfl _ (by intro _; simp only [Act.put, List.setIfInBounds_toArray, List.set_cons_zero, List.set_cons_succ]; first | done | exact rfl) ?_; clear hS; intro _ _ hS; dsimp only [blit, List.set, List.cons_append, List.nil_append, Value.cells, List.toList_toArray] at hS) | (refine wpx_alloc hS rfl _ rfl _ (zer_any2 rfl) _ (by intro _; simp only [Act.put, List.setIfInBounds_toArray, List.set_cons_zero, List.set_cons_succ]; first | done | exact rfl) ?_; clear hS; intro _ _ hS; dsimp only [blit, List.set, List.cons_append, List.nil_append, Value.cells, List.toList_toArray] at hS) | (refine wpx_ld hS rfl _ _ rfl _ _ rfl ?_; (first | refine ⟨0, _, rfl, ?_⟩ | refine ⟨1, _, rfl, ?_⟩ | refine ⟨2, _, rfl, ?_⟩ | refine ⟨3, _, rfl, ?_⟩ | refine ⟨4, _, rfl, ?_⟩ | refine ⟨5, _, rfl, ?_⟩ | refine ⟨6, _, rfl, ?_⟩ | refine ⟨7, _, rfl, ?_⟩ | refine ⟨8, _, rfl, ?_⟩ | refine ⟨9, _, rfl, ?_⟩); first | refine .inl ⟨_, one_any2 rfl, rfl, _, (by simp only [Act.put, List.setIfInBounds_toArray, List.set_cons_zero, List.set_cons_succ]; first | done | exact rfl), ?_⟩ | refine .inr ⟨_, _, row_any2 rfl, rfl, (by dsimp only [cutL, List.drop, List.take]; first | done | exact rfl), _, (by simp only [Act.put, List.setIfInBounds_toArray, List.set_cons_zero, List.set_cons_succ]; first | done | exact rfl), ?_⟩) | (refine wpx_st hS rfl _ _ _ rfl rfl _ _ rfl ?_; (first | refine ⟨0, _, rfl, ?_⟩ | refine ⟨1, _, rfl, ?_⟩ | refine ⟨2, _, rfl, ?_⟩ | refine ⟨3, _, rfl, ?_⟩ | refine ⟨4, _, rfl, ?_⟩ | refine ⟨5, _, rfl, ?_⟩ | refine ⟨6, _, rfl, ?_⟩ | refine ⟨7, _, rfl, ?_⟩ | refine ⟨8, _, rfl, ?_⟩ | refine ⟨9, _, rfl, ?_⟩); refine ⟨_, (by first | exact shA rfl | exact shI rfl | exact shB rfl | exact shS rfl | exact shP rfl | exact shF rfl | exact shN rfl), _, siz_any2 rfl, (by exact rfl), (by exact rfl), (by exact rfl), ?_⟩; clear hS; intro _ hS; dsimp only [blit, List.set, List.cons_append, List.nil_append, Value.cells, List.toList_toArray] at hS))
  refine ((unhide HL) _).mono ?_
  rintro r u ⟨rfl, hb⟩
  replace hS := hS.call hb
  clear hb HL
  go_wp2_with (first | (refine wpx_box hS rfl _ _ rfl _ rfl _ (by intro _; simp only [Act.put, List.setIfInBounds_toArray, List.set_cons_zero, List.set_cons_succ]; first | done | exact rfl) ?_; clear hS; intro _ _ hS; dsimp only [blit, List.set, List.cons_append, List.nil_append, Value.cells, List.toList_toArray] at hS) | (refine wpx_alloc hS rfl _ rfl _ (zer_any2 rfl) _ (by intro _; simp only [Act.put, List.setIfInBounds_toArray, List.set_cons_zero, List.set_cons_succ]; first | done | exact rfl) ?_; clear hS; intro _ _ hS; dsimp only [blit, List.set, List.cons_append, List.nil_append, Value.cells, List.toList_toArray] at hS) | (refine wpx_ld hS rfl _ _ rfl _ _ rfl ?_; (first | refine ⟨0, _, rfl, ?_⟩ | refine ⟨1, _, rfl, ?_⟩ | refine ⟨2, _, rfl, ?_⟩ | refine ⟨3, _, rfl, ?_⟩ | refine ⟨4, _, rfl, ?_⟩ | refine ⟨5, _, rfl, ?_⟩ | refine ⟨6, _, rfl, ?_⟩ | refine ⟨7, _, rfl, ?_⟩ | refine ⟨8, _, rfl, ?_⟩ | refine ⟨9, _, rfl, ?_⟩); first | refine .inl ⟨_, one_any2 rfl, rfl, _, (by simp only [Act.put, List.setIfInBounds_toArray, List.set_cons_zero, List.set_cons_succ]; first | done | exact rfl), ?_⟩ | refine .inr ⟨_, _, row_any2 rfl, rfl, (by dsimp only [cutL, List.drop, List.take]; first | done | exact rfl), _, (by simp only [Act.put, List.setIfInBounds_toArray, List.set_cons_zero, List.set_cons_succ]; first | done | exact rfl), ?_⟩) | (refine wpx_st hS rfl _ _ _ rfl rfl _ _ rfl ?_; (first | refine ⟨0, _, rfl, ?_⟩ | refine ⟨1, _, rfl, ?_⟩ | refine ⟨2, _, rfl, ?_⟩ | refine ⟨3, _, rfl, ?_⟩ | refine ⟨4, _, rfl, ?_⟩ | refine ⟨5, _, rfl, ?_⟩ | refine ⟨6, _, rfl, ?_⟩ | refine ⟨7, _, rfl, ?_⟩ | refine ⟨8, _, rfl, ?_⟩ | refine ⟨9, _, rfl, ?_⟩); refine ⟨_, (by first | exact shA rfl | exact shI rfl | exact shB rfl | exact shS rfl | exact shP rfl | exact shF rfl | exact shN rfl), _, siz_any2 rfl, (by exact rfl), (by exact rfl), (by exact rfl), ?_⟩; clear hS; intro _ hS; dsimp only [blit, List.set, List.cons_append, List.nil_append, Value.cells, List.toList_toArray] at hS))
  refine (onew_any hS (⟨fun _ => 0, 0, Um.noT⟩ : Um.Mm)).mono ?_
  rintro r u ⟨P, K, rfl, hSn⟩
  clear hS
  have hS := hSn
  clear hSn
  dsimp only [putL, List.set, List.cons_append, List.nil_append] at hS
  go_wp2_with fail
  refine (oAlive_any _).mono ?_
  rintro r u ⟨rfl, hb⟩
  replace hS := hS.call hb
  have hB := hS.bel
  clear hb hS
  go_wp2
  go_ret
  exact ⟨rfl, hB⟩

set_option maxHeartbeats 2000000 in
theorem walk_short (w : World) (c : Um.Cf) (a : Option Addr) (n cap : Nat)  (h : c.r = true) (hn : n ≠ c.n) :
    Calls Try.prog 4 #[(.agg #[.int .i64 (c.t), .int .i64 (c.s), .int .i64 (c.k), .int .i64 (c.g), .int .u64 (c.q : Int)]), .slice a n cap] w fun e w' => e = .returned (.bool true) ∧ Below w.heap.size w w' := by
  have HL := hide (fun w => lOf_short c a n cap w h hn)
  clear h hn
  have hS := Sx.new w
  go_enter Try.func4, Try.ntmps4
  go_wp2_with (first | (refine wpx_box hS rfl _ _ rfl _ rfl _ (by intro _; simp only [Act.put, List.setIfInBounds_toArray, List.set_cons_zero, List.set_cons_succ]; first | done | exact rfl) ?_; clear hS; intro _ _ hS; dsimp only [blit, List.set, List.cons_append, List.nil_append, Value.cells, List.toList_toArray] at hS) | (refine wpx_alloc hS rfl _ rfl _ (zer_any2 rfl) _ (by intro _; simp only [Act.put, List.setIfInBounds_toArray, List.set_cons_zero, List.set_cons_succ]; first | done | exact rfl) ?_; clear hS; intro _ _ hS; dsimp only [blit, List.set, List.cons_append, List.nil_append, Value.cells, List.toList_toArray] at hS) | (refine wpx_ld hS rfl _ _ rfl _ _ rfl ?_; (first | refine ⟨0, _, rfl, ?_⟩ | refine ⟨1, _, rfl, ?_⟩ | refine ⟨2, _, rfl, ?_⟩ | refine ⟨3, _, rfl, ?_⟩ | refine ⟨4, _, rfl, ?_⟩ | refine ⟨5, _, rfl, ?_⟩ | refine ⟨6, _, rfl, ?_⟩ | refine ⟨7, _, rfl, ?_⟩ | refine ⟨8, _, rfl, ?_⟩ | refine ⟨9, _, rfl, ?_⟩); first | refine .inl ⟨_, one_any2 rfl, rfl, _, (by simp only [Act.put, List.setIfInBounds_toArray, List.set_cons_zero, List.set_cons_succ]; first | done | exact rfl), ?_⟩ | refine .inr ⟨_, _, row_any2 rfl, rfl, (by dsimp only [cutL, List.drop, List.take]; first | done | exact rfl), _, (by simp only [Act.put, List.setIfInBounds_toArray, List.set_cons_zero, List.set_cons_succ]; first | done | exact rfl), ?_⟩) | (refine wpx_st hS rfl _ _ _ rfl rfl _ _ rfl ?_; (first | refine ⟨0, _, rfl, ?_⟩ | refine ⟨1, _, rfl, ?_⟩ | refine ⟨2, _, rfl, ?_⟩ | refine ⟨3, _, rfl, ?_⟩ | refine ⟨4, _, rfl, ?_⟩ | refine ⟨5, _, rfl, ?_⟩ | refine ⟨6, _, rfl, ?_⟩ | refine ⟨7, _, rfl, ?_⟩ | refine ⟨8, _, rfl, ?_⟩ | refine ⟨9, _, rfl, ?_⟩); refine ⟨_, (by first | exact shA rfl | exact shI rfl | exact shB rfl | exact shS rfl | exact shP rfl | exact shF rfl | exact shN rfl), _, siz_any2 rfl, (by exact rfl), (by exact rfl), (by exact rfl), ?_⟩; clear hS; intro _ hS; dsimp only [blit, List.set, List.cons_append, List.nil_append, Value.cells, List.toList_toArray] at hS))
  refine ((unhide HL) _).mono ?_
  rintro r u ⟨rfl, hb⟩
  replace hS := hS.call hb
  clear hb HL
  go_wp2_with (first | (refine wpx_box hS rfl _ _ rfl _ rfl _ (by intro _; simp only [Act.put, List.setIfInBounds_toArray, List.set_cons_zero, List.set_cons_succ]; first | done | exact rfl) ?_; clear hS; intro _ _ hS; dsimp only [blit, List.set, List.cons_append, List.nil_append, Value.cells, List.toList_toArray] at hS) | (refine wpx_alloc hS rfl _ rfl _ (zer_any2 rfl) _ (by intro _; simp only [Act.put, List.setIfInBounds_toArray, List.set_cons_zero, List.set_cons_succ]; first | done | exact rfl) ?_; clear hS; intro _ _ hS; dsimp only [blit, List.set, List.cons_append, List.nil_append, Value.cells, List.toList_toArray] at hS) | (refine wpx_ld hS rfl _ _ rfl _ _ rfl ?_; (first | refine ⟨0, _, rfl, ?_⟩ | refine ⟨1, _, rfl, ?_⟩ | refine ⟨2, _, rfl, ?_⟩ | refine ⟨3, _, rfl, ?_⟩ | refine ⟨4, _, rfl, ?_⟩ | refine ⟨5, _, rfl, ?_⟩ | refine ⟨6, _, rfl, ?_⟩ | refine ⟨7, _, rfl, ?_⟩ | refine ⟨8, _, rfl, ?_⟩ | refine ⟨9, _, rfl, ?_⟩); first | refine .inl ⟨_, one_any2 rfl, rfl, _, (by simp only [Act.put, List.setIfInBounds_toArray, List.set_cons_zero, List.set_cons_succ]; first | done | exact rfl), ?_⟩ | refine .inr ⟨_, _, row_any2 rfl, rfl, (by dsimp only [cutL, List.drop, List.take]; first | done | exact rfl), _, (by simp only [Act.put, List.setIfInBounds_toArray, List.set_cons_zero, List.set_cons_succ]; first | done | exact rfl), ?_⟩) | (refine wpx_st hS rfl _ _ _ rfl rfl _ _ rfl ?_; (first | refine ⟨0, _, rfl, ?_⟩ | refine ⟨1, _, rfl, ?_⟩ | refine ⟨2, _, rfl, ?_⟩ | refine ⟨3, _, rfl, ?_⟩ | refine ⟨4, _, rfl, ?_⟩ | refine ⟨5, _, rfl, ?_⟩ | refine ⟨6, _, rfl, ?_⟩ | refine ⟨7, _, rfl, ?_⟩ | refine ⟨8, _, rfl, ?_⟩ | refine ⟨9, _, rfl, ?_⟩); refine ⟨_, (by first | exact shA rfl | exact shI rfl | exact shB rfl | exact shS rfl | exact shP rfl | exact shF rfl | exact shN rfl), _, siz_any2 rfl, (by exact rfl), (by exact rfl), (by exact rfl), ?_⟩; clear hS; intro _ hS; dsimp only [blit, List.set, List.cons_append, List.nil_append, Value.cells, List.toList_toArray] at hS))
  refine (onew_any hS (⟨fun _ => 0, 0, Um.noT⟩ : Um.Mm)).mono ?_
  rintro r u ⟨P, K, rfl, hSn⟩
  clear hS
  have hS := hSn
  clear hSn
  dsimp only [putL, List.set, List.cons_append, List.nil_append] at hS
  go_wp2_with fail
  refine (oAlive_any _).mono ?_
  rintro r u ⟨rfl, hb⟩
  replace hS := hS.call hb
  have hB := hS.bel
  clear hb hS
  go_wp2
  go_ret
  exact ⟨rfl, hB⟩

theorem isWords_words {W : World} {v : Value} {n : Nat} {ws : Nat → Nat} (h : IsWords W v n ws) : ∀ i, i < n → Um.Word (ws i) := by
  rcases h with ⟨_, _, _, e⟩ | ⟨_, _, _, _, _, _, _, _, e⟩
  · intro i hi; omega
  · exact fun i hi => (e i hi).2

/-- a slot's word -/
theorem slot_cell {c : Um.Cf} (hr : c.r = true) {i : Int} (h0 : 0 ≤ i) (h1 : i < c.s) : ∃ n0 : Nat, (n0 : Int) = c.cl 4 i ∧ n0 < c.n ∧ (c.cl 4 i).toNat = n0 := by
  have hp := (Um.sl_cells hr h0 h1).1
  exact ⟨(c.cl 4 i).toNat, by omega, Um.Cf.cl_lt (by omega), rfl⟩

theorem slot_at (c : Um.Cf) {i : Int} {n0 : Nat} (hn : (n0 : Int) = c.cl 4 i) (hb0 : -9223372036854775808 ≤ i) (hb1 : i ≤ 9223372036854775807) (W : World) :
    Calls Try.prog 19 #[(.agg #[.int .i64 (c.t), .int .i64 (c.s), .int .i64 (c.k), .int .i64 (c.g), .int .u64 (c.q : Int)]), (.agg #[.int .i64 4, .int .i64 i])] W fun e w' => e = .returned (.int .i64 (n0 : Int)) ∧ Below W.heap.size W w' :=
  (cCell_any c.t c.s c.k c.g c.q 4 i W hb0 hb1).mono (fun r w' h => ⟨h.1.trans (by rw [hn]; rfl), h.2⟩)

theorem state_lit {x v : Nat} (hx : Um.Word x) (h : Um.stN x = v) (W : World) : Calls Try.prog 21 #[.int .u64 (x : Nat)] W fun r w' => r = .returned (.int .i64 (v : Int)) ∧ Below W.heap.size W w' :=
  (rState_b x W hx).mono (fun r w' q => ⟨q.1.trans (by rw [h]), q.2⟩)

set_option maxRecDepth 100000 in
set_option maxHeartbeats 8000000 in
theorem walk_right (w : World) (c : Um.Cf) (v : Value) (ws : Nat → Nat) (h : c.r = true) (hv : IsWords w v c.n ws) :
    Calls Try.prog 4 #[(.agg #[.int .i64 (c.t), .int .i64 (c.s), .int .i64 (c.k), .int .i64 (c.g), .int .u64 (c.q : Int)]), v] w fun e w' => e = .returned (.bool true) ∧ Below w.heap.size w w' := by
  have hcb := c.rb h
  obtain ⟨hs1, hs12⟩ : 1 ≤ c.s ∧ c.s ≤ 12 := by omega
  clear hcb
  have HWW := hide (isWords_words hv)
  have hn := c.n_le
  have hn8 := Um.Cf.n_pos h
  have hX : ∃ g0 off cap, v = .slice (some ⟨g0, off, none⟩) c.n cap ∧ c.n ≤ cap ∧ g0 < w.heap.size ∧ ∀ j, j < c.n → w.cell? ⟨g0, off + j, none⟩ = some (.int .u64 (ws j)) := by
    rcases hv with ⟨_, _, _, e⟩ | ⟨g0, off, cap, e, _, e1, _, e2, e3⟩
    · omega
    · exact ⟨g0, off, cap, e, e1, e2, fun j hj => (e3 j hj).1⟩
  have HV := hide hv
  have HR := hide h
  obtain ⟨g0, off, scap, rfl, hcap, hg0, hxs⟩ := hX
  have HX := hide hxs
  clear hv h hxs
  have hS := Sx.new w
  go_enter Try.func4, Try.ntmps4
  go_wp2_with (first | (refine wpx_box hS rfl _ _ rfl _ rfl _ (by intro _; simp only [Act.put, List.setIfInBounds_toArray, List.set_cons_zero, List.set_cons_succ]; first | done | exact rfl) ?_; clear hS; intro _ _ hS; dsimp only [blit, List.set, List.cons_append, List.nil_append, Value.cells, List.toList_toArray] at hS) | (refine wpx_alloc hS rfl _ rfl _ (zer_any2 rfl) _ (by intro _; simp only [Act.put, List.setIfInBounds_toArray, List.set_cons_zero, List.set_cons_succ]; first | done | exact rfl) ?_; clear hS; intro _ _ hS; dsimp only [blit, List.set, List.cons_append, List.nil_append, Value.cells, List.toList_toArray] at hS) | (refine wpx_ld hS rfl _ _ rfl _ _ rfl ?_; (first | refine ⟨0, _, rfl, ?_⟩ | refine ⟨1, _, rfl, ?_⟩ | refine ⟨2, _, rfl, ?_⟩ | refine ⟨3, _, rfl, ?_⟩ | refine ⟨4, _, rfl, ?_⟩ | refine ⟨5, _, rfl, ?_⟩ | refine ⟨6, _, rfl, ?_⟩ | refine ⟨7, _, rfl, ?_⟩ | refine ⟨8, _, rfl, ?_⟩ | refine ⟨9, _, rfl, ?_⟩); first | refine .inl ⟨_, one_any2 rfl, rfl, _, (by simp only [Act.put, List.setIfInBounds_toArray, List.set_cons_zero, List.set_cons_succ]; first | done | exact rfl), ?_⟩ | refine .inr ⟨_, _, row_any2 rfl, rfl, (by dsimp only [cutL, List.drop, List.take]; first | done | exact rfl), _, (by simp only [Act.put, List.setIfInBounds_toArray, List.set_cons_zero, List.set_cons_succ]; first | done | exact rfl), ?_⟩) | (refine wpx_st hS rfl _ _ _ rfl rfl _ _ rfl ?_; (first | refine ⟨0, _, rfl, ?_⟩ | refine ⟨1, _, rfl, ?_⟩ | refine ⟨2, _, rfl, ?_⟩ | refine ⟨3, _, rfl, ?_⟩ | refine ⟨4, _, rfl, ?_⟩ | refine ⟨5, _, rfl, ?_⟩ | refine ⟨6, _, rfl, ?_⟩ | refine ⟨7, _, rfl, ?_⟩ | refine ⟨8, _, rfl, ?_⟩ | refine ⟨9, _, rfl, ?_⟩); refine ⟨_, (by first | exact shA rfl | exact shI rfl | exact shB rfl | exact shS rfl | exact shP rfl | exact shF rfl | exact shN rfl), _, siz_any2 rfl, (by exact rfl), (by exact rfl), (by exact rfl), ?_⟩; clear hS; intro _ hS; dsimp only [blit, List.set, List.cons_append, List.nil_append, Value.cells, List.toList_toArray] at hS))
  refine (lOf_x hS c _ ws (unhide HR) (((unhide HV).low.below hS.bel).is hS.bel.size)).mono ?_
  rintro r u ⟨B, C, g, cg, rfl, hc1, hc2, hWn, hSn⟩
  clear hS
  have hS := hSn
  clear hSn
  dsimp only [putL, List.set, List.cons_append, List.nil_append] at hS
  have HW0 := hide hWn
  clear hWn
  go_wp2_with (first | (refine wpx_box hS rfl _ _ rfl _ rfl _ (by intro _; simp only [Act.put, List.setIfInBounds_toArray, List.set_cons_zero, List.set_cons_succ]; first | done | exact rfl) ?_; clear hS; intro _ _ hS; dsimp only [blit, List.set, List.cons_append, List.nil_append, Value.cells, List.toList_toArray] at hS) | (refine wpx_alloc hS rfl _ rfl _ (zer_any2 rfl) _ (by intro _; simp only [Act.put, List.setIfInBounds_toArray, List.set_cons_zero, List.set_cons_succ]; first | done | exact rfl) ?_; clear hS; intro _ _ hS; dsimp only [blit, List.set, List.cons_append, List.nil_append, Value.cells, List.toList_toArray] at hS) | (refine wpx_ld hS rfl _ _ rfl _ _ rfl ?_; (first | refine ⟨0, _, rfl, ?_⟩ | refine ⟨1, _, rfl, ?_⟩ | refine ⟨2, _, rfl, ?_⟩ | refine ⟨3, _, rfl, ?_⟩ | refine ⟨4, _, rfl, ?_⟩ | refine ⟨5, _, rfl, ?_⟩ | refine ⟨6, _, rfl, ?_⟩ | refine ⟨7, _, rfl, ?_⟩ | refine ⟨8, _, rfl, ?_⟩ | refine ⟨9, _, rfl, ?_⟩); first | refine .inl ⟨_, one_any2 rfl, rfl, _, (by simp only [Act.put, List.setIfInBounds_toArray, List.set_cons_zero, List.set_cons_succ]; first | done | exact rfl), ?_⟩ | refine .inr ⟨_, _, row_any2 rfl, rfl, (by dsimp only [cutL, List.drop, List.take]; first | done | exact rfl), _, (by simp only [Act.put, List.setIfInBounds_toArray, List.set_cons_zero, List.set_cons_succ]; first | done | exact rfl), ?_⟩) | (refine wpx_st hS rfl _ _ _ rfl rfl _ _ rfl ?_; (first | refine ⟨0, _, rfl, ?_⟩ | refine ⟨1, _, rfl, ?_⟩ | refine ⟨2, _, rfl, ?_⟩ | refine ⟨3, _, rfl, ?_⟩ | refine ⟨4, _, rfl, ?_⟩ | refine ⟨5, _, rfl, ?_⟩ | refine ⟨6, _, rfl, ?_⟩ | refine ⟨7, _, rfl, ?_⟩ | refine ⟨8, _, rfl, ?_⟩ | refine ⟨9, _, rfl, ?_⟩); refine ⟨_, (by first | exact shA rfl | exact shI rfl | exact shB rfl | exact shS rfl | exact shP rfl | exact shF rfl | exact shN rfl), _, siz_any2 rfl, (by exact rfl), (by exact rfl), (by exact rfl), ?_⟩; clear hS; intro _ hS; dsimp only [blit, List.set, List.cons_append, List.nil_append, Value.cells, List.toList_toArray] at hS))
  refine (onew_any hS (⟨ws, 0, Um.noT⟩ : Um.Mm)).mono ?_
  rintro r u ⟨P, K, rfl, hSn⟩
  clear hS
  have hS := hSn
  clear hSn
  dsimp only [putL, List.set, List.cons_append, List.nil_append] at hS
  go_wp2_with (first | (refine wpx_box hS rfl _ _ rfl _ rfl _ (by intro _; simp only [Act.put, List.setIfInBounds_toArray, List.set_cons_zero, List.set_cons_succ]; first | done | exact rfl) ?_; clear hS; intro _ _ hS; dsimp only [blit, List.set, List.cons_append, List.nil_append, Value.cells, List.toList_toArray] at hS) | (refine wpx_alloc hS rfl _ rfl _ (zer_any2 rfl) _ (by intro _; simp only [Act.put, List.setIfInBounds_toArray, List.set_cons_zero, List.set_cons_succ]; first | done | exact rfl) ?_; clear hS; intro _ _ hS; dsimp only [blit, List.set, List.cons_append, List.nil_append, Value.cells, List.toList_toArray] at hS) | (refine wpx_ld hS rfl _ _ rfl _ _ rfl ?_; (first | refine ⟨0, _, rfl, ?_⟩ | refine ⟨1, _, rfl, ?_⟩ | refine ⟨2, _, rfl, ?_⟩ | refine ⟨3, _, rfl, ?_⟩ | refine ⟨4, _, rfl, ?_⟩ | refine ⟨5, _, rfl, ?_⟩ | refine ⟨6, _, rfl, ?_⟩ | refine ⟨7, _, rfl, ?_⟩ | refine ⟨8, _, rfl, ?_⟩ | refine ⟨9, _, rfl, ?_⟩); first | refine .inl ⟨_, one_any2 rfl, rfl, _, (by simp only [Act.put, List.setIfInBounds_toArray, List.set_cons_zero, List.set_cons_succ]; first | done | exact rfl), ?_⟩ | refine .inr ⟨_, _, row_any2 rfl, rfl, (by dsimp only [cutL, List.drop, List.take]; first | done | exact rfl), _, (by simp only [Act.put, List.setIfInBounds_toArray, List.set_cons_zero, List.set_cons_succ]; first | done | exact rfl), ?_⟩) | (refine wpx_st hS rfl _ _ _ rfl rfl _ _ rfl ?_; (first | refine ⟨0, _, rfl, ?_⟩ | refine ⟨1, _, rfl, ?_⟩ | refine ⟨2, _, rfl, ?_⟩ | refine ⟨3, _, rfl, ?_⟩ | refine ⟨4, _, rfl, ?_⟩ | refine ⟨5, _, rfl, ?_⟩ | refine ⟨6, _, rfl, ?_⟩ | refine ⟨7, _, rfl, ?_⟩ | refine ⟨8, _, rfl, ?_⟩ | refine ⟨9, _, rfl, ?_⟩); refine ⟨_, (by first | exact shA rfl | exact shI rfl | exact shB rfl | exact shS rfl | exact shP rfl | exact shF rfl | exact shN rfl), _, siz_any2 rfl, (by exact rfl), (by exact rfl), (by exact rfl), ?_⟩; clear hS; intro _ hS; dsimp only [blit, List.set, List.cons_append, List.nil_append, Value.cells, List.toList_toArray] at hS))
  obtain ⟨CF, rfl⟩ := nameB hS 0 rfl
  obtain ⟨R, rfl⟩ := nameB hS 3 rfl
  obtain ⟨u, rfl⟩ := nameW hS
  go_loopw [9, 10] (fun fv iv wr => ∃ (i f : Int), -1 ≤ i ∧ i < c.s ∧ fv = .int .i64 f ∧ iv = .int .i64 i ∧ Hid (Um.Lo9 c ws (i + 1) f) ∧ Below u.heap.size u wr) (fun _ iv _ => (intOf iv + 1).toNat)
  case atStart => exact ⟨c.s - 1, -1, by omega, by omega, rfl, rfl, hide (by have := Um.lo_new c ws; rwa [show c.s - 1 + 1 = c.s by omega]), Below.refl _ _⟩
  case round =>
    obtain ⟨i, f, hi0, hi1, rfl, rfl, HLO, hBr⟩ := hrel
    replace hS := hS.call hBr
    by_cases hlt : 0 ≤ i
    · have p2 : decide (0 ≤ i) = true := decide_eq_true hlt
      obtain ⟨n0, hn0, hn1, hn2⟩ := slot_cell (unhide HR) hlt hi1
      have HCE := hide (fun W => slot_at c hn0 (by omega) (by omega) W)
      have hn3 : (n0 : Int) < (c.n : Int) := by omega
      have hxq := (hS.bel.cell (p := ⟨g0, off + n0, none⟩) hg0).trans ((unhide HX) n0 hn1)
      have HXW := hide ((unhide HWW) n0 hn1)
      have HFR := hide (show Um.frN c (ws (c.cl 4 i).toNat) = Um.frN c (ws n0) by rw [hn2])
      generalize ws n0 = x at hxq HXW HFR
      have q0 := cell_regrown hxq
      clear hxq hn0 hn2
      go_wp2_with fail
      have kc0 := cell_regrown ((hS.get 0 rfl).cell 0 _ rfl)
      have kc1 := cell_regrown ((hS.get 0 rfl).cell 1 _ rfl)
      have kc2 := cell_regrown ((hS.get 0 rfl).cell 2 _ rfl)
      have kc3 := cell_regrown ((hS.get 0 rfl).cell 3 _ rfl)
      have kc4 := cell_regrown ((hS.get 0 rfl).cell 4 _ rfl)
      obtain ⟨u5, rfl⟩ := nameW hS
      have HSQ := hide hS
      clear hS
      refine wp_region_quiet_below (by kernel_rfl) (by kernel_rfl) ?_
      repeat (go_big_quiet_step (first | (go_at_call 20; exact Calls.regrown_of (of9_any _ _ _)) | (go_at_call 19; exact Calls.regrown_of ((unhide HCE) _))))
      refine wpQuiet_nil ?_
      intro _ hw'
      obtain ⟨⟨dq, osq⟩, hw''⟩ := hw'
      subst hw''
      have hQ := below_regrown u5 dq osq
      have hS := (unhide HSQ).call hQ
      clear HSQ kc0 kc1 kc2 kc3 kc4 q0 HCE
      have hB1 := hBr.trans (hQ.mono hBr.size)
      clear hQ
      generalize grow (redrawn u5 dq) osq = u6 at *
      by_cases h3 : Um.stN x = 0
      · by_cases h4 : ((Um.gnN x : Nat) : Int) ≤ c.g
        · have HST := hide (fun W => state_lit (unhide HXW) h3 W)
          have hgd : decide (((Um.gnN x : Nat) : Int) ≤ c.g) = true := decide_eq_true h4
          have hyes : Um.frN c (ws (c.cl 4 i).toNat) = true := (unhide HFR).trans (decide_eq_true ⟨h3, h4⟩)
          have HY := hide hyes
          clear hyes h3
          go_wp2_with fail
          have kc3 := cell_regrown ((hS.get 0 rfl).cell 3 _ rfl)
          obtain ⟨u5, rfl⟩ := nameW hS
          have HSQ := hide hS
          clear hS
          refine wp_region_quiet_below (by kernel_rfl) (by kernel_rfl) ?_
          repeat (go_big_quiet_step (first | (go_at_call 21; exact Calls.regrown_of ((unhide HST) _)) | (go_at_call 22; exact Calls.regrown_of (rGen_b _ _ (unhide HXW)))))
          refine wpQuiet_nil ?_
          intro _ hw'
          obtain ⟨⟨dq, osq⟩, hw''⟩ := hw'
          subst hw''
          have hQ := below_regrown u5 dq osq
          have hS := (unhide HSQ).call hQ
          clear HSQ kc3 HST
          have hB2 := hB1.trans (hQ.mono hB1.size)
          clear hQ hS
          generalize grow (redrawn u5 dq) osq = u8 at *
          have HL2 := hide (Um.lo_yes hlt hi1 (unhide HY))
          go_wp2
          refine ⟨⟨i - 1, i, by omega, by omega, rfl, by go_num, ?_, hB2⟩, by simp [intOf]; omega⟩
          rw [show i - 1 + 1 = i by omega]
          exact HL2
        · have HST := hide (fun W => state_lit (unhide HXW) h3 W)
          have hgd : decide (((Um.gnN x : Nat) : Int) ≤ c.g) = false := decide_eq_false h4
          have hno : Um.frN c (ws (c.cl 4 i).toNat) = false := (unhide HFR).trans (decide_eq_false (fun q => h4 q.2))
          have HY := hide hno
          clear hno h3
          go_wp2_with fail
          have kc3 := cell_regrown ((hS.get 0 rfl).cell 3 _ rfl)
          obtain ⟨u5, rfl⟩ := nameW hS
          have HSQ := hide hS
          clear hS
          refine wp_region_quiet_below (by kernel_rfl) (by kernel_rfl) ?_
          repeat (go_big_quiet_step (first | (go_at_call 21; exact Calls.regrown_of ((unhide HST) _)) | (go_at_call 22; exact Calls.regrown_of (rGen_b _ _ (unhide HXW)))))
          refine wpQuiet_nil ?_
          intro _ hw'
          obtain ⟨⟨dq, osq⟩, hw''⟩ := hw'
          subst hw''
          have hQ := below_regrown u5 dq osq
          have hS := (unhide HSQ).call hQ
          clear HSQ kc3 HST
          have hB2 := hB1.trans (hQ.mono hB1.size)
          clear hQ hS
          generalize grow (redrawn u5 dq) osq = u8 at *
          have HL2 := hide ((unhide HLO).no (unhide HY))
          go_wp2
          refine ⟨⟨i - 1, f, by omega, by omega, rfl, by go_num, ?_, hB2⟩, by simp [intOf]; omega⟩
          rw [show i - 1 + 1 = i by omega]
          exact HL2
      · have HST := hide (fun W => rState_b x W (unhide HXW))
        have hst : ¬ ((Um.stN x : Nat) : Int) = 0 := by omega
        have hst5 : (((Um.stN x : Nat) : Int) == 0) = false := by simpa using hst
        have hno : Um.frN c (ws (c.cl 4 i).toNat) = false := (unhide HFR).trans (decide_eq_false (fun q => h3 q.1))
        have HY := hide hno
        clear hno h3
        go_wp2_with fail
        have kc3 := cell_regrown ((hS.get 0 rfl).cell 3 _ rfl)
        obtain ⟨u5, rfl⟩ := nameW hS
        have HSQ := hide hS
        clear hS
        refine wp_region_quiet_below (by kernel_rfl) (by kernel_rfl) ?_
        repeat (go_big_quiet_step (first | (go_at_call 21; exact Calls.regrown_of ((unhide HST) _)) | (go_at_call 22; exact Calls.regrown_of (rGen_b _ _ (unhide HXW)))))
        refine wpQuiet_nil ?_
        intro _ hw'
        obtain ⟨⟨dq, osq⟩, hw''⟩ := hw'
        subst hw''
        have hQ := below_regrown u5 dq osq
        have hS := (unhide HSQ).call hQ
        clear HSQ kc3 HST
        have hB2 := hB1.trans (hQ.mono hB1.size)
        clear hQ hS
        generalize grow (redrawn u5 dq) osq = u8 at *
        have HL2 := hide ((unhide HLO).no (unhide HY))
        go_wp2
        refine ⟨⟨i - 1, f, by omega, by omega, rfl, by go_num, ?_, hB2⟩, by simp [intOf]; omega⟩
        rw [show i - 1 + 1 = i by omega]
        exact HL2
    · have hge : i < 0 := by omega
      have p2 : decide (0 ≤ i) = false := decide_eq_false hlt
      obtain rfl : i = -1 := by omega
      obtain ⟨m0, hm0⟩ : ∃ m0 : Um.Mm, m0 = ⟨ws, 0, Um.noT⟩ := ⟨_, rfl⟩
      have hwm : m0.ws = ws := by rw [hm0]
      have HW1 := hide (show WordsOk c m0 by rw [hm0]; exact unhide HW0)
      rw [show (C, rowW ws c.n) = (C, rowW m0.ws c.n) by rw [hwm], ← hm0] at hS
      obtain ⟨A, hA⟩ : ∃ A, A = Um.oit c (Um.onew m0) 100 := ⟨_, rfl⟩
      have HH := hide hA
      have HM0 := hide hwm
      clear hm0 hwm HW0 hBr hA
      go_wp2_with fail
      refine (ends9_x hS 1 2 4 5 (Um.onew m0) (show 0 ≠ 3 by decide) (qb_new _) rfl rfl rfl rfl (by decide) (by decide) (by decide) (by decide) (by decide) (by decide) (unhide HR) (onew_ok (unhide HR) (unhide HW1)) 100 (by decide) A (unhide HH)).mono ?_
      rintro r u ⟨N, rfl, _, _, _, hOn, nt, q0, _, hSn⟩
      clear hS
      have hS := hSn
      clear hSn
      dsimp only [putL, List.set, List.cons_append, List.nil_append] at hS
      have HO := hide hOn
      clear hOn HW1
      by_cases hf : f < 0
      · have p3 : decide (f < 0) = true := decide_eq_true hf
        obtain ⟨e1, e2, e3, e4⟩ := Um.alone_full (unhide HR) m0 (by rw [unhide HM0]; exact (unhide HLO).full hf) (k := 100) (by decide) A (unhide HH)
        have HN6 := hide e1
        have HTE := hide e2
        have HTH := hide (show ((A.th : Nat) : Int) = 0 by rw [e3]; rfl)
        have HTN := hide (show ((A.tn : Nat) : Int) = 0 by rw [e4]; rfl)
        have heq := fun w => eqlAns (a := 6) (b := 0) (c := 0) (a' := 6) (b' := 0) (c' := 0) (r := true) (by decide) w
        clear e1 e2 e3 e4
        go_wp2_with fail
        refine (oAlive_any _).mono ?_
        rintro r u ⟨rfl, hb⟩
        replace hS := hS.call hb
        clear hb
        go_wp2_with fail
        refine (oDone_any (hS.get 4 rfl) (unhide HO).nx).mono ?_
        rintro r u ⟨rfl, rfl⟩
        rw [decide_eq_true (unhide HN6)]
        go_wp2_with fail
        refine (oAnswer_any (hS.get 4 rfl)).mono ?_
        rintro r u ⟨rfl, hb⟩
        replace hS := hS.call hb
        clear hb
        rw [unhide HTE, show ((A.th : Nat) : Int) = 0 from unhide HTH, show ((A.tn : Nat) : Int) = 0 from unhide HTN]
        have hB := hS.bel
        clear hS
        go_wp2
        go_ret
        exact ⟨rfl, hB⟩
      · have p3 : decide (f < 0) = false := decide_eq_false hf
        have hG := (unhide HLO).got (show 0 ≤ f by omega)
        have hf0 := hG.lo
        have hf1 := hG.hi
        obtain ⟨n0, hn0, hn1, hn2⟩ := slot_cell (unhide HR) hf0 hf1
        have HCE := hide (fun W => slot_at c hn0 (by omega) (by omega) W)
        have hn3 : (n0 : Int) < (c.n : Int) := by omega
        obtain ⟨m3, hm3⟩ : ∃ m3, m3 = Um.mtouch c A.m 1 5 f 0 0 := ⟨_, rfl⟩
        obtain ⟨m4, hm4⟩ : ∃ m4, m4 = Um.mtouch c m3 1 4 f 0 0 := ⟨_, rfl⟩
        obtain ⟨m5, hm5⟩ : ∃ m5, m5 = Um.mtouch c m4 1 1 0 0 0 := ⟨_, rfl⟩
        obtain ⟨e1, e2, e3, e4, e5, e6, e7⟩ := Um.alone_got (unhide HR) m0 (f := f) (by rw [unhide HM0]; exact hG) (k := 100) (by decide) A (unhide HH) m3 m4 m5 hm3 hm4 hm5
        rw [unhide HM0] at e3 e4 e5
        rw [hn2] at e3
        have q0 := (hS.bel.cell (p := ⟨g0, off + n0, none⟩) hg0).trans ((unhide HX) n0 hn1)
        have q1 : w.cell? ⟨g0, off, none⟩ = some (.int .u64 (ws 0)) := (unhide HX) 0 (by omega)
        have HXW := hide ((unhide HWW) n0 hn1)
        have hw0 : Um.Word (ws 0) := (unhide HWW) 0 (by omega)
        generalize ws n0 = x at q0 e3 HXW
        obtain ⟨z, hz⟩ : ∃ z, z = Um.seqN (ws 0) := ⟨_, rfl⟩
        rw [← hz] at e4 e5
        have z1 : ((ws 0 : Nat) : Int) / 16 = ((z : Nat) : Int) := by rw [hz]; unfold Um.seqN; omega
        have z2 : IntKind.u64.wrap ((z : Nat) : Int) = ((z : Nat) : Int) := by
          rw [IntKind.wrap_u64, ← z1]
          unfold Um.Word at hw0
          omega
        generalize ws 0 = x0 at q1 z1 z2
        obtain ⟨v5, hv5⟩ : ∃ v5, v5 = m5.l.old := ⟨_, rfl⟩
        rw [← hv5] at e7
        have y1 : ((v5 : Nat) : Int) % 16 = 0 := by omega
        have y2 : IntKind.u64.wrap (((v5 : Nat) : Int) % 16) = 0 := by rw [y1]; rfl
        have HV5 := hide hv5
        have HN6 := hide e1
        have HTE := hide e2
        have HTH := hide (show ((A.th : Nat) : Int) = ((Um.mkN f ((Um.gnN x : Nat) : Int) : Nat) : Int) by rw [e3])
        have HTN := hide (show ((A.tn : Nat) : Int) = ((z : Nat) : Int) by rw [e4])
        have HO3 := hide (show ((m3.l.old : Nat) : Int) = ((z : Nat) : Int) by rw [e5])
        have HO4 := hide e6
        have Hm3 := hide hm3
        have Hm4 := hide hm4
        have Hm5 := hide hm5
        have HBD := hide (show -9223372036854775808 ≤ f ∧ f ≤ 9223372036854775807 by omega)
        clear hG hn0 hn2 e1 e2 e3 e4 e5 e6 e7 hz hm3 hm4 hm5 hv5 hw0 HLO
        have Y12 := hide (And.intro y1 y2)
        clear y1 y2
        have q9 := cell_regrown q0
        clear q0
        go_wp2_with fail
        have kc0 := cell_regrown ((hS.get 0 rfl).cell 0 _ rfl)
        have kc1 := cell_regrown ((hS.get 0 rfl).cell 1 _ rfl)
        have kc2 := cell_regrown ((hS.get 0 rfl).cell 2 _ rfl)
        have kc3 := cell_regrown ((hS.get 0 rfl).cell 3 _ rfl)
        have kc4 := cell_regrown ((hS.get 0 rfl).cell 4 _ rfl)
        obtain ⟨u5, rfl⟩ := nameW hS
        have HSQ := hide hS
        clear hS
        refine wp_region_quiet_below (by kernel_rfl) (by kernel_rfl) ?_
        repeat (go_big_quiet_step (first | (go_at_call 20; exact Calls.regrown_of (of9_any _ _ _)) | (go_at_call 19; exact Calls.regrown_of ((unhide HCE) _)) | (go_at_call 22; exact Calls.regrown_of (rGen_b _ _ (unhide HXW))) | (go_at_call 24; exact Calls.regrown_of (same_below (krMake_any _ _ _)))))
        refine wpQuiet_nil ?_
        intro _ hw'
        obtain ⟨⟨dq, osq⟩, hw''⟩ := hw'
        subst hw''
        have hQ := below_regrown u5 dq osq
        have hS := (unhide HSQ).call hQ
        clear HSQ kc0 kc1 kc2 kc3 kc4 q9 HCE
        clear hQ
        generalize grow (redrawn u5 dq) osq = u6 at *
        go_wp2_with (first | (first | (refine wpx_box hS rfl _ _ rfl _ rfl _ (by intro _; simp only [Act.put, List.setIfInBounds_toArray, List.set_cons_zero, List.set_cons_succ]; first | done | exact rfl) ?_; clear hS; intro _ _ hS; dsimp only [blit, List.set, List.cons_append, List.nil_append, Value.cells, List.toList_toArray] at hS) | (refine wpx_alloc hS rfl _ rfl _ (zer_any2 rfl) _ (by intro _; simp only [Act.put, List.setIfInBounds_toArray, List.set_cons_zero, List.set_cons_succ]; first | done | exact rfl) ?_; clear hS; intro _ _ hS; dsimp only [blit, List.set, List.cons_append, List.nil_append, Value.cells, List.toList_toArray] at hS) | (refine wpx_ld hS rfl _ _ rfl _ _ rfl ?_; (first | refine ⟨0, _, rfl, ?_⟩ | refine ⟨1, _, rfl, ?_⟩ | refine ⟨2, _, rfl, ?_⟩ | refine ⟨3, _, rfl, ?_⟩ | refine ⟨4, _, rfl, ?_⟩ | refine ⟨5, _, rfl, ?_⟩ | refine ⟨6, _, rfl, ?_⟩ | refine ⟨7, _, rfl, ?_⟩ | refine ⟨8, _, rfl, ?_⟩ | refine ⟨9, _, rfl, ?_⟩); first | refine .inl ⟨_, one_any2 rfl, rfl, _, (by simp only [Act.put, List.setIfInBounds_toArray, List.set_cons_zero, List.set_cons_succ]; first | done | exact rfl), ?_⟩ | refine .inr ⟨_, _, row_any2 rfl, rfl, (by dsimp only [cutL, List.drop, List.take]; first | done | exact rfl), _, (by simp only [Act.put, List.setIfInBounds_toArray, List.set_cons_zero, List.set_cons_succ]; first | done | exact rfl), ?_⟩) | (refine wpx_st hS rfl _ _ _ rfl rfl _ _ rfl ?_; (first | refine ⟨0, _, rfl, ?_⟩ | refine ⟨1, _, rfl, ?_⟩ | refine ⟨2, _, rfl, ?_⟩ | refine ⟨3, _, rfl, ?_⟩ | refine ⟨4, _, rfl, ?_⟩ | refine ⟨5, _, rfl, ?_⟩ | refine ⟨6, _, rfl, ?_⟩ | refine ⟨7, _, rfl, ?_⟩ | refine ⟨8, _, rfl, ?_⟩ | refine ⟨9, _, rfl, ?_⟩); refine ⟨_, (by first | exact shA rfl | exact shI rfl | exact shB rfl | exact shS rfl | exact shP rfl | exact shF rfl | exact shN rfl), _, siz_any2 rfl, (by exact rfl), (by exact rfl), (by exact rfl), ?_⟩; clear hS; intro _ hS; dsimp only [blit, List.set, List.cons_append, List.nil_append, Value.cells, List.toList_toArray] at hS)) | (refine wpx_old hS rfl _ _ rfl _ _ rfl hg0 _ q1 (one_any2 rfl) _ (by simp only [Act.put, List.setIfInBounds_toArray, List.set_cons_zero, List.set_cons_succ]; first | done | exact rfl) ?_))
        clear q1 z1 z2
        generalize Um.mkN f ((Um.gnN x : Nat) : Int) = hh at *
        refine (oAlive_any _).mono ?_
        rintro r u ⟨rfl, hb⟩
        replace hS := hS.call hb
        clear hb
        go_wp2_with fail
        refine (oDone_any (hS.get 4 rfl) (unhide HO).nx).mono ?_
        rintro r u ⟨rfl, rfl⟩
        rw [decide_eq_true (unhide HN6)]
        go_wp2_with fail
        refine (oAnswer_any (hS.get 4 rfl)).mono ?_
        rintro r u ⟨rfl, hb⟩
        replace hS := hS.call hb
        clear hb
        rw [unhide HTE, show ((A.th : Nat) : Int) = ((hh : Nat) : Int) from unhide HTH, show ((A.tn : Nat) : Int) = ((z : Nat) : Int) from unhide HTN]
        go_wp2_with fail
        refine (of9_any 5 f _).mono ?_
        rintro r u ⟨rfl, hb⟩
        replace hS := hS.call hb
        clear hb
        go_wp2_with fail
        refine (mLoad_x hS 1 2 rfl rfl (by decide) (unhide HR) (unhide HO).wd 5 f (unhide HBD).1 (unhide HBD).2 m3 (unhide Hm3)).mono ?_
        rintro r u ⟨rfl, hWn, hSn⟩
        clear hS
        have hS := hSn
        clear hSn
        dsimp only [putL, List.set, List.cons_append, List.nil_append] at hS
        have HW3 := hide hWn
        clear hWn
        rw [unhide HO3]
        go_wp2_with fail
        refine (of9_any 4 f _).mono ?_
        rintro r u ⟨rfl, hb⟩
        replace hS := hS.call hb
        clear hb
        go_wp2_with fail
        refine (mLoad_x hS 1 2 rfl rfl (by decide) (unhide HR) (unhide HW3) 4 f (unhide HBD).1 (unhide HBD).2 m4 (unhide Hm4)).mono ?_
        rintro r u ⟨rfl, hWn, hSn⟩
        clear hS
        have hS := hSn
        clear hSn
        dsimp only [putL, List.set, List.cons_append, List.nil_append] at hS
        have HW4 := hide hWn
        clear hWn
        have HOW := hide (show Um.Word m4.l.old by rw [unhide Hm4]; exact Um.old_word (unhide HW3))
        go_wp2_with fail
        refine (state_lit (unhide HOW) (unhide HO4) _).mono ?_
        rintro r u ⟨rfl, hb⟩
        replace hS := hS.call hb
        clear hb
        go_wp2_with fail
        refine (of9_any 1 0 _).mono ?_
        rintro r u ⟨rfl, hb⟩
        replace hS := hS.call hb
        clear hb
        go_wp2_with fail
        refine (mLoad_x hS 1 2 rfl rfl (by decide) (unhide HR) (unhide HW4) 1 0 (by decide) (by decide) m5 (unhide Hm5)).mono ?_
        rintro r u ⟨rfl, hWn, hSn⟩
        clear hS
        have hS := hSn
        clear hSn
        dsimp only [putL, List.set, List.cons_append, List.nil_append] at hS
        have HW5 := hide hWn
        clear hWn
        rw [← unhide HV5]
        obtain ⟨y1, y2⟩ := unhide Y12
        have hB := hS.bel
        clear hS
        go_wp2
        go_ret
        exact ⟨rfl, hB⟩

theorem walk {H : Type} {enc : TypeId × Value → H} {base : Nat} {v0 v1 : Value} {d0 d1 : DataW H} {p0 p1 : List MemPlace} (w : World)
    (hv0 : Value.okWide Try.prog w .any base 24 v0) (h0 : DataW.Trod enc Try.prog w 0 (fun _ => true) true 24 v0 d0 p0)
    (hv1 : Value.okWide Try.prog w .any base 25 v1) (h1 : DataW.Trod enc Try.prog w 0 (fun _ => true) true 25 v1 d1 p1) :
    Calls Try.prog 4 #[v0, v1] w fun e w' => e = .returned (.bool true) ∧ Below w.heap.size w w' := by
  obtain ⟨ct, s, k, g, q, rfl, hsb⟩ := open_cfg hv0 h0
  obtain ⟨n, ws, hI⟩ := open_words hv1 h1
  cases hr : (⟨ct, s, k, g, q⟩ : Um.Cf).r with
  | false =>
    obtain ⟨sa, cap, rfl⟩ := words_len hI
    exact walk_wrong w ⟨ct, s, k, g, q⟩ sa n cap hr
  | true =>
    by_cases hn : n = (⟨ct, s, k, g, q⟩ : Um.Cf).n
    · subst hn
      exact walk_right w ⟨ct, s, k, g, q⟩ v1 ws hr hI
    · obtain ⟨sa, cap, rfl⟩ := words_len hI
      exact walk_short w ⟨ct, s, k, g, q⟩ sa n cap hr hn

set_option maxRecDepth 100000 in
theorem lifted (os : Os) (started : os.Started) (H : Type) (enc : TypeId × Value → H) :
    ReturnsInHanded {} Try.checked os 4 .any (Rows.openAloneSpec.pre6 enc Try.prog Try.f4 Rows.openAloneRow.domain false) (Rows.openAloneSpec.post enc Try.prog Try.f4 false true false false) := by
  refine returnsInHanded_of_change (C := Try.checked) own started (by kernel_rfl) Try.func4
    (ChangeSpec.witness6 (enc := enc) (C := Try.checked) false ⟨#[], #[.agg #[.int .i64 0, .int .i64 0, .int .i64 0, .int .i64 0, .int .u64 0], .slice none 0 0], []⟩ 8 (by kernel_rfl) (by kernel_rfl) (by kernel_rfl) (by kernel_rfl)) ?_
  intro W base args ds gs before hval0 hW hcnd _
  have hval : ∀ (j : Nat) t v, Try.f4.params[j]? = some t → args[j]? = some v → Value.okWide Try.prog W .any base t v := hval0
  have hW' := hW
  obtain ⟨p, q, hA0, hV, rfl, hfz, hnd⟩ := hW
  have hA : DataW.TrodAll enc Try.prog W 0 (fun _ => true) true Try.f4.params.toList args.toList ds p := hA0
  rw [Try.params4] at hA hval
  obtain ⟨v0, vs0, d0, ds0, p0, q0, hargs, rfl, rfl, h0, r0⟩ := trodAll_cons hA
  obtain ⟨v1, vs1, d1, ds1, p1, q1, rfl, rfl, rfl, h1, r1⟩ := trodAll_cons r0
  obtain ⟨rfl, rfl, rfl⟩ := trodAll_nil r1
  obtain rfl : args = #[v0, v1] := by cases args; simp_all
  obtain ⟨rfl, rfl⟩ := trodVars_none hV
  have k0 := h0
  have lt0 : ∀ x ∈ p0, x.block < W.heap.size := by obtain ⟨m, hm⟩ := k0; exact DataW.trod_lt m _ _ _ hm
  have k1 := h1
  have lt1 : ∀ x ∈ p1, x.block < W.heap.size := by obtain ⟨m, hm⟩ := k1; exact DataW.trod_lt m _ _ _ hm
  refine (walk W (hval 0 24 v0 rfl rfl) h0 (hval 1 25 v1 rfl rfl) h1).mono fun e W' ⟨he, bel⟩ => ?_
  subst he
  exact ⟨_, rfl, _, _, _, [], _, [], hW', trodAll_mk1 (shut_bool Try.underlying4 _), (trodAll_cons_mk (Below.trod laidOut (by kernel_rfl) (of_decide_eq_true (by kernel_rfl)) k0 bel lt0) (trodAll_cons_mk (Below.trod laidOut (by kernel_rfl) (of_decide_eq_true (by kernel_rfl)) k1 bel lt1) trodAll_mk0)), rfl, bel.frame _, fun h => by cases h⟩

theorem OpenAlone_proved : Rows.OpenAloneSaid :=
  OpenClaim.holds_of_wide 4 Try.f4 rfl rfl rfl rfl rfl rfl rfl ⟨rfl, rfl, rfl, rfl, rfl⟩ rfl rfl rfl rfl rfl (by kernel_rfl) Try.func4 (by kernel_rfl)
    (of_decide_eq_true (by kernel_rfl)) (by unfold Func.isWrapper; first | (rw [if_pos (by decide +kernel)]; kernel_rfl) | (rw [if_neg (by decide +kernel)]; exact ⟨rfl, rfl⟩))
    (fun os started H enc _ => lifted os started H enc)

end Go.Proofs.Ytkiaogbddfjkkaa.openAlone
