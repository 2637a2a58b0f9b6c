/-
  For every world's size, words and word of the tally, the law HelpOnly answers true: a help changes nothing but the Tally, and the Status and the Number of the slot that is pending. Conditions: none.
-/
import Derived.Test.YtglmniciojemfaaRows
import Derived.Test.YtglmniciojemfaaM11
import Derived.Test.YtglmniciojemfaaM6
import Derived.WalkKit
import Derived.ProofKit
import Derived.OpenShut
import Derived.ShutString
import Derived.LoopTactic
import Derived.Lib.QuietBelow
namespace Go.Proofs.Ytglmniciojemfaa.helpOnly
set_option maxRecDepth 100000
open Go.ChangeShapes Go.WideShapes Go.ChangeAt Go.RowKit Go.Sort
set_option linter.unusedVariables false

theorem own : ownKnob Try.prog.godebug = none := by kernel_rfl
theorem laidOut : laidOutB Try.prog = true := by kernel_rfl

set_option maxHeartbeats 2000000 in
theorem walk_wrong (w : World) (c : Um.Cf) (a : Option Addr) (n cap : Nat) (x : Nat) (hx : Um.Word x) (h : c.r = false) :
    Calls Try.prog 5 #[(.agg #[.int .i64 (c.t), .int .i64 (c.s), .int .i64 (c.k), .int .i64 (c.g), .int .u64 (c.q : Int)]), .slice a n cap, .int .u64 (x : Nat)] w fun e w' => e = .returned (.bool true) ∧ Below w.heap.size w w' := by
  have HL := hide (fun w => lOf_wrong c a n cap w h)
  clear h
  have HXW := hide hx
  clear hx
  have hS := Sx.new w
  go_enter Try.func5, Try.ntmps5
  go_wp2_with (first | (refine wpx_box hS rfl _ _ rfl _ rfl _ (by intro _; simp only [Act.put, List.setIfInBounds_toArray, List.set_cons_zero, List.set_cons_succ]; first | done | exact rfl) ?_; clear hS; intro _ _ hS; dsimp only [blit, List.set, List.cons_append, List.nil_append, Value.cells, List.toList_toArray] at hS) | (refine wpx_alloc hS rfl _ rfl _ (zer_any2 rfl) _ (by intro _; simp only [Act.put, List.setIfInBounds_toArray, List.set_cons_zero, List.set_cons_succ]; first | done | exact rfl) ?_; clear hS; intro _ _ hS; dsimp only [blit, List.set, List.cons_append, List.nil_append, Value.cells, List.toList_toArray] at hS) | (refine wpx_ld hS rfl _ _ rfl _ _ rfl ?_; (first | refine ⟨0, _, rfl, ?_⟩ | refine ⟨1, _, rfl, ?_⟩ | refine ⟨2, _, rfl, ?_⟩ | refine ⟨3, _, rfl, ?_⟩ | refine ⟨4, _, rfl, ?_⟩ | refine ⟨5, _, rfl, ?_⟩ | refine ⟨6, _, rfl, ?_⟩ | refine ⟨7, _, rfl, ?_⟩ | refine ⟨8, _, rfl, ?_⟩ | refine ⟨9, _, rfl, ?_⟩); first | refine .inl ⟨_, one_any2 rfl, rfl, _, (by simp only [Act.put, List.setIfInBounds_toArray, List.set_cons_zero, List.set_cons_succ]; first | done | exact rfl), ?_⟩ | refine .inr ⟨_, _, row_any2 rfl, rfl, (by dsimp only [cutL, List.drop, List.take]; first | done | exact rfl), _, (by simp only [Act.put, List.setIfInBounds_toArray, List.set_cons_zero, List.set_cons_succ]; first | done | exact rfl), ?_⟩) | (refine wpx_st hS rfl _ _ _ rfl rfl _ _ rfl ?_; (first | refine ⟨0, _, rfl, ?_⟩ | refine ⟨1, _, rfl, ?_⟩ | refine ⟨2, _, rfl, ?_⟩ | refine ⟨3, _, rfl, ?_⟩ | refine ⟨4, _, rfl, ?_⟩ | refine ⟨5, _, rfl, ?_⟩ | refine ⟨6, _, rfl, ?_⟩ | refine ⟨7, _, rfl, ?_⟩ | refine ⟨8, _, rfl, ?_⟩ | refine ⟨9, _, rfl, ?_⟩); refine ⟨_, (by first | exact shA rfl | exact shI rfl | exact shB rfl | exact shS rfl | exact shP rfl | exact shF rfl | exact shN rfl), _, siz_any2 rfl, (by exact rfl), (by exact rfl), (by exact rfl), ?_⟩; clear hS; intro _ hS; dsimp only [blit, List.set, List.cons_append, List.nil_append, Value.cells, List.toList_toArray] at hS))
  refine ((unhide HL) _).mono ?_
  rintro r u ⟨rfl, hb⟩
  replace hS := hS.call hb
  clear hb HL
  go_wp2_with (first | (refine wpx_box hS rfl _ _ rfl _ rfl _ (by intro _; simp only [Act.put, List.setIfInBounds_toArray, List.set_cons_zero, List.set_cons_succ]; first | done | exact rfl) ?_; clear hS; intro _ _ hS; dsimp only [blit, List.set, List.cons_append, List.nil_append, Value.cells, List.toList_toArray] at hS) | (refine wpx_alloc hS rfl _ rfl _ (zer_any2 rfl) _ (by intro _; simp only [Act.put, List.setIfInBounds_toArray, List.set_cons_zero, List.set_cons_succ]; first | done | exact rfl) ?_; clear hS; intro _ _ hS; dsimp only [blit, List.set, List.cons_append, List.nil_append, Value.cells, List.toList_toArray] at hS) | (refine wpx_ld hS rfl _ _ rfl _ _ rfl ?_; (first | refine ⟨0, _, rfl, ?_⟩ | refine ⟨1, _, rfl, ?_⟩ | refine ⟨2, _, rfl, ?_⟩ | refine ⟨3, _, rfl, ?_⟩ | refine ⟨4, _, rfl, ?_⟩ | refine ⟨5, _, rfl, ?_⟩ | refine ⟨6, _, rfl, ?_⟩ | refine ⟨7, _, rfl, ?_⟩ | refine ⟨8, _, rfl, ?_⟩ | refine ⟨9, _, rfl, ?_⟩); first | refine .inl ⟨_, one_any2 rfl, rfl, _, (by simp only [Act.put, List.setIfInBounds_toArray, List.set_cons_zero, List.set_cons_succ]; first | done | exact rfl), ?_⟩ | refine .inr ⟨_, _, row_any2 rfl, rfl, (by dsimp only [cutL, List.drop, List.take]; first | done | exact rfl), _, (by simp only [Act.put, List.setIfInBounds_toArray, List.set_cons_zero, List.set_cons_succ]; first | done | exact rfl), ?_⟩) | (refine wpx_st hS rfl _ _ _ rfl rfl _ _ rfl ?_; (first | refine ⟨0, _, rfl, ?_⟩ | refine ⟨1, _, rfl, ?_⟩ | refine ⟨2, _, rfl, ?_⟩ | refine ⟨3, _, rfl, ?_⟩ | refine ⟨4, _, rfl, ?_⟩ | refine ⟨5, _, rfl, ?_⟩ | refine ⟨6, _, rfl, ?_⟩ | refine ⟨7, _, rfl, ?_⟩ | refine ⟨8, _, rfl, ?_⟩ | refine ⟨9, _, rfl, ?_⟩); refine ⟨_, (by first | exact shA rfl | exact shI rfl | exact shB rfl | exact shS rfl | exact shP rfl | exact shF rfl | exact shN rfl), _, siz_any2 rfl, (by exact rfl), (by exact rfl), (by exact rfl), ?_⟩; clear hS; intro _ hS; dsimp only [blit, List.set, List.cons_append, List.nil_append, Value.cells, List.toList_toArray] at hS))
  refine (hNew_any hS x (unhide HXW)).mono ?_
  rintro r u ⟨P, rfl, hSn⟩
  clear hS
  have hS := hSn
  clear hSn
  dsimp only [putL, List.set, List.cons_append, List.nil_append] at hS
  go_wp2_with fail
  refine (hAlive_any _).mono ?_
  rintro r u ⟨rfl, hb⟩
  replace hS := hS.call hb
  have hB := hS.bel
  clear hb hS
  go_wp2
  go_ret
  exact ⟨rfl, hB⟩

set_option maxHeartbeats 2000000 in
theorem walk_short (w : World) (c : Um.Cf) (a : Option Addr) (n cap : Nat) (x : Nat) (hx : Um.Word x) (h : c.r = true) (hn : n ≠ c.n) :
    Calls Try.prog 5 #[(.agg #[.int .i64 (c.t), .int .i64 (c.s), .int .i64 (c.k), .int .i64 (c.g), .int .u64 (c.q : Int)]), .slice a n cap, .int .u64 (x : Nat)] w fun e w' => e = .returned (.bool true) ∧ Below w.heap.size w w' := by
  have HL := hide (fun w => lOf_short c a n cap w h hn)
  clear h hn
  have HXW := hide hx
  clear hx
  have hS := Sx.new w
  go_enter Try.func5, Try.ntmps5
  go_wp2_with (first | (refine wpx_box hS rfl _ _ rfl _ rfl _ (by intro _; simp only [Act.put, List.setIfInBounds_toArray, List.set_cons_zero, List.set_cons_succ]; first | done | exact rfl) ?_; clear hS; intro _ _ hS; dsimp only [blit, List.set, List.cons_append, List.nil_append, Value.cells, List.toList_toArray] at hS) | (refine wpx_alloc hS rfl _ rfl _ (zer_any2 rfl) _ (by intro _; simp only [Act.put, List.setIfInBounds_toArray, List.set_cons_zero, List.set_cons_succ]; first | done | exact rfl) ?_; clear hS; intro _ _ hS; dsimp only [blit, List.set, List.cons_append, List.nil_append, Value.cells, List.toList_toArray] at hS) | (refine wpx_ld hS rfl _ _ rfl _ _ rfl ?_; (first | refine ⟨0, _, rfl, ?_⟩ | refine ⟨1, _, rfl, ?_⟩ | refine ⟨2, _, rfl, ?_⟩ | refine ⟨3, _, rfl, ?_⟩ | refine ⟨4, _, rfl, ?_⟩ | refine ⟨5, _, rfl, ?_⟩ | refine ⟨6, _, rfl, ?_⟩ | refine ⟨7, _, rfl, ?_⟩ | refine ⟨8, _, rfl, ?_⟩ | refine ⟨9, _, rfl, ?_⟩); first | refine .inl ⟨_, one_any2 rfl, rfl, _, (by simp only [Act.put, List.setIfInBounds_toArray, List.set_cons_zero, List.set_cons_succ]; first | done | exact rfl), ?_⟩ | refine .inr ⟨_, _, row_any2 rfl, rfl, (by dsimp only [cutL, List.drop, List.take]; first | done | exact rfl), _, (by simp only [Act.put, List.setIfInBounds_toArray, List.set_cons_zero, List.set_cons_succ]; first | done | exact rfl), ?_⟩) | (refine wpx_st hS rfl _ _ _ rfl rfl _ _ rfl ?_; (first | refine ⟨0, _, rfl, ?_⟩ | refine ⟨1, _, rfl, ?_⟩ | refine ⟨2, _, rfl, ?_⟩ | refine ⟨3, _, rfl, ?_⟩ | refine ⟨4, _, rfl, ?_⟩ | refine ⟨5, _, rfl, ?_⟩ | refine ⟨6, _, rfl, ?_⟩ | refine ⟨7, _, rfl, ?_⟩ | refine ⟨8, _, rfl, ?_⟩ | refine ⟨9, _, rfl, ?_⟩); refine ⟨_, (by first | exact shA rfl | exact shI rfl | exact shB rfl | exact shS rfl | exact shP rfl | exact shF rfl | exact shN rfl), _, siz_any2 rfl, (by exact rfl), (by exact rfl), (by exact rfl), ?_⟩; clear hS; intro _ hS; dsimp only [blit, List.set, List.cons_append, List.nil_append, Value.cells, List.toList_toArray] at hS))
  refine ((unhide HL) _).mono ?_
  rintro r u ⟨rfl, hb⟩
  replace hS := hS.call hb
  clear hb HL
  go_wp2_with (first | (refine wpx_box hS rfl _ _ rfl _ rfl _ (by intro _; simp only [Act.put, List.setIfInBounds_toArray, List.set_cons_zero, List.set_cons_succ]; first | done | exact rfl) ?_; clear hS; intro _ _ hS; dsimp only [blit, List.set, List.cons_append, List.nil_append, Value.cells, List.toList_toArray] at hS) | (refine wpx_alloc hS rfl _ rfl _ (zer_any2 rfl) _ (by intro _; simp only [Act.put, List.setIfInBounds_toArray, List.set_cons_zero, List.set_cons_succ]; first | done | exact rfl) ?_; clear hS; intro _ _ hS; dsimp only [blit, List.set, List.cons_append, List.nil_append, Value.cells, List.toList_toArray] at hS) | (refine wpx_ld hS rfl _ _ rfl _ _ rfl ?_; (first | refine ⟨0, _, rfl, ?_⟩ | refine ⟨1, _, rfl, ?_⟩ | refine ⟨2, _, rfl, ?_⟩ | refine ⟨3, _, rfl, ?_⟩ | refine ⟨4, _, rfl, ?_⟩ | refine ⟨5, _, rfl, ?_⟩ | refine ⟨6, _, rfl, ?_⟩ | refine ⟨7, _, rfl, ?_⟩ | refine ⟨8, _, rfl, ?_⟩ | refine ⟨9, _, rfl, ?_⟩); first | refine .inl ⟨_, one_any2 rfl, rfl, _, (by simp only [Act.put, List.setIfInBounds_toArray, List.set_cons_zero, List.set_cons_succ]; first | done | exact rfl), ?_⟩ | refine .inr ⟨_, _, row_any2 rfl, rfl, (by dsimp only [cutL, List.drop, List.take]; first | done | exact rfl), _, (by simp only [Act.put, List.setIfInBounds_toArray, List.set_cons_zero, List.set_cons_succ]; first | done | exact rfl), ?_⟩) | (refine wpx_st hS rfl _ _ _ rfl rfl _ _ rfl ?_; (first | refine ⟨0, _, rfl, ?_⟩ | refine ⟨1, _, rfl, ?_⟩ | refine ⟨2, _, rfl, ?_⟩ | refine ⟨3, _, rfl, ?_⟩ | refine ⟨4, _, rfl, ?_⟩ | refine ⟨5, _, rfl, ?_⟩ | refine ⟨6, _, rfl, ?_⟩ | refine ⟨7, _, rfl, ?_⟩ | refine ⟨8, _, rfl, ?_⟩ | refine ⟨9, _, rfl, ?_⟩); refine ⟨_, (by first | exact shA rfl | exact shI rfl | exact shB rfl | exact shS rfl | exact shP rfl | exact shF rfl | exact shN rfl), _, siz_any2 rfl, (by exact rfl), (by exact rfl), (by exact rfl), ?_⟩; clear hS; intro _ hS; dsimp only [blit, List.set, List.cons_append, List.nil_append, Value.cells, List.toList_toArray] at hS))
  refine (hNew_any hS x (unhide HXW)).mono ?_
  rintro r u ⟨P, rfl, hSn⟩
  clear hS
  have hS := hSn
  clear hSn
  dsimp only [putL, List.set, List.cons_append, List.nil_append] at hS
  go_wp2_with fail
  refine (hAlive_any _).mono ?_
  rintro r u ⟨rfl, hb⟩
  replace hS := hS.call hb
  have hB := hS.bel
  clear hb hS
  go_wp2
  go_ret
  exact ⟨rfl, hB⟩

set_option maxHeartbeats 8000000 in
theorem walk_right (w : World) (c : Um.Cf) (v : Value) (ws : Nat → Nat) (x : Nat) (hx : Um.Word x) (h : c.r = true) (hv : IsWords w v c.n ws) :
    Calls Try.prog 5 #[(.agg #[.int .i64 (c.t), .int .i64 (c.s), .int .i64 (c.k), .int .i64 (c.g), .int .u64 (c.q : Int)]), v, .int .u64 (x : Nat)] w fun e w' => e = .returned (.bool true) ∧ Below w.heap.size w w' := by
  obtain ⟨m0, hm0⟩ : ∃ m0 : Um.Mm, m0 = ⟨ws, 0, Um.noT⟩ := ⟨_, rfl⟩
  have hws0 : m0.ws = ws := by rw [hm0]
  obtain ⟨H, hH⟩ : ∃ H, H = Um.hit c x ⟨m0, Um.hfst x, 0⟩ 20 := ⟨_, rfl⟩
  have hE := Um.hit_ends h (h := ⟨m0, Um.hfst x, 0⟩) (Um.mix_refl c x m0.ws) (Um.knows_new h x m0 0) (k := 20) (by decide)
  rw [← hH, hws0] at hE
  have HNX := hide hE.1
  have HMA := hide (fun j => And.intro (hE.2 j) (fun (hne : H.m.ws j ≠ ws j) => Um.only8 h (x := x) (ws := ws) (j := j) (by rw [← hE.2 j]; exact hne)))
  have HH := hide hH
  have HF4 := hide (show Um.penN x < 0 → Um.hfst x = 4 by intro h; unfold Um.hfst; rw [if_pos h])
  have hpl := Um.pen_bd x
  clear hE hH
  have hn := c.n_le
  have hn8 := Um.Cf.n_pos h
  have hX : ∃ g0 off cap, v = .slice (some ⟨g0, off, none⟩) c.n cap ∧ c.n ≤ cap ∧ g0 < w.heap.size ∧ ∀ j, j < c.n → w.cell? ⟨g0, off + j, none⟩ = some (.int .u64 (ws j)) := by
    rcases hv with ⟨_, _, _, e⟩ | ⟨g0, off, cap, e, _, e1, _, e2, e3⟩
    · omega
    · exact ⟨g0, off, cap, e, e1, e2, fun j hj => (e3 j hj).1⟩
  have HV := hide hv
  have HR := hide h
  obtain ⟨g0, off, scap, rfl, hcap, hg0, hxs⟩ := hX
  have HX := hide hxs
  clear hv h hxs
  have HXW := hide hx
  clear hx
  have hf := field_rtalP
  have hS := Sx.new w
  go_enter Try.func5, Try.ntmps5
  go_wp2_with (first | (refine wpx_box hS rfl _ _ rfl _ rfl _ (by intro _; simp only [Act.put, List.setIfInBounds_toArray, List.set_cons_zero, List.set_cons_succ]; first | done | exact rfl) ?_; clear hS; intro _ _ hS; dsimp only [blit, List.set, List.cons_append, List.nil_append, Value.cells, List.toList_toArray] at hS) | (refine wpx_alloc hS rfl _ rfl _ (zer_any2 rfl) _ (by intro _; simp only [Act.put, List.setIfInBounds_toArray, List.set_cons_zero, List.set_cons_succ]; first | done | exact rfl) ?_; clear hS; intro _ _ hS; dsimp only [blit, List.set, List.cons_append, List.nil_append, Value.cells, List.toList_toArray] at hS) | (refine wpx_ld hS rfl _ _ rfl _ _ rfl ?_; (first | refine ⟨0, _, rfl, ?_⟩ | refine ⟨1, _, rfl, ?_⟩ | refine ⟨2, _, rfl, ?_⟩ | refine ⟨3, _, rfl, ?_⟩ | refine ⟨4, _, rfl, ?_⟩ | refine ⟨5, _, rfl, ?_⟩ | refine ⟨6, _, rfl, ?_⟩ | refine ⟨7, _, rfl, ?_⟩ | refine ⟨8, _, rfl, ?_⟩ | refine ⟨9, _, rfl, ?_⟩); first | refine .inl ⟨_, one_any2 rfl, rfl, _, (by simp only [Act.put, List.setIfInBounds_toArray, List.set_cons_zero, List.set_cons_succ]; first | done | exact rfl), ?_⟩ | refine .inr ⟨_, _, row_any2 rfl, rfl, (by dsimp only [cutL, List.drop, List.take]; first | done | exact rfl), _, (by simp only [Act.put, List.setIfInBounds_toArray, List.set_cons_zero, List.set_cons_succ]; first | done | exact rfl), ?_⟩) | (refine wpx_st hS rfl _ _ _ rfl rfl _ _ rfl ?_; (first | refine ⟨0, _, rfl, ?_⟩ | refine ⟨1, _, rfl, ?_⟩ | refine ⟨2, _, rfl, ?_⟩ | refine ⟨3, _, rfl, ?_⟩ | refine ⟨4, _, rfl, ?_⟩ | refine ⟨5, _, rfl, ?_⟩ | refine ⟨6, _, rfl, ?_⟩ | refine ⟨7, _, rfl, ?_⟩ | refine ⟨8, _, rfl, ?_⟩ | refine ⟨9, _, rfl, ?_⟩); refine ⟨_, (by first | exact shA rfl | exact shI rfl | exact shB rfl | exact shS rfl | exact shP rfl | exact shF rfl | exact shN rfl), _, siz_any2 rfl, (by exact rfl), (by exact rfl), (by exact rfl), ?_⟩; clear hS; intro _ hS; dsimp only [blit, List.set, List.cons_append, List.nil_append, Value.cells, List.toList_toArray] at hS))
  refine (lOf_x hS c _ ws (unhide HR) (((unhide HV).low.below hS.bel).is hS.bel.size)).mono ?_
  rintro r u ⟨B, C, g, cg, rfl, hc1, hc2, hWn, hSn⟩
  clear hS
  have hS := hSn
  clear hSn
  dsimp only [putL, List.set, List.cons_append, List.nil_append] at hS
  have HW0 := hide hWn
  clear hWn
  have hC0 : (C, rowW ws c.n) = (C, rowW m0.ws c.n) := by rw [hws0]
  rw [hC0, ← hm0] at hS
  rw [← hm0] at HW0
  clear hC0 hm0 hws0
  go_wp2_with (first | (refine wpx_box hS rfl _ _ rfl _ rfl _ (by intro _; simp only [Act.put, List.setIfInBounds_toArray, List.set_cons_zero, List.set_cons_succ]; first | done | exact rfl) ?_; clear hS; intro _ _ hS; dsimp only [blit, List.set, List.cons_append, List.nil_append, Value.cells, List.toList_toArray] at hS) | (refine wpx_alloc hS rfl _ rfl _ (zer_any2 rfl) _ (by intro _; simp only [Act.put, List.setIfInBounds_toArray, List.set_cons_zero, List.set_cons_succ]; first | done | exact rfl) ?_; clear hS; intro _ _ hS; dsimp only [blit, List.set, List.cons_append, List.nil_append, Value.cells, List.toList_toArray] at hS) | (refine wpx_ld hS rfl _ _ rfl _ _ rfl ?_; (first | refine ⟨0, _, rfl, ?_⟩ | refine ⟨1, _, rfl, ?_⟩ | refine ⟨2, _, rfl, ?_⟩ | refine ⟨3, _, rfl, ?_⟩ | refine ⟨4, _, rfl, ?_⟩ | refine ⟨5, _, rfl, ?_⟩ | refine ⟨6, _, rfl, ?_⟩ | refine ⟨7, _, rfl, ?_⟩ | refine ⟨8, _, rfl, ?_⟩ | refine ⟨9, _, rfl, ?_⟩); first | refine .inl ⟨_, one_any2 rfl, rfl, _, (by simp only [Act.put, List.setIfInBounds_toArray, List.set_cons_zero, List.set_cons_succ]; first | done | exact rfl), ?_⟩ | refine .inr ⟨_, _, row_any2 rfl, rfl, (by dsimp only [cutL, List.drop, List.take]; first | done | exact rfl), _, (by simp only [Act.put, List.setIfInBounds_toArray, List.set_cons_zero, List.set_cons_succ]; first | done | exact rfl), ?_⟩) | (refine wpx_st hS rfl _ _ _ rfl rfl _ _ rfl ?_; (first | refine ⟨0, _, rfl, ?_⟩ | refine ⟨1, _, rfl, ?_⟩ | refine ⟨2, _, rfl, ?_⟩ | refine ⟨3, _, rfl, ?_⟩ | refine ⟨4, _, rfl, ?_⟩ | refine ⟨5, _, rfl, ?_⟩ | refine ⟨6, _, rfl, ?_⟩ | refine ⟨7, _, rfl, ?_⟩ | refine ⟨8, _, rfl, ?_⟩ | refine ⟨9, _, rfl, ?_⟩); refine ⟨_, (by first | exact shA rfl | exact shI rfl | exact shB rfl | exact shS rfl | exact shP rfl | exact shF rfl | exact shN rfl), _, siz_any2 rfl, (by exact rfl), (by exact rfl), (by exact rfl), ?_⟩; clear hS; intro _ hS; dsimp only [blit, List.set, List.cons_append, List.nil_append, Value.cells, List.toList_toArray] at hS))
  refine (hNew_any hS x (unhide HXW)).mono ?_
  rintro r u ⟨P, rfl, hSn⟩
  clear hS
  have hS := hSn
  clear hSn
  dsimp only [putL, List.set, List.cons_append, List.nil_append] at hS
  go_wp2_with fail
  refine (ends_x hS 1 2 4 ⟨m0, Um.hfst x, 0⟩ rfl rfl rfl (by decide) (by decide) (by decide) (unhide HR) ⟨unhide HW0, (show Um.Word 0 by unfold Um.Word; decide), (show Um.hfst x ≤ 4 by unfold Um.hfst; split <;> decide)⟩ (unhide HXW) 20 (by decide) H (unhide HH)).mono ?_
  rintro r u ⟨n, rfl, hn1, hn2, hn3, hOn, hSn⟩
  clear hS
  have hS := hSn
  clear hSn
  dsimp only [putL, List.set, List.cons_append, List.nil_append] at hS
  have HO := hide hOn
  have HN := hide (And.intro hn1 (And.intro hn2 hn3))
  clear hn1 hn2 hn3 hOn HW0 HH
  go_wp2_with fail
  refine (trUnpack_x hS x (unhide HXW)).mono ?_
  rintro r u ⟨rfl, hSn⟩
  clear hS
  have hS := hSn
  clear hSn
  go_wp2_with fail
  refine (cells_x hS 1 2 rfl rfl (by decide) (unhide HR) (unhide HO).1).mono ?_
  rintro r u ⟨X, rfl, hSn⟩
  clear hS
  have hS := hSn
  clear hSn
  dsimp only [putL, List.set, List.cons_append, List.nil_append] at hS
  go_wp2_with fail
  obtain ⟨CF, rfl⟩ := nameB hS 0 rfl
  obtain ⟨R, rfl⟩ := nameB hS 3 rfl
  obtain ⟨u, rfl⟩ := nameW hS
  obtain ⟨pn, hpn⟩ : ∃ pn, pn = Um.penN x := ⟨_, rfl⟩
  rw [← hpn] at hpl
  rw [← hpn]
  have HPN := hide hpn
  clear hpn
  go_loopw [45] (fun i wr => ∃ j : Nat, j ≤ c.n ∧ i = .int .i64 j ∧ Below u.heap.size u wr) (fun i _ => c.n - (intOf i).toNat)
  case atStart => exact ⟨0, by omega, rfl, Below.refl _ _⟩
  case round =>
    rename_i wr
    obtain ⟨j, hj, rfl, hBr⟩ := hrel
    replace hS := hS.call hBr
    by_cases hlt : j < c.n
    · have hlti : (j : Int) < (c.n : Int) := by omega
      have c0 := (hS.get 5 rfl).cell j _ (rowW_get H.m.ws c.n j hlt)
      have hma := ((unhide HMA) j).2
      rw [← unhide HPN] at hma
      have hA2 : ∀ W, Calls Try.prog 30 #[(.agg #[.int .i64 (c.t), .int .i64 (c.s), .int .i64 (c.k), .int .i64 (c.g), .int .u64 (c.q : Int)]), .int .i64 (j : Int)] W fun e w' => e = .returned (.agg #[.int .i64 (Um.atK c.r c.t c.s c.k j), .int .i64 (Um.atO c.r c.t c.s c.k j)]) ∧ Below W.heap.size W w' := fun W => cAt_any c.t c.s c.k c.g c.q (j : Int) W (by omega)
      generalize Um.atK c.r c.t c.s c.k (j : Int) = ak at *
      generalize Um.atO c.r c.t c.s c.k (j : Int) = ao at *
      have HA2 := hide hA2
      have HMJ := hide hma
      clear hA2 hma
      have HSW := hide hS
      clear hS
      have hS := Sx.read1 ((unhide HSW).get 0 rfl)
      have cf0 := (hS.getE 0 rfl).cell 0 _ rfl
      have cf1 := (hS.getE 0 rfl).cell 1 _ rfl
      have cf2 := (hS.getE 0 rfl).cell 2 _ rfl
      have cf3 := (hS.getE 0 rfl).cell 3 _ rfl
      have cf4 := (hS.getE 0 rfl).cell 4 _ rfl
      go_wp2_with fail
      clear c0 cf0 cf1 cf2 cf3 cf4
      refine ((unhide HA2) _).mono ?_
      rintro r u2 ⟨rfl, hb⟩
      replace hS := hS.call hb
      clear hb
      go_wp2_with (first | (refine wpx_box hS rfl _ _ rfl _ rfl _ (by intro _; simp only [Act.put, List.setIfInBounds_toArray, List.set_cons_zero, List.set_cons_succ]; first | done | exact rfl) ?_; clear hS; intro _ _ hS; dsimp only [blit, List.set, List.cons_append, List.nil_append, Value.cells, List.toList_toArray] at hS) | (refine wpx_alloc hS rfl _ rfl _ (zer_any2 rfl) _ (by intro _; simp only [Act.put, List.setIfInBounds_toArray, List.set_cons_zero, List.set_cons_succ]; first | done | exact rfl) ?_; clear hS; intro _ _ hS; dsimp only [blit, List.set, List.cons_append, List.nil_append, Value.cells, List.toList_toArray] at hS) | (refine wpx_ld hS rfl _ _ rfl _ _ rfl ?_; (first | refine ⟨0, _, rfl, ?_⟩ | refine ⟨1, _, rfl, ?_⟩ | refine ⟨2, _, rfl, ?_⟩ | refine ⟨3, _, rfl, ?_⟩ | refine ⟨4, _, rfl, ?_⟩ | refine ⟨5, _, rfl, ?_⟩ | refine ⟨6, _, rfl, ?_⟩ | refine ⟨7, _, rfl, ?_⟩ | refine ⟨8, _, rfl, ?_⟩ | refine ⟨9, _, rfl, ?_⟩); first | refine .inl ⟨_, one_any2 rfl, rfl, _, (by simp only [Act.put, List.setIfInBounds_toArray, List.set_cons_zero, List.set_cons_succ]; first | done | exact rfl), ?_⟩ | refine .inr ⟨_, _, row_any2 rfl, rfl, (by dsimp only [cutL, List.drop, List.take]; first | done | exact rfl), _, (by simp only [Act.put, List.setIfInBounds_toArray, List.set_cons_zero, List.set_cons_succ]; first | done | exact rfl), ?_⟩) | (refine wpx_st hS rfl _ _ _ rfl rfl _ _ rfl ?_; (first | refine ⟨0, _, rfl, ?_⟩ | refine ⟨1, _, rfl, ?_⟩ | refine ⟨2, _, rfl, ?_⟩ | refine ⟨3, _, rfl, ?_⟩ | refine ⟨4, _, rfl, ?_⟩ | refine ⟨5, _, rfl, ?_⟩ | refine ⟨6, _, rfl, ?_⟩ | refine ⟨7, _, rfl, ?_⟩ | refine ⟨8, _, rfl, ?_⟩ | refine ⟨9, _, rfl, ?_⟩); refine ⟨_, (by first | exact shA rfl | exact shI rfl | exact shB rfl | exact shS rfl | exact shP rfl | exact shF rfl | exact shN rfl), _, siz_any2 rfl, (by exact rfl), (by exact rfl), (by exact rfl), ?_⟩; clear hS; intro _ hS; dsimp only [blit, List.set, List.cons_append, List.nil_append, Value.cells, List.toList_toArray] at hS))
      obtain ⟨SP, rfl⟩ := nameB hS 0 rfl
      obtain ⟨u3, rfl⟩ := nameW hS
      have HB := fun u9 (hQ : Below u3.heap.size u3 u9) => (hS.call hQ).bel
      have q0 := cell_regrown ((hS.bel.cell (p := ⟨g0, off + j, none⟩) (Nat.lt_of_lt_of_le hg0 (unhide HSW).size)).trans (((unhide HSW).bel.cell (p := ⟨g0, off + j, none⟩) hg0).trans ((unhide HX) j hlt)))
      have s0 := cell_regrown ((hS.get 0 rfl).cell 0 _ rfl)
      have s1 := cell_regrown ((hS.get 0 rfl).cell 1 _ rfl)
      clear hS
      have HBH := hide HB
      clear HB
      have hT2 := fun W => tallied_any W
      have hO2 := fun (a : Int) W => of_any a pn W
      have HT2 := hide hT2
      have HO2 := hide hO2
      clear hT2 hO2
      by_cases hv : H.m.ws j = ws j
      · rw [hv]
        have hv2 : ((ws j : Int) != (ws j : Int)) = false := by simp
        clear HMJ
        refine wp_region_quiet_below (by kernel_rfl) (by kernel_rfl) ?_
        repeat (go_big_quiet_step (first | (go_at_call 20; exact Calls.regrown_of ((unhide HT2) _)) | (go_at_call 22; exact Calls.regrown_of ((unhide HO2) _ _))))
        refine wpQuiet_nil ?_
        intro _ hw'
        obtain ⟨⟨dq, osq⟩, hw''⟩ := hw'
        subst hw''
        have hQ := below_regrown u3 dq osq
        clear q0 s0 s1
        generalize grow (redrawn u3 dq) osq = u9 at *
        go_wp2
        refine ⟨⟨j + 1, by omega, by go_num, ?_⟩, by simp [intOf]; omega⟩
        exact hBr.trans (((unhide HBH) u9 hQ).mono hBr.size)
      · have hm := (unhide HMJ) hv
        have hv1 : ¬ (H.m.ws j : Int) = (ws j : Int) := by omega
        have hv2 : ((H.m.ws j : Int) != (ws j : Int)) = true := by simpa using hv1
        clear HMJ hv
        by_cases hq : ak = 1 ∧ ao = 0
        · have ht : ∀ w, (binOp .neq 51 (.agg #[.int .i64 ak, .int .i64 ao]) (.agg #[.int .i64 1, .int .i64 0])).run Try.prog w = .ok (.bool false) w := neqSpot _ (Or.inl rfl) (r := true) (by simp [hq])
          clear hm hq
          refine wp_region_quiet_below (by kernel_rfl) (by kernel_rfl) ?_
          repeat (go_big_quiet_step (first | (go_at_call 20; exact Calls.regrown_of ((unhide HT2) _)) | (go_at_call 22; exact Calls.regrown_of ((unhide HO2) _ _))))
          refine wpQuiet_nil ?_
          intro _ hw'
          obtain ⟨⟨dq, osq⟩, hw''⟩ := hw'
          subst hw''
          have hQ := below_regrown u3 dq osq
          clear q0 s0 s1
          generalize grow (redrawn u3 dq) osq = u9 at *
          go_wp2
          refine ⟨⟨j + 1, by omega, by go_num, ?_⟩, by simp [intOf]; omega⟩
          exact hBr.trans (((unhide HBH) u9 hQ).mono hBr.size)
        · have ht : ∀ w, (binOp .neq 51 (.agg #[.int .i64 ak, .int .i64 ao]) (.agg #[.int .i64 1, .int .i64 0])).run Try.prog w = .ok (.bool true) w := neqSpot _ (Or.inl rfl) (r := false) (by simp [hq])
          obtain ⟨hp0, hk, hao⟩ := hm.resolve_left hq
          subst hao
          have hp1 : ¬ ao < 0 := by omega
          have hp2 : decide (ao < 0) = false := decide_eq_false hp1
          clear hm hq
          rcases hk with rfl | rfl
          · have h4 : ∀ w, (binOp .neq 51 (.agg #[.int .i64 4, .int .i64 ao]) (.agg #[.int .i64 4, .int .i64 ao])).run Try.prog w = .ok (.bool false) w := neqSpot _ (Or.inl rfl) (r := true) (by simp)
            refine wp_region_quiet_below (by kernel_rfl) (by kernel_rfl) ?_
            repeat (go_big_quiet_step (first | (go_at_call 20; exact Calls.regrown_of ((unhide HT2) _)) | (go_at_call 22; exact Calls.regrown_of ((unhide HO2) _ _))))
            refine wpQuiet_nil ?_
            intro _ hw'
            obtain ⟨⟨dq, osq⟩, hw''⟩ := hw'
            subst hw''
            have hQ := below_regrown u3 dq osq
            clear q0 s0 s1
            generalize grow (redrawn u3 dq) osq = u9 at *
            go_wp2
            refine ⟨⟨j + 1, by omega, by go_num, ?_⟩, by simp [intOf]; omega⟩
            exact hBr.trans (((unhide HBH) u9 hQ).mono hBr.size)
          · have h4 : ∀ w, (binOp .neq 51 (.agg #[.int .i64 6, .int .i64 ao]) (.agg #[.int .i64 4, .int .i64 ao])).run Try.prog w = .ok (.bool true) w := neqSpot _ (Or.inl rfl) (r := false) (by simp)
            have h6 : ∀ w, (binOp .neq 51 (.agg #[.int .i64 6, .int .i64 ao]) (.agg #[.int .i64 6, .int .i64 ao])).run Try.prog w = .ok (.bool false) w := neqSpot _ (Or.inl rfl) (r := true) (by simp)
            refine wp_region_quiet_below (by kernel_rfl) (by kernel_rfl) ?_
            repeat (go_big_quiet_step (first | (go_at_call 20; exact Calls.regrown_of ((unhide HT2) _)) | (go_at_call 22; exact Calls.regrown_of ((unhide HO2) _ _))))
            refine wpQuiet_nil ?_
            intro _ hw'
            obtain ⟨⟨dq, osq⟩, hw''⟩ := hw'
            subst hw''
            have hQ := below_regrown u3 dq osq
            clear q0 s0 s1
            generalize grow (redrawn u3 dq) osq = u9 at *
            go_wp2
            refine ⟨⟨j + 1, by omega, by go_num, ?_⟩, by simp [intOf]; omega⟩
            exact hBr.trans (((unhide HBH) u9 hQ).mono hBr.size)
    · have hge : ¬ (j : Int) < (c.n : Int) := by omega
      have hnx := unhide HNX
      obtain ⟨hn1, hn2, hn3⟩ := unhide HN
      have hpz : pn < 0 → n = 0 := by
        intro hp
        rcases Nat.eq_zero_or_pos n with e | e
        · exact e
        · exact absurd ((unhide HF4) (by rw [← unhide HPN]; exact hp)) (hn3 0 e)
      clear hn2 hn3
      by_cases hp : 0 ≤ pn
      · have hpd : decide (0 ≤ pn) = true := decide_eq_true hp
        clear hpz
        go_wp2_with fail
        refine (hAlive_any _).mono ?_
        rintro r u ⟨rfl, hb⟩
        replace hS := hS.call hb
        clear hb
        go_wp2_with fail
        refine (hDone_any hS 4 H.nx (unhide HO).2.2 rfl).mono ?_
        rintro r u ⟨rfl, rfl⟩
        rw [decide_eq_true hnx]
        have hB := hS.bel
        clear hS
        go_wp2
        go_ret
        exact ⟨rfl, hB⟩
      · have hpd : decide (0 ≤ pn) = false := decide_eq_false hp
        obtain rfl : n = 0 := hpz (by omega)
        clear hpz
        go_wp2_with fail
        refine (hAlive_any _).mono ?_
        rintro r u ⟨rfl, hb⟩
        replace hS := hS.call hb
        clear hb
        go_wp2_with fail
        refine (hDone_any hS 4 H.nx (unhide HO).2.2 rfl).mono ?_
        rintro r u ⟨rfl, rfl⟩
        rw [decide_eq_true hnx]
        have hB := hS.bel
        clear hS
        go_wp2
        go_ret
        exact ⟨rfl, hB⟩

theorem walk {H : Type} {enc : TypeId × Value → H} {base : Nat} {v0 v1 : Value} {d0 d1 : DataW H} {p0 p1 : List MemPlace} (w : World)
    (hv0 : Value.okWide Try.prog w .any base 24 v0) (h0 : DataW.Trod enc Try.prog w 0 (fun _ => true) true 24 v0 d0 p0)
    (hv1 : Value.okWide Try.prog w .any base 25 v1) (h1 : DataW.Trod enc Try.prog w 0 (fun _ => true) true 25 v1 d1 p1)
    (a2 : Int) (w2 : (Lit.int .u64 a2).wf = true) :
    Calls Try.prog 5 #[v0, v1, .int .u64 a2] w fun e w' => e = .returned (.bool true) ∧ Below w.heap.size w w' := by
  obtain ⟨ct, s, k, g, q, rfl, hsb⟩ := open_cfg hv0 h0
  obtain ⟨n, ws, hI⟩ := open_words hv1 h1
  obtain ⟨x, rfl, hx⟩ := word_of w2
  cases hr : (⟨ct, s, k, g, q⟩ : Um.Cf).r with
  | false =>
    obtain ⟨sa, cap, rfl⟩ := words_len hI
    exact walk_wrong w ⟨ct, s, k, g, q⟩ sa n cap x hx hr
  | true =>
    by_cases hn : n = (⟨ct, s, k, g, q⟩ : Um.Cf).n
    · subst hn
      exact walk_right w ⟨ct, s, k, g, q⟩ v1 ws x hx hr hI
    · obtain ⟨sa, cap, rfl⟩ := words_len hI
      exact walk_short w ⟨ct, s, k, g, q⟩ sa n cap x hx hr hn

set_option maxRecDepth 100000 in
theorem lifted (os : Os) (started : os.Started) (H : Type) (enc : TypeId × Value → H) :
    ReturnsInHanded {} Try.checked os 5 .any (Rows.helpOnlySpec.pre6 enc Try.prog Try.f5 Rows.helpOnlyRow.domain false) (Rows.helpOnlySpec.post enc Try.prog Try.f5 false true false false) := by
  refine returnsInHanded_of_change (C := Try.checked) own started (by kernel_rfl) Try.func5
    (ChangeSpec.witness6 (enc := enc) (C := Try.checked) false ⟨#[], #[.agg #[.int .i64 0, .int .i64 0, .int .i64 0, .int .i64 0, .int .u64 0], .slice none 0 0, .int .u64 0], []⟩ 8 (by kernel_rfl) (by kernel_rfl) (by kernel_rfl) (by kernel_rfl)) ?_
  intro W base args ds gs before hval0 hW hcnd _
  have hval : ∀ (j : Nat) t v, Try.f5.params[j]? = some t → args[j]? = some v → Value.okWide Try.prog W .any base t v := hval0
  have hW' := hW
  obtain ⟨p, q, hA0, hV, rfl, hfz, hnd⟩ := hW
  have hA : DataW.TrodAll enc Try.prog W 0 (fun _ => true) true Try.f5.params.toList args.toList ds p := hA0
  rw [Try.params5] at hA hval
  obtain ⟨v0, vs0, d0, ds0, p0, q0, hargs, rfl, rfl, h0, r0⟩ := trodAll_cons hA
  obtain ⟨v1, vs1, d1, ds1, p1, q1, rfl, rfl, rfl, h1, r1⟩ := trodAll_cons r0
  obtain ⟨v2, vs2, d2, ds2, p2, q2, rfl, rfl, rfl, h2, r2⟩ := trodAll_cons r1
  obtain ⟨rfl, rfl, rfl⟩ := trodAll_nil r2
  obtain rfl : args = #[v0, v1, v2] := by cases args; simp_all
  obtain ⟨rfl, rfl⟩ := trodVars_none hV
  have k0 := h0
  have lt0 : ∀ x ∈ p0, x.block < W.heap.size := by obtain ⟨m, hm⟩ := k0; exact DataW.trod_lt m _ _ _ hm
  have k1 := h1
  have lt1 : ∀ x ∈ p1, x.block < W.heap.size := by obtain ⟨m, hm⟩ := k1; exact DataW.trod_lt m _ _ _ hm
  have k2 := h2
  have lt2 : ∀ x ∈ p2, x.block < W.heap.size := by obtain ⟨m, hm⟩ := k2; exact DataW.trod_lt m _ _ _ hm
  obtain ⟨a2, rfl, hd2, hp2, w2⟩ := open_int Try.underlying22 (hval 2 22 v2 rfl rfl) h2
  refine (walk W (hval 0 24 v0 rfl rfl) h0 (hval 1 25 v1 rfl rfl) h1 a2 w2).mono fun e W' ⟨he, bel⟩ => ?_
  subst he
  exact ⟨_, rfl, _, _, _, [], _, [], hW', trodAll_mk1 (shut_bool Try.underlying4 _), (trodAll_cons_mk (Below.trod laidOut (by kernel_rfl) (of_decide_eq_true (by kernel_rfl)) k0 bel lt0) (trodAll_cons_mk (Below.trod laidOut (by kernel_rfl) (of_decide_eq_true (by kernel_rfl)) k1 bel lt1) (trodAll_cons_mk (Below.trod laidOut (by kernel_rfl) (of_decide_eq_true (by kernel_rfl)) k2 bel lt2) trodAll_mk0))), rfl, bel.frame _, fun h => by cases h⟩

theorem HelpOnly_proved : Rows.HelpOnlySaid :=
  OpenClaim.holds_of_wide 5 Try.f5 rfl rfl rfl rfl rfl rfl rfl ⟨rfl, rfl, rfl, rfl, rfl⟩ rfl rfl rfl rfl rfl (by kernel_rfl) Try.func5 (by kernel_rfl)
    (of_decide_eq_true (by kernel_rfl)) (by unfold Func.isWrapper; first | (rw [if_pos (by decide +kernel)]; kernel_rfl) | (rw [if_neg (by decide +kernel)]; exact ⟨rfl, rfl⟩))
    (fun os started H enc _ => lifted os started H enc)

end Go.Proofs.Ytglmniciojemfaa.helpOnly
