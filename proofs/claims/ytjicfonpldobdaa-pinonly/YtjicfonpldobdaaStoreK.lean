/-
  The walk of layer 6's 'are the two memories alike': where they are.
-/
import Derived.Test.YtjicfonpldobdaaBlkT
import Derived.Test.YtjicfonpldobdaaStoreQ
import Derived.Test.YtjicfonpldobdaaStoreB
import Derived.Deep.RegionHeld3
namespace Go.Proofs.Ytjicfonpldobdaa
set_option maxRecDepth 100000
open Go.RowKit Go.Sort

theorem below_then {u w w' : World} (h : Below u.heap.size u w) (k : Below w.heap.size w w') : Below u.heap.size u w' := h.trans (k.mono h.size)

set_option maxHeartbeats 1000000 in
theorem eqlTch (k a b : Int) (o n : Nat) (d : Bool) (w : World) : (binOp .eql 31 (.agg #[.int .i64 k, .int .i64 a, .int .i64 b, .int .u64 (o : Nat), .int .u64 (n : Nat), .bool d]) (.agg #[.int .i64 k, .int .i64 a, .int .i64 b, .int .u64 (o : Nat), .int .u64 (n : Nat), .bool d])).run Try.prog w = .ok (.bool true) w := by
  go_simp

set_option maxHeartbeats 2000000 in
theorem lAlike_true {W : World} {B C : Nat} {c : Um.Cf} {m : Um.Mm} (h : MemAt W B C c m) (v : Value) (hv : IsWords W v c.n m.ws) :
    Calls Try.prog 20 #[.pointer (some ⟨B, 0, none⟩), (.agg #[.int .i64 (c.t), .int .i64 (c.s), .int .i64 (c.k), .int .i64 (c.g), .int .u64 (c.q : Int), v, .int .i64 (m.cnt), .int .i64 (m.l.kind), .int .i64 (m.l.a), .int .i64 (m.l.b), .int .u64 (m.l.old : Nat), .int .u64 (m.l.new : Nat), .bool (m.l.done)])] W fun e W' => e = .returned (.bool true) ∧ Below W.heap.size W W' := by
  have hp := Um.Cf.n_pos h.rt
  have hn := c.n_le
  have hE := eqlTch m.l.kind m.l.a m.l.b m.l.old m.l.new m.l.done
  have HM := hide h
  have HV := hide hv
  have HC := fun W' (hb : Below W.heap.size W W') => mCells_any (h.below hb h.hB h.hC)
  have HN := fun W' (hb : Below W.heap.size W W') => mCount_any (h.below hb h.hB h.hC)
  have HL := fun W' (hb : Below W.heap.size W W') => mLast_any (h.below hb h.hB h.hC)
  have HS : ∀ (W1 W2 : World) (z : Nat), z < W2.heap.size → Below W.heap.size W W2 → W2.heap[z]? = some (.cells (rowW m.ws c.n).toArray 22 (0, 0)) → Calls Try.prog 52 #[.slice (some ⟨z, 0, none⟩) c.n c.n, v] W2 fun e W' => e = .returned (.bool true) ∧ Below W2.heap.size W2 W' := by
    intro W1 W2 z hz hb hg
    exact rSame_true ((LowWords.of_row (n := c.n) (by omega) (by omega) hg h.wd).is (Nat.succ_le_of_lt hz)) ((hv.low.below hb).is hb.size) (by omega) (fun _ _ => rfl)
  have HCh := hide HC
  have HNh := hide HN
  have HLh := hide HL
  have HSh := hide HS
  obtain ⟨av, cap, rfl⟩ := words_len hv
  clear h hv HC HN HL HS
  generalize m.l.kind = lk at *
  generalize m.l.a = la at *
  generalize m.l.b = lb at *
  generalize m.l.old = lo at *
  generalize m.l.new = ln at *
  generalize m.l.done = ld at *
  have hS := St.new W
  go_enter Try.func20, Try.ntmps20
  go_wp2_with (first | (refine wpl_box hS rfl _ _ rfl _ rfl _ (by intro _; simp only [Act.put, List.setIfInBounds_toArray, List.set_cons_zero, List.set_cons_succ]; first | done | exact rfl) ?_; clear hS; intro _ _ hS; dsimp only [blit, List.set, List.cons_append, List.nil_append, Value.cells, List.toList_toArray] at hS) | (refine wpl_alloc hS rfl _ rfl _ (zer_any rfl) _ (by intro _; simp only [Act.put, List.setIfInBounds_toArray, List.set_cons_zero, List.set_cons_succ]; first | done | exact rfl) ?_; clear hS; intro _ _ hS; dsimp only [blit, List.set, List.cons_append, List.nil_append, Value.cells, List.toList_toArray] at hS) | (refine wpl_ld hS rfl _ _ rfl _ _ rfl ?_; (first | refine ⟨0, _, rfl, ?_⟩ | refine ⟨1, _, rfl, ?_⟩ | refine ⟨2, _, rfl, ?_⟩ | refine ⟨3, _, rfl, ?_⟩ | refine ⟨4, _, rfl, ?_⟩ | refine ⟨5, _, rfl, ?_⟩ | refine ⟨6, _, rfl, ?_⟩ | refine ⟨7, _, rfl, ?_⟩ | refine ⟨8, _, rfl, ?_⟩ | refine ⟨9, _, rfl, ?_⟩); first | refine .inl ⟨_, one_any rfl, rfl, _, (by simp only [Act.put, List.setIfInBounds_toArray, List.set_cons_zero, List.set_cons_succ]; first | done | exact rfl), ?_⟩ | refine .inr ⟨_, _, row_any rfl, rfl, (by dsimp only [cutL, List.drop, List.take]; first | done | exact rfl), _, (by simp only [Act.put, List.setIfInBounds_toArray, List.set_cons_zero, List.set_cons_succ]; first | done | exact rfl), ?_⟩) | (refine wpl_st hS rfl _ _ _ rfl rfl _ _ rfl ?_; (first | refine ⟨0, _, rfl, ?_⟩ | refine ⟨1, _, rfl, ?_⟩ | refine ⟨2, _, rfl, ?_⟩ | refine ⟨3, _, rfl, ?_⟩ | refine ⟨4, _, rfl, ?_⟩ | refine ⟨5, _, rfl, ?_⟩ | refine ⟨6, _, rfl, ?_⟩ | refine ⟨7, _, rfl, ?_⟩ | refine ⟨8, _, rfl, ?_⟩ | refine ⟨9, _, rfl, ?_⟩); refine ⟨_, (by first | exact shA rfl | exact shI rfl | exact shB rfl | exact shS rfl | exact shP rfl | exact shF rfl | exact shN rfl), _, siz_any rfl, (by exact rfl), (by exact rfl), (by exact rfl), ?_⟩; clear hS; intro _ hS; dsimp only [blit, List.set, List.cons_append, List.nil_append, Value.cells, List.toList_toArray] at hS))
  refine ((unhide HLh) _ hS.bel).mono ?_
  rintro e u1 ⟨rfl, hb⟩
  replace hS := hS.call hb
  clear hb HLh
  go_wp2_with (first | (refine wpl_box hS rfl _ _ rfl _ rfl _ (by intro _; simp only [Act.put, List.setIfInBounds_toArray, List.set_cons_zero, List.set_cons_succ]; first | done | exact rfl) ?_; clear hS; intro _ _ hS; dsimp only [blit, List.set, List.cons_append, List.nil_append, Value.cells, List.toList_toArray] at hS) | (refine wpl_alloc hS rfl _ rfl _ (zer_any rfl) _ (by intro _; simp only [Act.put, List.setIfInBounds_toArray, List.set_cons_zero, List.set_cons_succ]; first | done | exact rfl) ?_; clear hS; intro _ _ hS; dsimp only [blit, List.set, List.cons_append, List.nil_append, Value.cells, List.toList_toArray] at hS) | (refine wpl_ld hS rfl _ _ rfl _ _ rfl ?_; (first | refine ⟨0, _, rfl, ?_⟩ | refine ⟨1, _, rfl, ?_⟩ | refine ⟨2, _, rfl, ?_⟩ | refine ⟨3, _, rfl, ?_⟩ | refine ⟨4, _, rfl, ?_⟩ | refine ⟨5, _, rfl, ?_⟩ | refine ⟨6, _, rfl, ?_⟩ | refine ⟨7, _, rfl, ?_⟩ | refine ⟨8, _, rfl, ?_⟩ | refine ⟨9, _, rfl, ?_⟩); first | refine .inl ⟨_, one_any rfl, rfl, _, (by simp only [Act.put, List.setIfInBounds_toArray, List.set_cons_zero, List.set_cons_succ]; first | done | exact rfl), ?_⟩ | refine .inr ⟨_, _, row_any rfl, rfl, (by dsimp only [cutL, List.drop, List.take]; first | done | exact rfl), _, (by simp only [Act.put, List.setIfInBounds_toArray, List.set_cons_zero, List.set_cons_succ]; first | done | exact rfl), ?_⟩) | (refine wpl_st hS rfl _ _ _ rfl rfl _ _ rfl ?_; (first | refine ⟨0, _, rfl, ?_⟩ | refine ⟨1, _, rfl, ?_⟩ | refine ⟨2, _, rfl, ?_⟩ | refine ⟨3, _, rfl, ?_⟩ | refine ⟨4, _, rfl, ?_⟩ | refine ⟨5, _, rfl, ?_⟩ | refine ⟨6, _, rfl, ?_⟩ | refine ⟨7, _, rfl, ?_⟩ | refine ⟨8, _, rfl, ?_⟩ | refine ⟨9, _, rfl, ?_⟩); refine ⟨_, (by first | exact shA rfl | exact shI rfl | exact shB rfl | exact shS rfl | exact shP rfl | exact shF rfl | exact shN rfl), _, siz_any rfl, (by exact rfl), (by exact rfl), (by exact rfl), ?_⟩; clear hS; intro _ hS; dsimp only [blit, List.set, List.cons_append, List.nil_append, Value.cells, List.toList_toArray] at hS))
  rename_i u _ _
  have k5 := fun w' (h : Below u.heap.size u w') => ((hS.get 0 rfl).below h).cell 5 _ rfl
  have k6 := fun w' (h : Below u.heap.size u w') => ((hS.get 0 rfl).below h).cell 6 _ rfl
  have k7 := fun w' (h : Below u.heap.size u w') => ((hS.get 0 rfl).below h).cell 7 _ rfl
  have k8 := fun w' (h : Below u.heap.size u w') => ((hS.get 0 rfl).below h).cell 8 _ rfl
  have k9 := fun w' (h : Below u.heap.size u w') => ((hS.get 0 rfl).below h).cell 9 _ rfl
  have k10 := fun w' (h : Below u.heap.size u w') => ((hS.get 0 rfl).below h).cell 10 _ rfl
  have k11 := fun w' (h : Below u.heap.size u w') => ((hS.get 0 rfl).below h).cell 11 _ rfl
  have k12 := fun w' (h : Below u.heap.size u w') => ((hS.get 0 rfl).below h).cell 12 _ rfl
  have t0 := fun w' (h : Below u.heap.size u w') => ((hS.get 2 rfl).below h).cell 0 _ rfl
  have t1 := fun w' (h : Below u.heap.size u w') => ((hS.get 2 rfl).below h).cell 1 _ rfl
  have t2 := fun w' (h : Below u.heap.size u w') => ((hS.get 2 rfl).below h).cell 2 _ rfl
  have t3 := fun w' (h : Below u.heap.size u w') => ((hS.get 2 rfl).below h).cell 3 _ rfl
  have t4 := fun w' (h : Below u.heap.size u w') => ((hS.get 2 rfl).below h).cell 4 _ rfl
  have t5 := fun w' (h : Below u.heap.size u w') => ((hS.get 2 rfl).below h).cell 5 _ rfl
  have HBu := hide hS.bel
  clear hS
  go_region_held3 (fun w' => Below u.heap.size u w') (first | exact (Below.refl _ _).drew | exact below_then (by assumption) (by assumption) | assumption) (first | (go_at_call 37; refine ((unhide HCh) _ (below_then (unhide HBu) (by assumption))).mono ?_; rintro e u2 ⟨rfl, hg2, hb2⟩) | (go_at_call 52; refine ((unhide HSh) u2 u2 _ (Array.getElem?_eq_some_iff.1 hg2).1 (below_then (unhide HBu) (by assumption)) hg2).mono ?_; rintro e u3 ⟨rfl, hb3⟩) | (go_at_call 43; refine ((unhide HNh) _ (below_then (unhide HBu) (by assumption))).mono ?_; rintro e u4 ⟨rfl, rfl⟩))
  have hB6 := below_then (unhide HBu) (by assumption)
  clear k5 k6 k7 k8 k9 k10 k11 k12 t0 t1 t2 t3 t4 t5
  go_wp2
  go_ret
  exact ⟨rfl, hB6⟩

end Go.Proofs.Ytjicfonpldobdaa
