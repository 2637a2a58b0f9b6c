/-
  Texts that the laws stand on, merged (StoreV4, StoreW, StoreY, StoreX1).
-/
import Derived.Test.YtapgghciieloaaaGreatQ3
import Derived.Test.YtapgghciieloaaaGreatQ5
import Derived.Test.YtapgghciieloaaaGreatQ6
import Derived.Test.YtapgghciieloaaaGreatQ7

namespace Go.Proofs.YtapgghciieloaaaGreat
section
set_option maxRecDepth 100000
open Go.RowKit Go.Sort
set_option maxHeartbeats 4000000 in
theorem rTouch_4b (c : Um.Cf) (g off cap0 : Nat) (cnt : Int) (l : Um.Tch) (a b : Int) (o x p z : Nat) (ws : Nat → Nat) (w : World) (hp : c.cl a b = p) (hpn : p < c.n) (hv : IsWords w (.slice (some ⟨g, off, none⟩) c.n cap0) c.n ws) (hz : ws p = z) (y : Nat) (hy : Um.addW z x = y) (hx : Um.Word y) (he : y ≠ z) :
    Calls Tryz.prog 90 #[.agg #[.int .i64 c.t, .int .i64 c.s, .int .i64 c.k, .int .i64 c.g, .int .u64 c.q, .slice (some ⟨g, off, none⟩) c.n cap0, .int .i64 cnt, .int .i64 l.kind, .int .i64 l.a, .int .i64 l.b, .int .u64 l.old, .int .u64 l.new, .bool l.done], .int .i64 4, (.agg #[.int .i64 a, .int .i64 b]), .int .u64 (o : Nat), .int .u64 (x : Nat)] w fun e W' =>
      ∃ v', e = .returned (.tuple #[(.agg #[.int .i64 (c.t), .int .i64 (c.s), .int .i64 (c.k), .int .i64 (c.g), .int .u64 (c.q : Int), v', .int .i64 (Um.nextI cnt), .int .i64 4, .int .i64 a, .int .i64 b, .int .u64 (z : Nat), .int .u64 (y : Nat), .bool true]), (.agg #[.int .i64 4, .int .i64 a, .int .i64 b, .int .u64 (z : Nat), .int .u64 (y : Nat), .bool true])]) ∧ IsWords W' v' c.n (Um.putW ws p y) ∧ (v' = .slice (some ⟨g, off, none⟩) c.n cap0 ∨ RFresh w W' v' c.n (Um.putW ws p y)) ∧ Below w.heap.size w W' := by
  have hn0 : 0 < c.n := by omega
  have hb8 : c.n * 8 ≤ 140737488355328 := by have := c.n_le; omega
  have hcell : ∀ j, j < c.n → w.cell? ⟨g, off + j, none⟩ = some (.int .u64 (ws j)) ∧ Um.Word (ws j) := fun j hj => ⟨words_cell hv j hj, words_word hv j hj⟩
  have HX := hide hcell
  have hword : w.cell? ⟨g, off + p, none⟩ = some (.int .u64 (z : Nat)) := hz ▸ words_cell hv p hpn
  have hg : g < w.heap.size := words_lt hv (by omega)
  have hpi : (p : Int) < (c.n : Int) := by omega
  have e1 : IntKind.u64.wrap ((z : Int) + (x : Int)) = (y : Int) := hy ▸ addW_wrap z x
  clear hy
  have hq1 : ¬ ((y : Int) = (z : Int)) := by omega
  have hq2 : ((y : Int) != (z : Int)) = true := by simp; omega
  clear he
  clear hv hz hcell
  have hcl := fun w => rCell_any c.t c.s c.k c.g c.q a b w
  rw [show Um.cellN (Um.rt c.t c.s c.k c.g c.q) c.t c.s c.k a b = p from hp] at hcl
  clear hp
  have hS := St.new w
  go_enter Tryz.func90, Tryz.ntmps90
  go_wp2_with (first | (refine wpl_box hS rfl _ _ rfl _ rfl _ (by intro _; simp only [Act.put, List.setIfInBounds_toArray, List.set_cons_zero, List.set_cons_succ]; first | done | exact rfl) ?_; clear hS; intro _ _ hS; dsimp only [blit, List.set, List.cons_append, List.nil_append, Value.cells, List.toList_toArray] at hS) | (refine wpl_alloc hS rfl _ rfl _ (zer_any rfl) _ (by intro _; simp only [Act.put, List.setIfInBounds_toArray, List.set_cons_zero, List.set_cons_succ]; first | done | exact rfl) ?_; clear hS; intro _ _ hS; dsimp only [blit, List.set, List.cons_append, List.nil_append, Value.cells, List.toList_toArray] at hS) | (refine wpl_ld hS rfl _ _ rfl _ _ rfl ?_; (first | refine ⟨0, _, rfl, ?_⟩ | refine ⟨1, _, rfl, ?_⟩ | refine ⟨2, _, rfl, ?_⟩ | refine ⟨3, _, rfl, ?_⟩ | refine ⟨4, _, rfl, ?_⟩ | refine ⟨5, _, rfl, ?_⟩ | refine ⟨6, _, rfl, ?_⟩ | refine ⟨7, _, rfl, ?_⟩ | refine ⟨8, _, rfl, ?_⟩ | refine ⟨9, _, rfl, ?_⟩); first | refine .inl ⟨_, one_any rfl, rfl, _, (by simp only [Act.put, List.setIfInBounds_toArray, List.set_cons_zero, List.set_cons_succ]; first | done | exact rfl), ?_⟩ | refine .inr ⟨_, _, row_any rfl, rfl, (by dsimp only [cutL, List.drop, List.take]; first | done | exact rfl), _, (by simp only [Act.put, List.setIfInBounds_toArray, List.set_cons_zero, List.set_cons_succ]; first | done | exact rfl), ?_⟩) | (refine wpl_st hS rfl _ _ _ rfl rfl _ _ rfl ?_; (first | refine ⟨0, _, rfl, ?_⟩ | refine ⟨1, _, rfl, ?_⟩ | refine ⟨2, _, rfl, ?_⟩ | refine ⟨3, _, rfl, ?_⟩ | refine ⟨4, _, rfl, ?_⟩ | refine ⟨5, _, rfl, ?_⟩ | refine ⟨6, _, rfl, ?_⟩ | refine ⟨7, _, rfl, ?_⟩ | refine ⟨8, _, rfl, ?_⟩ | refine ⟨9, _, rfl, ?_⟩); refine ⟨_, (by first | exact shA rfl | exact shI rfl | exact shB rfl | exact shS rfl | exact shP rfl | exact shF rfl | exact shN rfl), _, siz_any rfl, (by exact rfl), (by exact rfl), (by exact rfl), ?_⟩; clear hS; intro _ hS; dsimp only [blit, List.set, List.cons_append, List.nil_append, Value.cells, List.toList_toArray] at hS))
  rename_i M _ S _ R _ Q _ T _ _ O _ _ _ _ _ _
  refine (hcl _).mono ?_
  rintro e u1 ⟨rfl, hb⟩
  replace hS := hS.call hb
  clear hb hcl
  have hw1 := (hS.bel.cell (p := ⟨g, off + p, none⟩) hg).trans hword
  clear hword
  go_wp2_with (first | (refine wpl_empty hS rfl rfl ?_; clear hS; intro _ _ hS) | (refine wpl_clone hS rfl _ _ rfl _ rfl _ _ _ _ rfl ws (fun j hj => (hS.bel.cell (p := ⟨g, off + j, none⟩) hg).trans ((unhide HX) j hj).1) hn0 hb8 ?_; clear hS; intro g' cg w' hS hc1 hc2; dsimp only [List.cons_append, List.nil_append] at hS) | (refine wpl_storeW hS 6 rfl _ _ rfl rfl _ _ rfl _ _ rfl hpn _ rfl ?_; clear hS; intro _ hS; dsimp only [List.set] at hS) | (first | (refine wpl_box hS rfl _ _ rfl _ rfl _ (by intro _; simp only [Act.put, List.setIfInBounds_toArray, List.set_cons_zero, List.set_cons_succ]; first | done | exact rfl) ?_; clear hS; intro _ _ hS; dsimp only [blit, List.set, List.cons_append, List.nil_append, Value.cells, List.toList_toArray] at hS) | (refine wpl_alloc hS rfl _ rfl _ (zer_any rfl) _ (by intro _; simp only [Act.put, List.setIfInBounds_toArray, List.set_cons_zero, List.set_cons_succ]; first | done | exact rfl) ?_; clear hS; intro _ _ hS; dsimp only [blit, List.set, List.cons_append, List.nil_append, Value.cells, List.toList_toArray] at hS) | (refine wpl_ld hS rfl _ _ rfl _ _ rfl ?_; (first | refine ⟨0, _, rfl, ?_⟩ | refine ⟨1, _, rfl, ?_⟩ | refine ⟨2, _, rfl, ?_⟩ | refine ⟨3, _, rfl, ?_⟩ | refine ⟨4, _, rfl, ?_⟩ | refine ⟨5, _, rfl, ?_⟩ | refine ⟨6, _, rfl, ?_⟩ | refine ⟨7, _, rfl, ?_⟩ | refine ⟨8, _, rfl, ?_⟩ | refine ⟨9, _, rfl, ?_⟩); first | refine .inl ⟨_, one_any rfl, rfl, _, (by simp only [Act.put, List.setIfInBounds_toArray, List.set_cons_zero, List.set_cons_succ]; first | done | exact rfl), ?_⟩ | refine .inr ⟨_, _, row_any rfl, rfl, (by dsimp only [cutL, List.drop, List.take]; first | done | exact rfl), _, (by simp only [Act.put, List.setIfInBounds_toArray, List.set_cons_zero, List.set_cons_succ]; first | done | exact rfl), ?_⟩) | (refine wpl_st hS rfl _ _ _ rfl rfl _ _ rfl ?_; (first | refine ⟨0, _, rfl, ?_⟩ | refine ⟨1, _, rfl, ?_⟩ | refine ⟨2, _, rfl, ?_⟩ | refine ⟨3, _, rfl, ?_⟩ | refine ⟨4, _, rfl, ?_⟩ | refine ⟨5, _, rfl, ?_⟩ | refine ⟨6, _, rfl, ?_⟩ | refine ⟨7, _, rfl, ?_⟩ | refine ⟨8, _, rfl, ?_⟩ | refine ⟨9, _, rfl, ?_⟩); refine ⟨_, (by first | exact shA rfl | exact shI rfl | exact shB rfl | exact shS rfl | exact shP rfl | exact shF rfl | exact shN rfl), _, siz_any rfl, (by exact rfl), (by exact rfl), (by exact rfl), ?_⟩; clear hS; intro _ hS; dsimp only [blit, List.set, List.cons_append, List.nil_append, Value.cells, List.toList_toArray] at hS)))
  rename_i X _ _
  have OB := hide (hS.get 5 rfl)
  have TB := hide (hS.get 4 rfl)
  have RB := hide (hS.get 2 rfl)
  have QB := hide (hS.get 3 rfl)
  have GB := hide (hS.get 6 rfl)
  have nRQ := hS.ne 2 3 rfl rfl (by decide)
  have nQR := Ne.symm nRQ
  have nTR := hS.ne 4 2 rfl rfl (by decide)
  have nTQ := hS.ne 4 3 rfl rfl (by decide)
  have nOR := hS.ne 5 2 rfl rfl (by decide)
  have nOQ := hS.ne 5 3 rfl rfl (by decide)
  have nRT := Ne.symm nTR
  have nRO := Ne.symm nOR
  have nQT := Ne.symm nTQ
  have nQO := Ne.symm nOQ
  have nGR := hS.ne 6 2 rfl rfl (by decide)
  have nGQ := hS.ne 6 3 rfl rfl (by decide)
  have lR := hS.low (R, _) (List.mem_of_getElem? (i := 2) rfl)
  have lQ := hS.low (Q, _) (List.mem_of_getElem? (i := 3) rfl)
  have lG := hS.low (g', _) (List.mem_of_getElem? (i := 6) rfl)
  have hBX := hS.bel
  clear hS hw1
  have t0 := (unhide TB).cell 0 _ rfl
  have t1 := (unhide TB).cell 1 _ rfl
  have t2 := (unhide TB).cell 2 _ rfl
  have t3 := (unhide TB).cell 3 _ rfl
  have t4 := (unhide TB).cell 4 _ rfl
  have t5 := (unhide TB).cell 5 _ rfl
  have o0 := (unhide OB).cell 0 _ rfl
  have o1 := (unhide OB).cell 1 _ rfl
  have o2 := (unhide OB).cell 2 _ rfl
  have o3 := (unhide OB).cell 3 _ rfl
  have o4 := (unhide OB).cell 4 _ rfl
  have o5 := (unhide OB).cell 5 _ rfl
  have o6 := (unhide OB).cell 6 _ rfl
  have o7 := (unhide OB).cell 7 _ rfl
  have o8 := (unhide OB).cell 8 _ rfl
  have o9 := (unhide OB).cell 9 _ rfl
  have o10 := (unhide OB).cell 10 _ rfl
  have o11 := (unhide OB).cell 11 _ rfl
  have o12 := (unhide OB).cell 12 _ rfl
  have r0 := (unhide RB).cell 0 _ rfl
  have rz0 := (unhide RB).fz 0
  have r1 := (unhide RB).cell 1 _ rfl
  have rz1 := (unhide RB).fz 1
  have r2 := (unhide RB).cell 2 _ rfl
  have rz2 := (unhide RB).fz 2
  have r3 := (unhide RB).cell 3 _ rfl
  have rz3 := (unhide RB).fz 3
  have r4 := (unhide RB).cell 4 _ rfl
  have rz4 := (unhide RB).fz 4
  have r5 := (unhide RB).cell 5 _ rfl
  have rz5 := (unhide RB).fz 5
  have r6 := (unhide RB).cell 6 _ rfl
  have rz6 := (unhide RB).fz 6
  have r7 := (unhide RB).cell 7 _ rfl
  have rz7 := (unhide RB).fz 7
  have r8 := (unhide RB).cell 8 _ rfl
  have rz8 := (unhide RB).fz 8
  have r9 := (unhide RB).cell 9 _ rfl
  have rz9 := (unhide RB).fz 9
  have r10 := (unhide RB).cell 10 _ rfl
  have rz10 := (unhide RB).fz 10
  have r11 := (unhide RB).cell 11 _ rfl
  have rz11 := (unhide RB).fz 11
  have r12 := (unhide RB).cell 12 _ rfl
  have rz12 := (unhide RB).fz 12
  have q0 := (unhide QB).cell 0 _ rfl
  have qz0 := (unhide QB).fz 0
  have q1 := (unhide QB).cell 1 _ rfl
  have qz1 := (unhide QB).fz 1
  have q2 := (unhide QB).cell 2 _ rfl
  have qz2 := (unhide QB).fz 2
  have q3 := (unhide QB).cell 3 _ rfl
  have qz3 := (unhide QB).fz 3
  have q4 := (unhide QB).cell 4 _ rfl
  have qz4 := (unhide QB).fz 4
  have q5 := (unhide QB).cell 5 _ rfl
  have qz5 := (unhide QB).fz 5
  go_region
  all_goals
    have RB2 := (((((((((((((((((((((unhide RB).put 0 (.int .i64 c.t)).put 1 (.int .i64 c.s)).put 2 (.int .i64 c.k)).put 3 (.int .i64 c.g)).put 4 (.int .u64 c.q)).put 5 (.slice (some ⟨g', 0, none⟩) c.n cg)).put 6 (.int .i64 (wrap64 (cnt + 1)))).put 7 (.int .i64 4)).put 8 (.int .i64 a)).put 9 (.int .i64 b)).put 10 (.int .u64 (z : Nat))).put 11 (.int .u64 (y : Nat))).put 12 (.bool true)).set (p := ⟨Q, 0, none⟩) (u := .int .i64 4) nQR).set (p := ⟨Q, 1, none⟩) (u := .int .i64 a) nQR).set (p := ⟨Q, 2, none⟩) (u := .int .i64 b) nQR).set (p := ⟨Q, 3, none⟩) (u := .int .u64 (z : Nat)) nQR).set (p := ⟨Q, 4, none⟩) (u := .int .u64 (y : Nat)) nQR).set (p := ⟨Q, 5, none⟩) (u := .bool true) nQR)).drew
    have QB2 := (((((((((((((((((((((unhide QB).set (p := ⟨R, 0, none⟩) (u := .int .i64 c.t) nRQ).set (p := ⟨R, 1, none⟩) (u := .int .i64 c.s) nRQ).set (p := ⟨R, 2, none⟩) (u := .int .i64 c.k) nRQ).set (p := ⟨R, 3, none⟩) (u := .int .i64 c.g) nRQ).set (p := ⟨R, 4, none⟩) (u := .int .u64 c.q) nRQ).set (p := ⟨R, 5, none⟩) (u := .slice (some ⟨g', 0, none⟩) c.n cg) nRQ).set (p := ⟨R, 6, none⟩) (u := .int .i64 (wrap64 (cnt + 1))) nRQ).set (p := ⟨R, 7, none⟩) (u := .int .i64 4) nRQ).set (p := ⟨R, 8, none⟩) (u := .int .i64 a) nRQ).set (p := ⟨R, 9, none⟩) (u := .int .i64 b) nRQ).set (p := ⟨R, 10, none⟩) (u := .int .u64 (z : Nat)) nRQ).set (p := ⟨R, 11, none⟩) (u := .int .u64 (y : Nat)) nRQ).set (p := ⟨R, 12, none⟩) (u := .bool true) nRQ).put 0 (.int .i64 4)).put 1 (.int .i64 a)).put 2 (.int .i64 b)).put 3 (.int .u64 (z : Nat))).put 4 (.int .u64 (y : Nat))).put 5 (.bool true))).drew
    have hOf := ((((((((((((((((((((Off.refl R Q X).set (p := ⟨R, 0, none⟩) (.inl rfl) (.int .i64 c.t)).set (p := ⟨R, 1, none⟩) (.inl rfl) (.int .i64 c.s)).set (p := ⟨R, 2, none⟩) (.inl rfl) (.int .i64 c.k)).set (p := ⟨R, 3, none⟩) (.inl rfl) (.int .i64 c.g)).set (p := ⟨R, 4, none⟩) (.inl rfl) (.int .u64 c.q)).set (p := ⟨R, 5, none⟩) (.inl rfl) (.slice (some ⟨g', 0, none⟩) c.n cg)).set (p := ⟨R, 6, none⟩) (.inl rfl) (.int .i64 (wrap64 (cnt + 1)))).set (p := ⟨R, 7, none⟩) (.inl rfl) (.int .i64 4)).set (p := ⟨R, 8, none⟩) (.inl rfl) (.int .i64 a)).set (p := ⟨R, 9, none⟩) (.inl rfl) (.int .i64 b)).set (p := ⟨R, 10, none⟩) (.inl rfl) (.int .u64 (z : Nat))).set (p := ⟨R, 11, none⟩) (.inl rfl) (.int .u64 (y : Nat))).set (p := ⟨R, 12, none⟩) (.inl rfl) (.bool true)).set (p := ⟨Q, 0, none⟩) (.inr (.inl rfl)) (.int .i64 4)).set (p := ⟨Q, 1, none⟩) (.inr (.inl rfl)) (.int .i64 a)).set (p := ⟨Q, 2, none⟩) (.inr (.inl rfl)) (.int .i64 b)).set (p := ⟨Q, 3, none⟩) (.inr (.inl rfl)) (.int .u64 (z : Nat))).set (p := ⟨Q, 4, none⟩) (.inr (.inl rfl)) (.int .u64 (y : Nat))).set (p := ⟨Q, 5, none⟩) (.inr (.inl rfl)) (.bool true)).drew
    simp only [List.set] at RB2 QB2
    have RH := hide RB2
    have QH := hide QB2
    have HOf := hide hOf
    clear RB2 QB2 hOf t0 t1 t2 t3 t4 t5 o0 o1 o2 o3 o4 o5 o6 o7 o8 o9 o10 o11 o12 r0 rz0 r1 rz1 r2 rz2 r3 rz3 r4 rz4 r5 rz5 r6 rz6 r7 rz7 r8 rz8 r9 rz9 r10 rz10 r11 rz11 r12 rz12 q0 qz0 q1 qz1 q2 qz2 q3 qz3 q4 qz4 q5 qz5
    go_wp2
    have RB2 := unhide RH
    have QB2 := unhide QH
    have hOf := unhide HOf
    generalize World.drew _ = Wf at RB2 QB2 hOf ⊢
    refine bodyPost_ret (v := .tuple #[.agg #[.int .i64 c.t, .int .i64 c.s, .int .i64 c.k, .int .i64 c.g, .int .u64 c.q, .slice (some ⟨g', 0, none⟩) c.n cg, .int .i64 (wrap64 (cnt + 1)), .int .i64 4, .int .i64 a, .int .i64 b, .int .u64 (z : Nat), .int .u64 (y : Nat), .bool true], .agg #[.int .i64 4, .int .i64 a, .int .i64 b, .int .u64 (z : Nat), .int .u64 (y : Nat), .bool true]]) (by simp [results, Tryz.results90, go_sem, RB2.cell 0 _ rfl, RB2.cell 1 _ rfl, RB2.cell 2 _ rfl, RB2.cell 3 _ rfl, RB2.cell 4 _ rfl, RB2.cell 5 _ rfl, RB2.cell 6 _ rfl, RB2.cell 7 _ rfl, RB2.cell 8 _ rfl, RB2.cell 9 _ rfl, RB2.cell 10 _ rfl, RB2.cell 11 _ rfl, RB2.cell 12 _ rfl, QB2.cell 0 _ rfl, QB2.cell 1 _ rfl, QB2.cell 2 _ rfl, QB2.cell 3 _ rfl, QB2.cell 4 _ rfl, QB2.cell 5 _ rfl]) rfl ?_
    have hGf := (unhide GB).off hOf nGR nGQ
    refine ⟨.slice (some ⟨g', 0, none⟩) c.n cg, by rw [next_eq], .inr ⟨g', 0, cg, rfl, hn0, hc1, hc2, hGf.lt, fun j hj => ⟨by rw [Nat.zero_add]; exact hGf.cell j _ (rowW_get _ c.n j hj), Um.word_putW (fun j hj => ((unhide HX) j hj).2) hx j hj⟩⟩, .inr ⟨g', cg, rfl, lG, hc1, hc2, hGf⟩, hBX.trans (hOf.below hBX.size lR lQ)⟩
end
section
set_option maxRecDepth 100000
open Go.RowKit Go.Sort
theorem rTouch_any (c : Um.Cf) (v : Value) (m M : Um.Mm) (kind a b : Int) (o x : Nat) (w : World) (hr : c.r = true) (hv : IsWords w v c.n m.ws) (hx : Um.Word x) (hk : kind = 1 ∨ kind = 2 ∨ kind = 3 ∨ kind = 4) (hM : M = Um.mtouch c m kind a b o x) :
    Calls Tryz.prog 90 #[(.agg #[.int .i64 (c.t), .int .i64 (c.s), .int .i64 (c.k), .int .i64 (c.g), .int .u64 (c.q : Int), v, .int .i64 (m.cnt), .int .i64 (m.l.kind), .int .i64 (m.l.a), .int .i64 (m.l.b), .int .u64 (m.l.old : Nat), .int .u64 (m.l.new : Nat), .bool (m.l.done)]), .int .i64 kind, (.agg #[.int .i64 a, .int .i64 b]), .int .u64 (o : Nat), .int .u64 (x : Nat)] w fun e W' =>
      ∃ v', e = .returned (.tuple #[(.agg #[.int .i64 (c.t), .int .i64 (c.s), .int .i64 (c.k), .int .i64 (c.g), .int .u64 (c.q : Int), v', .int .i64 (M.cnt), .int .i64 (M.l.kind), .int .i64 (M.l.a), .int .i64 (M.l.b), .int .u64 (M.l.old : Nat), .int .u64 (M.l.new : Nat), .bool (M.l.done)]), (.agg #[.int .i64 (M.l.kind), .int .i64 (M.l.a), .int .i64 (M.l.b), .int .u64 (M.l.old : Nat), .int .u64 (M.l.new : Nat), .bool (M.l.done)])]) ∧ IsWords W' v' c.n M.ws ∧ (v' = v ∨ RFresh w W' v' c.n M.ws) ∧ Below w.heap.size w W' := by
  have hn := Um.Cf.n_pos hr
  obtain ⟨g, off, cap, rfl⟩ : ∃ g off cap, v = .slice (some ⟨g, off, none⟩) c.n cap := by
    rcases hv with ⟨_, _, _, h0⟩ | ⟨g, off, cap, rfl, _⟩
    · omega
    · exact ⟨g, off, cap, rfl⟩
  by_cases hp : 0 ≤ c.cl a b
  · have hpe : c.cl a b = ((c.cl a b).toNat : Nat) := (Int.toNat_of_nonneg hp).symm
    have hpn : (c.cl a b).toNat < c.n := Um.Cf.cl_lt hp
    have hM2 : M = Um.mhit m (c.cl a b).toNat kind a b o x := by rw [hM]; unfold Um.mtouch; rw [if_pos hp]
    clear hM
    generalize (c.cl a b).toNat = p at *
    rcases hk with rfl | rfl | rfl | rfl
    · obtain rfl : M = ⟨Um.putW m.ws p (m.ws p), Um.nextI m.cnt, ⟨1, a, b, m.ws p, m.ws p, true⟩⟩ := by rw [hM2]; simp [Um.mhit, Um.trn, Um.trd]
      exact rTouch_1 c g off cap m.cnt m.l a b o x p (m.ws p) m.ws w hpe hpn hv rfl hx
    · obtain rfl : M = ⟨Um.putW m.ws p x, Um.nextI m.cnt, ⟨2, a, b, m.ws p, x, true⟩⟩ := by rw [hM2]; simp [Um.mhit, Um.trn, Um.trd]
      by_cases e : x = m.ws p
      · have := rTouch_2a c g off cap m.cnt m.l a b o x p (m.ws p) m.ws w hpe hpn hv rfl hx e.symm
        rw [← e] at this
        rw [← e]
        exact this
      · exact rTouch_2b c g off cap m.cnt m.l a b o x p (m.ws p) m.ws w hpe hpn hv rfl hx e
    · by_cases e : m.ws p = o
      · obtain rfl : M = ⟨Um.putW m.ws p x, Um.nextI m.cnt, ⟨3, a, b, m.ws p, x, true⟩⟩ := by rw [hM2]; simp [Um.mhit, Um.trn, Um.trd, e]
        by_cases e2 : x = m.ws p
        · have := rTouch_3b c g off cap m.cnt m.l a b o x p (m.ws p) m.ws w hpe hpn hv rfl hx e e2.symm
          rw [← e2] at this
          rw [← e2]
          exact this
        · exact rTouch_3c c g off cap m.cnt m.l a b o x p (m.ws p) m.ws w hpe hpn hv rfl hx e2 e.symm
      · obtain rfl : M = ⟨Um.putW m.ws p (m.ws p), Um.nextI m.cnt, ⟨3, a, b, m.ws p, m.ws p, false⟩⟩ := by rw [hM2]; simp [Um.mhit, Um.trn, Um.trd, e]
        exact rTouch_3a c g off cap m.cnt m.l a b o x p (m.ws p) m.ws w hpe hpn hv rfl hx (by simp; omega)
    · obtain rfl : M = ⟨Um.putW m.ws p (Um.addW (m.ws p) x), Um.nextI m.cnt, ⟨4, a, b, m.ws p, Um.addW (m.ws p) x, true⟩⟩ := by rw [hM2]; simp [Um.mhit, Um.trn, Um.trd]
      by_cases e : Um.addW (m.ws p) x = m.ws p
      · have := rTouch_4a c g off cap m.cnt m.l a b o x p (m.ws p) m.ws w hpe hpn hv rfl hx e
        rw [e]
        exact this
      · exact rTouch_4b c g off cap m.cnt m.l a b o x p (m.ws p) m.ws w hpe hpn hv rfl _ rfl (Um.word_addW _ _) e
  · obtain rfl : M = Um.mmiss m kind a b := by rw [hM]; unfold Um.mtouch; rw [if_neg hp]
    refine (rTouch_miss c (some ⟨g, off, none⟩) c.n cap m.cnt m.l kind a b o x w (by have := c.cl_ge a b; omega)).mono ?_
    rintro e W' ⟨rfl, hb⟩
    exact ⟨_, rfl, (hv.low.below hb).is hb.size, .inl rfl, hb⟩
end
section
set_option maxRecDepth 100000
open Go.RowKit Go.Sort
theorem egSp (args : Array Value) (w : World) : (callFunc 91 args).run Tryz.prog w = .ok (.enter 91 args) w := by go_simp
theorem egTo (args : Array Value) (w : World) : (callFunc 90 args).run Tryz.prog w = .ok (.enter 90 args) w := by go_simp
set_option maxHeartbeats 400000 in
theorem rSpot_any (a b : Int) (w : World) : Calls Tryz.prog 91 #[.int .i64 a, .int .i64 b] w fun e w' => e = .returned (.agg #[.int .i64 a, .int .i64 b]) ∧ Below w.heap.size w w' := by
  go_enter Tryz.func91, Tryz.ntmps91
  go_wp2
  exact bodyPost_ret (v := (.agg #[.int .i64 a, .int .i64 b])) (by simp [results, Tryz.results91, go_sem]) rfl ⟨rfl, (Below.refl _ _).alloc (Nat.le_refl _) _⟩
theorem words_back {w w4 wf : World} {v : Value} {n : Nat} {xs ys : Nat → Nat} (h0 : IsWords w v n xs) (h4 : IsWords w4 v n ys) (b4 : Below w.heap.size w w4) (bf : Below w.heap.size w wf) : IsWords wf v n ys := by
  rcases h4 with h | ⟨g, off, cap, rfl, k0, k1, k2, k3, k4⟩
  · exact .inl h
  · have hg : g < w.heap.size := by
      rcases h0 with ⟨_, _, _, e⟩ | ⟨g', off', cap', e, _, _, _, e3, _⟩
      · omega
      · cases e; exact e3
    exact .inr ⟨g, off, cap, rfl, k0, k1, k2, Nat.lt_of_lt_of_le hg bf.size, fun j hj => ⟨((bf.cell (p := ⟨g, off + j, none⟩) hg).trans (b4.cell (p := ⟨g, off + j, none⟩) hg).symm).trans (k4 j hj).1, (k4 j hj).2⟩⟩
end
section
set_option maxRecDepth 100000
open Go.RowKit Go.Sort
set_option maxHeartbeats 8000000 in
theorem rLoad_any (c : Um.Cf) (v : Value) (m M : Um.Mm) (a b : Int) (w : World) (hr : c.r = true) (hv : IsWords w v c.n m.ws) (hM : M = Um.mtouch c m 1 a b 0 0) :
    Calls Tryz.prog 48 #[.agg #[.int .i64 c.t, .int .i64 c.s, .int .i64 c.k, .int .i64 c.g, .int .u64 c.q, v, .int .i64 m.cnt, .int .i64 m.l.kind, .int .i64 m.l.a, .int .i64 m.l.b, .int .u64 (m.l.old : Nat), .int .u64 (m.l.new : Nat), .bool m.l.done], .int .i64 a, .int .i64 b] w fun e W' =>
      ∃ v', e = .returned (.tuple #[.agg #[.int .i64 c.t, .int .i64 c.s, .int .i64 c.k, .int .i64 c.g, .int .u64 c.q, v', .int .i64 M.cnt, .int .i64 M.l.kind, .int .i64 M.l.a, .int .i64 M.l.b, .int .u64 (M.l.old : Nat), .int .u64 (M.l.new : Nat), .bool M.l.done], .int .u64 (M.l.old : Nat)]) ∧ IsWords W' v' c.n M.ws ∧ (v' = v ∨ RFresh w W' v' c.n M.ws) ∧ Below w.heap.size w W' := by
  have hn0 : 0 < c.n := by have := Um.Cf.n_pos hr; omega
  have HWD := hide (show ∀ j, j < c.n → Um.Word (M.ws j) by rw [hM]; exact Um.word_touch (words_word hv) (by unfold Um.Word; omega))
  have hT := fun w hv => rTouch_any c v m M 1 a b 0 0 w hr hv (by unfold Um.Word; omega) (.inl rfl) hM
  have HV := hide hv
  have HT := hide hT
  obtain ⟨sv, cap, rfl⟩ := words_len hv
  clear hv hT hM
  have hS := St.new w
  go_enter Tryz.func48, Tryz.ntmps48
  go_wp2_with (first | (refine wpl_box hS rfl _ _ rfl _ rfl _ (by intro _; simp only [Act.put, List.setIfInBounds_toArray, List.set_cons_zero, List.set_cons_succ]; first | done | exact rfl) ?_; clear hS; intro _ _ hS; dsimp only [blit, List.set, List.cons_append, List.nil_append, Value.cells, List.toList_toArray] at hS) | (refine wpl_alloc hS rfl _ rfl _ (zer_any rfl) _ (by intro _; simp only [Act.put, List.setIfInBounds_toArray, List.set_cons_zero, List.set_cons_succ]; first | done | exact rfl) ?_; clear hS; intro _ _ hS; dsimp only [blit, List.set, List.cons_append, List.nil_append, Value.cells, List.toList_toArray] at hS) | (refine wpl_ld hS rfl _ _ rfl _ _ rfl ?_; (first | refine ⟨0, _, rfl, ?_⟩ | refine ⟨1, _, rfl, ?_⟩ | refine ⟨2, _, rfl, ?_⟩ | refine ⟨3, _, rfl, ?_⟩ | refine ⟨4, _, rfl, ?_⟩ | refine ⟨5, _, rfl, ?_⟩ | refine ⟨6, _, rfl, ?_⟩ | refine ⟨7, _, rfl, ?_⟩ | refine ⟨8, _, rfl, ?_⟩ | refine ⟨9, _, rfl, ?_⟩); first | refine .inl ⟨_, one_any rfl, rfl, _, (by simp only [Act.put, List.setIfInBounds_toArray, List.set_cons_zero, List.set_cons_succ]; first | done | exact rfl), ?_⟩ | refine .inr ⟨_, _, row_any rfl, rfl, (by dsimp only [cutL, List.drop, List.take]; first | done | exact rfl), _, (by simp only [Act.put, List.setIfInBounds_toArray, List.set_cons_zero, List.set_cons_succ]; first | done | exact rfl), ?_⟩) | (refine wpl_st hS rfl _ _ _ rfl rfl _ _ rfl ?_; (first | refine ⟨0, _, rfl, ?_⟩ | refine ⟨1, _, rfl, ?_⟩ | refine ⟨2, _, rfl, ?_⟩ | refine ⟨3, _, rfl, ?_⟩ | refine ⟨4, _, rfl, ?_⟩ | refine ⟨5, _, rfl, ?_⟩ | refine ⟨6, _, rfl, ?_⟩ | refine ⟨7, _, rfl, ?_⟩ | refine ⟨8, _, rfl, ?_⟩ | refine ⟨9, _, rfl, ?_⟩); refine ⟨_, (by first | exact shA rfl | exact shI rfl | exact shB rfl | exact shS rfl | exact shP rfl | exact shF rfl | exact shN rfl), _, siz_any rfl, (by exact rfl), (by exact rfl), (by exact rfl), ?_⟩; clear hS; intro _ hS; dsimp only [blit, List.set, List.cons_append, List.nil_append, Value.cells, List.toList_toArray] at hS))
  rename_i B _ R X _ _
  refine wp_region_og (I := fun D a' w' => ∃ (bA bT : Nat) (v' : Value) (G : List (Nat × List Value)), a' = ⟨#[.agg #[.int .i64 c.t, .int .i64 c.s, .int .i64 c.k, .int .i64 c.g, .int .u64 c.q, .slice sv c.n cap, .int .i64 m.cnt, .int .i64 m.l.kind, .int .i64 m.l.a, .int .i64 m.l.b, .int .u64 (m.l.old : Nat), .int .u64 (m.l.new : Nat), .bool m.l.done], .int .i64 a, .int .i64 b, .pointer (some ⟨B, 0, none⟩), undef, undef, .pointer (some ⟨R, 0, none⟩), .int .u64 0, (cond (D 8) (.pointer (some ⟨bA, 0, none⟩)) undef), (cond (D 9) (.pointer (some ⟨bT, 0, none⟩)) undef), (cond (D 5) (.tuple #[.agg #[.int .i64 c.t, .int .i64 c.s, .int .i64 c.k, .int .i64 c.g, .int .u64 c.q, v', .int .i64 M.cnt, .int .i64 M.l.kind, .int .i64 M.l.a, .int .i64 M.l.b, .int .u64 (M.l.old : Nat), .int .u64 (M.l.new : Nat), .bool M.l.done], .agg #[.int .i64 M.l.kind, .int .i64 M.l.a, .int .i64 M.l.b, .int .u64 (M.l.old : Nat), .int .u64 (M.l.new : Nat), .bool M.l.done]]) undef), (cond (D 0) (.agg #[.int .i64 c.t, .int .i64 c.s, .int .i64 c.k, .int .i64 c.g, .int .u64 c.q, .slice sv c.n cap, .int .i64 m.cnt, .int .i64 m.l.kind, .int .i64 m.l.a, .int .i64 m.l.b, .int .u64 (m.l.old : Nat), .int .u64 (m.l.new : Nat), .bool m.l.done]) undef), (cond (D 1) (.int .i64 a) undef), (cond (D 2) (.int .i64 b) undef), (cond (D 3) (.agg #[.int .i64 a, .int .i64 b]) undef), (cond (D 4) (.tuple #[.agg #[.int .i64 c.t, .int .i64 c.s, .int .i64 c.k, .int .i64 c.g, .int .u64 c.q, v', .int .i64 M.cnt, .int .i64 M.l.kind, .int .i64 M.l.a, .int .i64 M.l.b, .int .u64 (M.l.old : Nat), .int .u64 (M.l.new : Nat), .bool M.l.done], .agg #[.int .i64 M.l.kind, .int .i64 M.l.a, .int .i64 M.l.b, .int .u64 (M.l.old : Nat), .int .u64 (M.l.new : Nat), .bool M.l.done]]) undef), (cond (D 6) (.agg #[.int .i64 c.t, .int .i64 c.s, .int .i64 c.k, .int .i64 c.g, .int .u64 c.q, v', .int .i64 M.cnt, .int .i64 M.l.kind, .int .i64 M.l.a, .int .i64 M.l.b, .int .u64 (M.l.old : Nat), .int .u64 (M.l.new : Nat), .bool M.l.done]) undef), (cond (D 7) (.agg #[.int .i64 M.l.kind, .int .i64 M.l.a, .int .i64 M.l.b, .int .u64 (M.l.old : Nat), .int .u64 (M.l.new : Nat), .bool M.l.done]) undef), undef, undef, undef], []⟩ ∧ (D 4 = true → ((v' = .slice sv c.n cap ∧ G = [] ∧ IsWords w (.slice sv c.n cap) c.n M.ws) ∨ ∃ g' cg, v' = .slice (some ⟨g', 0, none⟩) c.n cg ∧ c.n ≤ cg ∧ cg ≤ maxLen ∧ G = [(g', rowW M.ws c.n)])) ∧ (D 4 = false → G = []) ∧ (D 5 = true → D 4 = true) ∧ (D 6 = true → D 4 = true) ∧ (D 10 = true → D 4 = true) ∧ (D 10 = true → D 8 = true) ∧ (D 11 = true → D 9 = true) ∧ St w w' ([(B, [.int .i64 c.t, .int .i64 c.s, .int .i64 c.k, .int .i64 c.g, .int .u64 c.q, .slice sv c.n cap, .int .i64 m.cnt, .int .i64 m.l.kind, .int .i64 m.l.a, .int .i64 m.l.b, .int .u64 (m.l.old : Nat), .int .u64 (m.l.new : Nat), .bool m.l.done]), (R, [.int .i64 0, .int .i64 0, .int .i64 0, .int .i64 0, .int .u64 0, .slice none 0 0, .int .i64 0, .int .i64 0, .int .i64 0, .int .i64 0, .int .u64 0, .int .u64 0, .bool false])] ++ G ++ cond (D 8) [(bA, cond (D 10) [.int .i64 c.t, .int .i64 c.s, .int .i64 c.k, .int .i64 c.g, .int .u64 c.q, v', .int .i64 M.cnt, .int .i64 M.l.kind, .int .i64 M.l.a, .int .i64 M.l.b, .int .u64 (M.l.old : Nat), .int .u64 (M.l.new : Nat), .bool M.l.done] [.int .i64 0, .int .i64 0, .int .i64 0, .int .i64 0, .int .u64 0, .slice none 0 0, .int .i64 0, .int .i64 0, .int .i64 0, .int .i64 0, .int .u64 0, .int .u64 0, .bool false])] [] ++ cond (D 9) [(bT, cond (D 11) [.int .i64 M.l.kind, .int .i64 M.l.a, .int .i64 M.l.b, .int .u64 (M.l.old : Nat), .int .u64 (M.l.new : Nat), .bool M.l.done] [.int .i64 0, .int .i64 0, .int .i64 0, .int .u64 0, .int .u64 0, .bool false])] [])) (by kernel_rfl) ?acyc ?start ?steps ?ends
  case acyc =>
    intro i o hi e he hb
    exact og_acyc (by kernel_rfl) hi he hb
  case start => exact ⟨0, 0, .nilIface, [], rfl, (fun h => by cases h), (fun _ => rfl), (fun h => by cases h), (fun h => by cases h), (fun h => by cases h), (fun h => by cases h), (fun h => by cases h), hS.drew⟩
  case steps =>
    intro i o hi D a' w' hD hpre hI
    obtain ⟨bA, bT, v', G, rfl, hRel, hG, hcM, hcX, hcS, hcA, hcT, hS⟩ := hI
    match i, hi with
    | 0, hi =>
      cases hi
      refine wpOp_step rfl (fun K hK => ?_)
      refine stp_val rfl (yif_load (S := fun q => q = w') rfl _ _ rfl _ _ rfl _ (fun _ h => h ▸ hS.get 0 rfl) _ row_rmem (by exact rfl) _ (by dsimp only [cutL, List.drop, List.take]; first | done | exact rfl)) rfl ?_
      exact hK _ _ ⟨bA, bT, v', G, rfl, hRel, hG, hcM, hcX, hcS, hcA, hcT, hS⟩
    | 1, hi =>
      cases hi
      refine wpOp_step rfl (fun K hK => ?_)
      refine stp_val rfl (by exact yif_moveI rfl _ (.inl rfl) _ _ rfl) rfl ?_
      exact hK _ _ ⟨bA, bT, v', G, rfl, hRel, hG, hcM, hcX, hcS, hcA, hcT, hS⟩
    | 2, hi =>
      cases hi
      refine wpOp_step rfl (fun K hK => ?_)
      refine stp_val rfl (by exact yif_moveI rfl _ (.inl rfl) _ _ rfl) rfl ?_
      exact hK _ _ ⟨bA, bT, v', G, rfl, hRel, hG, hcM, hcX, hcS, hcA, hcT, hS⟩
    | 3, hi =>
      cases hi
      have d1 : D 1 = true := og_pre hpre (by kernel_rfl)
      have d2 : D 2 = true := og_pre hpre (by kernel_rfl)
      refine wpOp_step rfl (fun K hK => ?_)
      refine stp_call rfl _ _ _ rfl egSp _ (list2_eq (cond_at d1 rfl) (cond_at d2 rfl)) _ rfl ?_
      refine (rSpot_any _ _ _).mono ?_
      rintro e u ⟨rfl, hb⟩
      exact ⟨_, rfl, hK _ _ ⟨bA, bT, v', G, rfl, hRel, hG, hcM, hcX, hcS, hcA, hcT, hS.call hb⟩⟩
    | 4, hi =>
      cases hi
      have d0 : D 0 = true := og_pre hpre (by kernel_rfl)
      have d3 : D 3 = true := og_pre hpre (by kernel_rfl)
      refine wpOp_step rfl (fun K hK => ?_)
      refine stp_call rfl _ _ _ rfl egTo _ (list5_eq (cond_at d0 rfl) rfl (cond_at d3 rfl) rfl rfl) _ rfl ?_
      refine ((unhide HT) _ (((unhide HV).low.below hS.bel).is hS.bel.size)).mono ?_
      rintro e w4 ⟨vn, rfl, hI, hF, hb⟩
      obtain rfl := hG hD
      have m0 := og_not hcM hD
      have x0 := og_not hcX hD
      have z0 := og_not hcS hD
      refine ⟨_, rfl, ?_⟩
      rcases hF with rfl | ⟨g', cg, rfl, lg, hc1, hc2, hGb⟩
      · exact hK _ _ ⟨bA, bT, _, [], (by simp only [m0, x0]; rfl), (fun _ => .inl ⟨rfl, rfl, words_back (unhide HV) hI (hS.call hb).bel (Below.refl _ _)⟩), (fun _ => rfl), (fun _ => rfl), (fun _ => rfl), (fun _ => rfl), hcA, hcT, (by have h := hS.call hb; rw [z0] at h; show St w w4 (_ ++ _ ++ cond (D 8) [(bA, cond (D 10) _ _)] _ ++ _); rw [z0]; exact h)⟩
      · exact hK _ _ ⟨bA, bT, _, [(g', rowW M.ws c.n)], (by simp only [m0, x0]; rfl), (fun _ => .inr ⟨g', cg, rfl, hc1, hc2, rfl⟩), (fun h => by cases h), (fun _ => rfl), (fun _ => rfl), (fun _ => rfl), hcA, hcT, (by have h := hS.add hb hGb lg; rw [z0] at h; show St w w4 (_ ++ _ ++ cond (D 8) [(bA, cond (D 10) _ _)] _ ++ _); rw [z0]; exact h.perm (perm_last _))⟩
    | 5, hi =>
      cases hi
      have d4 : D 4 = true := og_pre hpre (by kernel_rfl)
      refine wpOp_step rfl (fun K hK => ?_)
      refine stp_val rfl (by exact yif_mv rfl (.tmp 15) rfl _ (cond_at d4 rfl)) rfl ?_
      exact hK _ _ ⟨bA, bT, v', G, rfl, hRel, hG, (fun _ => d4), hcX, hcS, hcA, hcT, hS⟩
    | 6, hi =>
      cases hi
      have d5 : D 5 = true := og_pre hpre (by kernel_rfl)
      refine wpOp_step rfl (fun K hK => ?_)
      refine stp_val rfl (by refine yif_extract rfl (.tmp 10) 0 rfl [.agg #[.int .i64 c.t, .int .i64 c.s, .int .i64 c.k, .int .i64 c.g, .int .u64 c.q, v', .int .i64 M.cnt, .int .i64 M.l.kind, .int .i64 M.l.a, .int .i64 M.l.b, .int .u64 (M.l.old : Nat), .int .u64 (M.l.new : Nat), .bool M.l.done], .agg #[.int .i64 M.l.kind, .int .i64 M.l.a, .int .i64 M.l.b, .int .u64 (M.l.old : Nat), .int .u64 (M.l.new : Nat), .bool M.l.done]] ?_ _ rfl; exact cond_at d5 rfl) rfl ?_
      exact hK _ _ ⟨bA, bT, v', G, rfl, hRel, hG, hcM, (fun _ => hcM d5), hcS, hcA, hcT, hS⟩
    | 7, hi =>
      cases hi
      have d5 : D 5 = true := og_pre hpre (by kernel_rfl)
      refine wpOp_step rfl (fun K hK => ?_)
      refine stp_val rfl (by refine yif_extract rfl (.tmp 10) 1 rfl [.agg #[.int .i64 c.t, .int .i64 c.s, .int .i64 c.k, .int .i64 c.g, .int .u64 c.q, v', .int .i64 M.cnt, .int .i64 M.l.kind, .int .i64 M.l.a, .int .i64 M.l.b, .int .u64 (M.l.old : Nat), .int .u64 (M.l.new : Nat), .bool M.l.done], .agg #[.int .i64 M.l.kind, .int .i64 M.l.a, .int .i64 M.l.b, .int .u64 (M.l.old : Nat), .int .u64 (M.l.new : Nat), .bool M.l.done]] ?_ _ rfl; exact cond_at d5 rfl) rfl ?_
      exact hK _ _ ⟨bA, bT, v', G, rfl, hRel, hG, hcM, hcX, hcS, hcA, hcT, hS⟩
    | 8, hi =>
      cases hi
      refine wpOp_step rfl (fun K hK => ?_)
      have e0 := og_not hcA hD
      refine stp_alloc hS rfl _ rfl _ zer_rmem _ rfl _ rfl _ (fun _ => rfl) ?_
      intro bn u hS'
      rw [hD] at hS'
      refine hK _ _ ⟨bn, bT, v', G, rfl, hRel, hG, hcM, hcX, hcS, (fun _ => rfl), hcT, ?_⟩
      show St w u (_ ++ G ++ [(bn, cond (D 10) _ _)] ++ _)
      rw [e0]
      exact hS'.perm (perm_mid _)
    | 9, hi =>
      cases hi
      refine wpOp_step rfl (fun K hK => ?_)
      have e0 := og_not hcT hD
      refine stp_alloc hS rfl _ rfl _ zer_rtch _ rfl _ rfl _ (fun _ => rfl) ?_
      intro bn u hS'
      rw [hD] at hS'
      refine hK _ _ ⟨bA, bn, v', G, rfl, hRel, hG, hcM, hcX, hcS, hcA, (fun _ => rfl), ?_⟩
      show St w u (_ ++ G ++ _ ++ [(bn, cond (D 11) _ _)])
      rw [e0]
      rw [cond_false, List.append_nil] at hS'
      exact hS'
    | 10, hi =>
      cases hi
      have d0 : D 0 = true := og_pre hpre (by kernel_rfl)
      have d1 : D 1 = true := og_pre hpre (by kernel_rfl)
      have d2 : D 2 = true := og_pre hpre (by kernel_rfl)
      have d3 : D 3 = true := og_pre hpre (by kernel_rfl)
      have d4 : D 4 = true := og_pre hpre (by kernel_rfl)
      have d5 : D 5 = true := og_pre hpre (by kernel_rfl)
      have d6 : D 6 = true := og_pre hpre (by kernel_rfl)
      have d8 : D 8 = true := og_pre hpre (by kernel_rfl)
      have d9 : D 9 = true := og_pre hpre (by kernel_rfl)
      refine wpOp_step rfl (fun K hK => ?_)
      rw [d8, hD, cond_true, cond_false] at hS
      rcases hRel d4 with ⟨rfl, rfl, h3⟩ | ⟨g', cg, rfl, hc1, hc2, rfl⟩
      · refine stp_store hS 2 rfl _ _ _ rfl _ _ (cond_at d8 rfl) _ rfl _ (cond_at d6 rfl) _ siz_rmem (by exact rfl) (by exact rfl) (by exact rfl) rfl ?_
        intro u hS'
        refine hK _ _ ⟨bA, bT, _, _, rfl, (fun _ => .inl ⟨rfl, rfl, h3⟩), hG, hcM, hcX, (fun _ => d4), (fun _ => d8), hcT, ?_⟩
        show St w u (_ ++ _ ++ cond (D 8) _ _ ++ _)
        rw [d8]
        exact hS'
      · refine stp_store hS 3 rfl _ _ _ rfl _ _ (cond_at d8 rfl) _ rfl _ (cond_at d6 rfl) _ siz_rmem (by exact rfl) (by exact rfl) (by exact rfl) rfl ?_
        intro u hS'
        refine hK _ _ ⟨bA, bT, _, _, rfl, (fun _ => .inr ⟨g', cg, rfl, hc1, hc2, rfl⟩), hG, hcM, hcX, (fun _ => d4), (fun _ => d8), hcT, ?_⟩
        show St w u (_ ++ _ ++ cond (D 8) _ _ ++ _)
        rw [d8]
        exact hS'
    | 11, hi =>
      cases hi
      have d0 : D 0 = true := og_pre hpre (by kernel_rfl)
      have d1 : D 1 = true := og_pre hpre (by kernel_rfl)
      have d2 : D 2 = true := og_pre hpre (by kernel_rfl)
      have d3 : D 3 = true := og_pre hpre (by kernel_rfl)
      have d4 : D 4 = true := og_pre hpre (by kernel_rfl)
      have d5 : D 5 = true := og_pre hpre (by kernel_rfl)
      have d6 : D 6 = true := og_pre hpre (by kernel_rfl)
      have d7 : D 7 = true := og_pre hpre (by kernel_rfl)
      have d8 : D 8 = true := og_pre hpre (by kernel_rfl)
      have d9 : D 9 = true := og_pre hpre (by kernel_rfl)
      have d10 : D 10 = true := og_pre hpre (by kernel_rfl)
      refine wpOp_step rfl (fun K hK => ?_)
      rw [d8, d10, d9, hD, cond_true, cond_true, cond_true, cond_false] at hS
      rcases hRel d4 with ⟨rfl, rfl, h3⟩ | ⟨g', cg, rfl, hc1, hc2, rfl⟩
      · refine stp_store hS 3 rfl _ _ _ rfl _ _ (cond_at d9 rfl) _ rfl _ (cond_at d7 rfl) _ siz_rtch (by exact rfl) (by exact rfl) (by exact rfl) rfl ?_
        intro u hS'
        refine hK _ _ ⟨bA, bT, _, _, rfl, (fun _ => .inl ⟨rfl, rfl, h3⟩), hG, hcM, hcX, hcS, hcA, (fun _ => d9), ?_⟩
        show St w u (_ ++ _ ++ cond (D 8) [(bA, cond (D 10) _ _)] _ ++ cond (D 9) _ _)
        rw [d8, d10, d9]
        exact hS'
      · refine stp_store hS 4 rfl _ _ _ rfl _ _ (cond_at d9 rfl) _ rfl _ (cond_at d7 rfl) _ siz_rtch (by exact rfl) (by exact rfl) (by exact rfl) rfl ?_
        intro u hS'
        refine hK _ _ ⟨bA, bT, _, _, rfl, (fun _ => .inr ⟨g', cg, rfl, hc1, hc2, rfl⟩), hG, hcM, hcX, hcS, hcA, (fun _ => d9), ?_⟩
        show St w u (_ ++ _ ++ cond (D 8) [(bA, cond (D 10) _ _)] _ ++ cond (D 9) _ _)
        rw [d8, d10, d9]
        exact hS'
    | i + 12, hi => simp at hi
  case ends =>
    intro D a' w' hall hI
    obtain ⟨bA, bT, v', G, rfl, hRel, _, _, _, _, _, _, hS⟩ := hI
    have d0 : D 0 = true := hall 0 (by decide)
    have d1 : D 1 = true := hall 1 (by decide)
    have d2 : D 2 = true := hall 2 (by decide)
    have d3 : D 3 = true := hall 3 (by decide)
    have d4 : D 4 = true := hall 4 (by decide)
    have d5 : D 5 = true := hall 5 (by decide)
    have d6 : D 6 = true := hall 6 (by decide)
    have d7 : D 7 = true := hall 7 (by decide)
    have d8 : D 8 = true := hall 8 (by decide)
    have d9 : D 9 = true := hall 9 (by decide)
    have d10 : D 10 = true := hall 10 (by decide)
    have d11 : D 11 = true := hall 11 (by decide)
    rw [d8, d10, d9, d11, cond_true, cond_true, cond_true, cond_true] at hS
    have hRl := hRel d4
    simp only [d0, d1, d2, d3, d4, d5, d6, d7, d8, d9, cond_true]
    clear hRel hall d0 d1 d2 d3 d4 d5 d6 d7 d8 d9 d10 d11
    rcases hRl with ⟨rfl, rfl, h3⟩ | ⟨g', cg, rfl, hc1, hc2, rfl⟩
    · dsimp only [List.cons_append, List.nil_append, List.append_nil] at hS
      go_wp2_with fail
      refine wp_region_held (S := fun q => BlkAt q bA [.int .i64 c.t, .int .i64 c.s, .int .i64 c.k, .int .i64 c.g, .int .u64 c.q, .slice sv c.n cap, .int .i64 M.cnt, .int .i64 M.l.kind, .int .i64 M.l.a, .int .i64 M.l.b, .int .u64 (M.l.old : Nat), .int .u64 (M.l.new : Nat), .bool M.l.done] ∧ BlkAt q bT [.int .i64 M.l.kind, .int .i64 M.l.a, .int .i64 M.l.b, .int .u64 (M.l.old : Nat), .int .u64 (M.l.new : Nat), .bool M.l.done]) (by kernel_rfl) ?_
      show wpAnyH Tryz.prog .any _ _ _ 5 _ _ (World.drew w')
      replace hS := hS.drew
      have hM : BlkAt (World.drew w') bA [.int .i64 c.t, .int .i64 c.s, .int .i64 c.k, .int .i64 c.g, .int .u64 c.q, .slice sv c.n cap, .int .i64 M.cnt, .int .i64 M.l.kind, .int .i64 M.l.a, .int .i64 M.l.b, .int .u64 (M.l.old : Nat), .int .u64 (M.l.new : Nat), .bool M.l.done] ∧ BlkAt (World.drew w') bT [.int .i64 M.l.kind, .int .i64 M.l.a, .int .i64 M.l.b, .int .u64 (M.l.old : Nat), .int .u64 (M.l.new : Nat), .bool M.l.done] := ⟨hS.get 2 rfl, hS.get 3 rfl⟩
      refine held_take (i := 0) rfl (by kernel_rfl) (by kernel_rfl) (by kernel_rfl) (fun _ _ _ h => h) (yif_load rfl _ _ rfl _ _ rfl _ (fun _ h => h.1) _ row_rmem (by exact rfl) _ (by dsimp only [cutL, List.drop, List.take]; first | done | exact rfl)) hM (some 18) rfl _ (by simp only [Act.put, List.setIfInBounds_toArray, List.set_cons_zero, List.set_cons_succ]; first | done | exact rfl) ?_
      refine held_take (i := 1) rfl (by kernel_rfl) (by kernel_rfl) (by kernel_rfl) (fun _ _ _ h => h) (yif_by rfl _ (fun w => by go_simp; first | done | exact rfl)) hM (some 19) rfl _ (by simp only [Act.put, List.setIfInBounds_toArray, List.set_cons_zero, List.set_cons_succ]; first | done | exact rfl) ?_
      refine held_take (i := 2) rfl (by kernel_rfl) (by kernel_rfl) (by kernel_rfl) (fun _ _ _ h => h) (yif_load1 rfl _ _ rfl _ _ rfl _ (fun _ h => h.2) one_u64 _ rfl) hM (some 20) rfl _ (by simp only [Act.put, List.setIfInBounds_toArray, List.set_cons_zero, List.set_cons_succ]; first | done | exact rfl) ?_
      refine wpAnyH_all (rs := [3]) (by kernel_rfl) (by simp) ?_
      refine AllReadyH.cons rfl (fun K hK => ?_) AllReadyH.nil
      · refine stp_store hS 1 rfl _ _ _ rfl _ _ rfl _ rfl _ rfl _ siz_rmem (by exact rfl) (by exact rfl) (by exact rfl) rfl ?_
        clear hS hM
        intro _ hS
        dsimp only [blit, List.set] at hS
        refine hK.out _ _ ⟨hS.get 2 rfl, hS.get 3 rfl⟩ (fun hM => ?_)
        clear hK
        refine held_take (i := 4) rfl (by kernel_rfl) (by kernel_rfl) (by kernel_rfl) (fun _ _ _ h => h) (yif_moveI rfl _ (.inr rfl) _ _ rfl) hM (some 7) rfl _ (by simp only [Act.put, List.setIfInBounds_toArray, List.set_cons_zero, List.set_cons_succ]; first | done | exact rfl) ?_
        refine wpAnyH_done (by kernel_rfl) ?_ _
        clear hM
        try simp only [Act.put, List.setIfInBounds_toArray, List.set_cons_zero, List.set_cons_succ]
        go_wp2
        have hZ := hS.get 1 rfl
        refine bodyPost_ret (v := .tuple #[.agg #[.int .i64 c.t, .int .i64 c.s, .int .i64 c.k, .int .i64 c.g, .int .u64 c.q, .slice sv c.n cap, .int .i64 M.cnt, .int .i64 M.l.kind, .int .i64 M.l.a, .int .i64 M.l.b, .int .u64 (M.l.old : Nat), .int .u64 (M.l.new : Nat), .bool M.l.done], .int .u64 (M.l.old : Nat)]) (by simp [results, Tryz.results48, go_sem, hZ.cell 0 _ rfl, hZ.cell 1 _ rfl, hZ.cell 2 _ rfl, hZ.cell 3 _ rfl, hZ.cell 4 _ rfl, hZ.cell 5 _ rfl, hZ.cell 6 _ rfl, hZ.cell 7 _ rfl, hZ.cell 8 _ rfl, hZ.cell 9 _ rfl, hZ.cell 10 _ rfl, hZ.cell 11 _ rfl, hZ.cell 12 _ rfl]) rfl ?_
        exact ⟨_, rfl, (h3.low.below hS.bel).is hS.bel.size, .inl rfl, hS.bel⟩
    · dsimp only [List.cons_append, List.nil_append, List.append_nil] at hS
      go_wp2_with fail
      refine wp_region_held (S := fun q => BlkAt q bA [.int .i64 c.t, .int .i64 c.s, .int .i64 c.k, .int .i64 c.g, .int .u64 c.q, .slice (some ⟨g', 0, none⟩) c.n cg, .int .i64 M.cnt, .int .i64 M.l.kind, .int .i64 M.l.a, .int .i64 M.l.b, .int .u64 (M.l.old : Nat), .int .u64 (M.l.new : Nat), .bool M.l.done] ∧ BlkAt q bT [.int .i64 M.l.kind, .int .i64 M.l.a, .int .i64 M.l.b, .int .u64 (M.l.old : Nat), .int .u64 (M.l.new : Nat), .bool M.l.done]) (by kernel_rfl) ?_
      show wpAnyH Tryz.prog .any _ _ _ 5 _ _ (World.drew w')
      replace hS := hS.drew
      have hM : BlkAt (World.drew w') bA [.int .i64 c.t, .int .i64 c.s, .int .i64 c.k, .int .i64 c.g, .int .u64 c.q, .slice (some ⟨g', 0, none⟩) c.n cg, .int .i64 M.cnt, .int .i64 M.l.kind, .int .i64 M.l.a, .int .i64 M.l.b, .int .u64 (M.l.old : Nat), .int .u64 (M.l.new : Nat), .bool M.l.done] ∧ BlkAt (World.drew w') bT [.int .i64 M.l.kind, .int .i64 M.l.a, .int .i64 M.l.b, .int .u64 (M.l.old : Nat), .int .u64 (M.l.new : Nat), .bool M.l.done] := ⟨hS.get 3 rfl, hS.get 4 rfl⟩
      refine held_take (i := 0) rfl (by kernel_rfl) (by kernel_rfl) (by kernel_rfl) (fun _ _ _ h => h) (yif_load rfl _ _ rfl _ _ rfl _ (fun _ h => h.1) _ row_rmem (by exact rfl) _ (by dsimp only [cutL, List.drop, List.take]; first | done | exact rfl)) hM (some 18) rfl _ (by simp only [Act.put, List.setIfInBounds_toArray, List.set_cons_zero, List.set_cons_succ]; first | done | exact rfl) ?_
      refine held_take (i := 1) rfl (by kernel_rfl) (by kernel_rfl) (by kernel_rfl) (fun _ _ _ h => h) (yif_by rfl _ (fun w => by go_simp; first | done | exact rfl)) hM (some 19) rfl _ (by simp only [Act.put, List.setIfInBounds_toArray, List.set_cons_zero, List.set_cons_succ]; first | done | exact rfl) ?_
      refine held_take (i := 2) rfl (by kernel_rfl) (by kernel_rfl) (by kernel_rfl) (fun _ _ _ h => h) (yif_load1 rfl _ _ rfl _ _ rfl _ (fun _ h => h.2) one_u64 _ rfl) hM (some 20) rfl _ (by simp only [Act.put, List.setIfInBounds_toArray, List.set_cons_zero, List.set_cons_succ]; first | done | exact rfl) ?_
      refine wpAnyH_all (rs := [3]) (by kernel_rfl) (by simp) ?_
      refine AllReadyH.cons rfl (fun K hK => ?_) AllReadyH.nil
      · refine stp_store hS 1 rfl _ _ _ rfl _ _ rfl _ rfl _ rfl _ siz_rmem (by exact rfl) (by exact rfl) (by exact rfl) rfl ?_
        clear hS hM
        intro _ hS
        dsimp only [blit, List.set] at hS
        refine hK.out _ _ ⟨hS.get 3 rfl, hS.get 4 rfl⟩ (fun hM => ?_)
        clear hK
        refine held_take (i := 4) rfl (by kernel_rfl) (by kernel_rfl) (by kernel_rfl) (fun _ _ _ h => h) (yif_moveI rfl _ (.inr rfl) _ _ rfl) hM (some 7) rfl _ (by simp only [Act.put, List.setIfInBounds_toArray, List.set_cons_zero, List.set_cons_succ]; first | done | exact rfl) ?_
        refine wpAnyH_done (by kernel_rfl) ?_ _
        clear hM
        try simp only [Act.put, List.setIfInBounds_toArray, List.set_cons_zero, List.set_cons_succ]
        go_wp2
        have hZ := hS.get 1 rfl
        refine bodyPost_ret (v := .tuple #[.agg #[.int .i64 c.t, .int .i64 c.s, .int .i64 c.k, .int .i64 c.g, .int .u64 c.q, .slice (some ⟨g', 0, none⟩) c.n cg, .int .i64 M.cnt, .int .i64 M.l.kind, .int .i64 M.l.a, .int .i64 M.l.b, .int .u64 (M.l.old : Nat), .int .u64 (M.l.new : Nat), .bool M.l.done], .int .u64 (M.l.old : Nat)]) (by simp [results, Tryz.results48, go_sem, hZ.cell 0 _ rfl, hZ.cell 1 _ rfl, hZ.cell 2 _ rfl, hZ.cell 3 _ rfl, hZ.cell 4 _ rfl, hZ.cell 5 _ rfl, hZ.cell 6 _ rfl, hZ.cell 7 _ rfl, hZ.cell 8 _ rfl, hZ.cell 9 _ rfl, hZ.cell 10 _ rfl, hZ.cell 11 _ rfl, hZ.cell 12 _ rfl]) rfl ?_
        exact ⟨_, rfl, .inr ⟨g', 0, cg, rfl, hn0, hc1, hc2, (hS.get 2 rfl).lt, fun j hj => ⟨by rw [Nat.zero_add]; exact (hS.get 2 rfl).cell j _ (rowW_get _ c.n j hj), (unhide HWD) j hj⟩⟩, .inr ⟨g', cg, rfl, hS.low (g', _) (List.mem_of_getElem? (i := 2) rfl), hc1, hc2, hS.get 2 rfl⟩, hS.bel⟩
end
end Go.Proofs.YtapgghciieloaaaGreat
