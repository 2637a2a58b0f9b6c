/-
  Texts that the laws stand on, merged (StoreV, StoreV3).
-/
import Derived.Test.YtapgghciieloaaaGreatQ5

namespace Go.Proofs.YtapgghciieloaaaGreat
section
set_option maxRecDepth 100000
open Go.RowKit Go.Sort
set_option maxHeartbeats 4000000 in
theorem rTouch_2b (c : Um.Cf) (g off cap0 : Nat) (cnt : Int) (l : Um.Tch) (a b : Int) (o x p z : Nat) (ws : Nat → Nat) (w : World) (hp : c.cl a b = p) (hpn : p < c.n) (hv : IsWords w (.slice (some ⟨g, off, none⟩) c.n cap0) c.n ws) (hz : ws p = z) (hx : Um.Word x) (he : x ≠ z) :
    Calls Tryz.prog 90 #[.agg #[.int .i64 c.t, .int .i64 c.s, .int .i64 c.k, .int .i64 c.g, .int .u64 c.q, .slice (some ⟨g, off, none⟩) c.n cap0, .int .i64 cnt, .int .i64 l.kind, .int .i64 l.a, .int .i64 l.b, .int .u64 l.old, .int .u64 l.new, .bool l.done], .int .i64 2, (.agg #[.int .i64 a, .int .i64 b]), .int .u64 (o : Nat), .int .u64 (x : Nat)] w fun e W' =>
      ∃ v', e = .returned (.tuple #[(.agg #[.int .i64 (c.t), .int .i64 (c.s), .int .i64 (c.k), .int .i64 (c.g), .int .u64 (c.q : Int), v', .int .i64 (Um.nextI cnt), .int .i64 2, .int .i64 a, .int .i64 b, .int .u64 (z : Nat), .int .u64 (x : Nat), .bool true]), (.agg #[.int .i64 2, .int .i64 a, .int .i64 b, .int .u64 (z : Nat), .int .u64 (x : Nat), .bool true])]) ∧ IsWords W' v' c.n (Um.putW ws p x) ∧ (v' = .slice (some ⟨g, off, none⟩) c.n cap0 ∨ RFresh w W' v' c.n (Um.putW ws p x)) ∧ Below w.heap.size w W' := by
  have hn0 : 0 < c.n := by omega
  have hb8 : c.n * 8 ≤ 140737488355328 := by have := c.n_le; omega
  have hcell : ∀ j, j < c.n → w.cell? ⟨g, off + j, none⟩ = some (.int .u64 (ws j)) ∧ Um.Word (ws j) := fun j hj => ⟨words_cell hv j hj, words_word hv j hj⟩
  have HX := hide hcell
  have hword : w.cell? ⟨g, off + p, none⟩ = some (.int .u64 (z : Nat)) := hz ▸ words_cell hv p hpn
  have hg : g < w.heap.size := words_lt hv (by omega)
  have hpi : (p : Int) < (c.n : Int) := by omega
  have hq1 : ¬ ((x : Int) = (z : Int)) := by omega
  have hq2 : ((x : Int) != (z : Int)) = true := by simp; omega
  clear he
  clear hv hz hcell
  have hcl := fun w => rCell_any c.t c.s c.k c.g c.q a b w
  rw [show Um.cellN (Um.rt c.t c.s c.k c.g c.q) c.t c.s c.k a b = p from hp] at hcl
  clear hp
  have hS := St.new w
  go_enter Tryz.func90, Tryz.ntmps90
  go_wp2_with (first | (refine wpl_box hS rfl _ _ rfl _ rfl _ (by intro _; simp only [Act.put, List.setIfInBounds_toArray, List.set_cons_zero, List.set_cons_succ]; first | done | exact rfl) ?_; clear hS; intro _ _ hS; dsimp only [blit, List.set, List.cons_append, List.nil_append, Value.cells, List.toList_toArray] at hS) | (refine wpl_alloc hS rfl _ rfl _ (zer_any rfl) _ (by intro _; simp only [Act.put, List.setIfInBounds_toArray, List.set_cons_zero, List.set_cons_succ]; first | done | exact rfl) ?_; clear hS; intro _ _ hS; dsimp only [blit, List.set, List.cons_append, List.nil_append, Value.cells, List.toList_toArray] at hS) | (refine wpl_ld hS rfl _ _ rfl _ _ rfl ?_; (first | refine ⟨0, _, rfl, ?_⟩ | refine ⟨1, _, rfl, ?_⟩ | refine ⟨2, _, rfl, ?_⟩ | refine ⟨3, _, rfl, ?_⟩ | refine ⟨4, _, rfl, ?_⟩ | refine ⟨5, _, rfl, ?_⟩ | refine ⟨6, _, rfl, ?_⟩ | refine ⟨7, _, rfl, ?_⟩ | refine ⟨8, _, rfl, ?_⟩ | refine ⟨9, _, rfl, ?_⟩); first | refine .inl ⟨_, one_any rfl, rfl, _, (by simp only [Act.put, List.setIfInBounds_toArray, List.set_cons_zero, List.set_cons_succ]; first | done | exact rfl), ?_⟩ | refine .inr ⟨_, _, row_any rfl, rfl, (by dsimp only [cutL, List.drop, List.take]; first | done | exact rfl), _, (by simp only [Act.put, List.setIfInBounds_toArray, List.set_cons_zero, List.set_cons_succ]; first | done | exact rfl), ?_⟩) | (refine wpl_st hS rfl _ _ _ rfl rfl _ _ rfl ?_; (first | refine ⟨0, _, rfl, ?_⟩ | refine ⟨1, _, rfl, ?_⟩ | refine ⟨2, _, rfl, ?_⟩ | refine ⟨3, _, rfl, ?_⟩ | refine ⟨4, _, rfl, ?_⟩ | refine ⟨5, _, rfl, ?_⟩ | refine ⟨6, _, rfl, ?_⟩ | refine ⟨7, _, rfl, ?_⟩ | refine ⟨8, _, rfl, ?_⟩ | refine ⟨9, _, rfl, ?_⟩); refine ⟨_, (by first | exact shA rfl | exact shI rfl | exact shB rfl | exact shS rfl | exact shP rfl | exact shF rfl | exact shN rfl), _, siz_any rfl, (by exact rfl), (by exact rfl), (by exact rfl), ?_⟩; clear hS; intro _ hS; dsimp only [blit, List.set, List.cons_append, List.nil_append, Value.cells, List.toList_toArray] at hS))
  rename_i M _ S _ R _ Q _ T _ _ O _ _ _ _ _ _
  refine (hcl _).mono ?_
  rintro e u1 ⟨rfl, hb⟩
  replace hS := hS.call hb
  clear hb hcl
  have hw1 := (hS.bel.cell (p := ⟨g, off + p, none⟩) hg).trans hword
  clear hword
  go_wp2_with (first | (refine wpl_empty hS rfl rfl ?_; clear hS; intro _ _ hS) | (refine wpl_clone hS rfl _ _ rfl _ rfl _ _ _ _ rfl ws (fun j hj => (hS.bel.cell (p := ⟨g, off + j, none⟩) hg).trans ((unhide HX) j hj).1) hn0 hb8 ?_; clear hS; intro g' cg w' hS hc1 hc2; dsimp only [List.cons_append, List.nil_append] at hS) | (refine wpl_storeW hS 6 rfl _ _ rfl rfl _ _ rfl _ _ rfl hpn _ rfl ?_; clear hS; intro _ hS; dsimp only [List.set] at hS) | (first | (refine wpl_box hS rfl _ _ rfl _ rfl _ (by intro _; simp only [Act.put, List.setIfInBounds_toArray, List.set_cons_zero, List.set_cons_succ]; first | done | exact rfl) ?_; clear hS; intro _ _ hS; dsimp only [blit, List.set, List.cons_append, List.nil_append, Value.cells, List.toList_toArray] at hS) | (refine wpl_alloc hS rfl _ rfl _ (zer_any rfl) _ (by intro _; simp only [Act.put, List.setIfInBounds_toArray, List.set_cons_zero, List.set_cons_succ]; first | done | exact rfl) ?_; clear hS; intro _ _ hS; dsimp only [blit, List.set, List.cons_append, List.nil_append, Value.cells, List.toList_toArray] at hS) | (refine wpl_ld hS rfl _ _ rfl _ _ rfl ?_; (first | refine ⟨0, _, rfl, ?_⟩ | refine ⟨1, _, rfl, ?_⟩ | refine ⟨2, _, rfl, ?_⟩ | refine ⟨3, _, rfl, ?_⟩ | refine ⟨4, _, rfl, ?_⟩ | refine ⟨5, _, rfl, ?_⟩ | refine ⟨6, _, rfl, ?_⟩ | refine ⟨7, _, rfl, ?_⟩ | refine ⟨8, _, rfl, ?_⟩ | refine ⟨9, _, rfl, ?_⟩); first | refine .inl ⟨_, one_any rfl, rfl, _, (by simp only [Act.put, List.setIfInBounds_toArray, List.set_cons_zero, List.set_cons_succ]; first | done | exact rfl), ?_⟩ | refine .inr ⟨_, _, row_any rfl, rfl, (by dsimp only [cutL, List.drop, List.take]; first | done | exact rfl), _, (by simp only [Act.put, List.setIfInBounds_toArray, List.set_cons_zero, List.set_cons_succ]; first | done | exact rfl), ?_⟩) | (refine wpl_st hS rfl _ _ _ rfl rfl _ _ rfl ?_; (first | refine ⟨0, _, rfl, ?_⟩ | refine ⟨1, _, rfl, ?_⟩ | refine ⟨2, _, rfl, ?_⟩ | refine ⟨3, _, rfl, ?_⟩ | refine ⟨4, _, rfl, ?_⟩ | refine ⟨5, _, rfl, ?_⟩ | refine ⟨6, _, rfl, ?_⟩ | refine ⟨7, _, rfl, ?_⟩ | refine ⟨8, _, rfl, ?_⟩ | refine ⟨9, _, rfl, ?_⟩); refine ⟨_, (by first | exact shA rfl | exact shI rfl | exact shB rfl | exact shS rfl | exact shP rfl | exact shF rfl | exact shN rfl), _, siz_any rfl, (by exact rfl), (by exact rfl), (by exact rfl), ?_⟩; clear hS; intro _ hS; dsimp only [blit, List.set, List.cons_append, List.nil_append, Value.cells, List.toList_toArray] at hS)))
  rename_i X _ _
  have OB := hide (hS.get 5 rfl)
  have TB := hide (hS.get 4 rfl)
  have RB := hide (hS.get 2 rfl)
  have QB := hide (hS.get 3 rfl)
  have GB := hide (hS.get 6 rfl)
  have nRQ := hS.ne 2 3 rfl rfl (by decide)
  have nQR := Ne.symm nRQ
  have nTR := hS.ne 4 2 rfl rfl (by decide)
  have nTQ := hS.ne 4 3 rfl rfl (by decide)
  have nOR := hS.ne 5 2 rfl rfl (by decide)
  have nOQ := hS.ne 5 3 rfl rfl (by decide)
  have nRT := Ne.symm nTR
  have nRO := Ne.symm nOR
  have nQT := Ne.symm nTQ
  have nQO := Ne.symm nOQ
  have nGR := hS.ne 6 2 rfl rfl (by decide)
  have nGQ := hS.ne 6 3 rfl rfl (by decide)
  have lR := hS.low (R, _) (List.mem_of_getElem? (i := 2) rfl)
  have lQ := hS.low (Q, _) (List.mem_of_getElem? (i := 3) rfl)
  have lG := hS.low (g', _) (List.mem_of_getElem? (i := 6) rfl)
  have hBX := hS.bel
  clear hS hw1
  have t0 := (unhide TB).cell 0 _ rfl
  have t1 := (unhide TB).cell 1 _ rfl
  have t2 := (unhide TB).cell 2 _ rfl
  have t3 := (unhide TB).cell 3 _ rfl
  have t4 := (unhide TB).cell 4 _ rfl
  have t5 := (unhide TB).cell 5 _ rfl
  have o0 := (unhide OB).cell 0 _ rfl
  have o1 := (unhide OB).cell 1 _ rfl
  have o2 := (unhide OB).cell 2 _ rfl
  have o3 := (unhide OB).cell 3 _ rfl
  have o4 := (unhide OB).cell 4 _ rfl
  have o5 := (unhide OB).cell 5 _ rfl
  have o6 := (unhide OB).cell 6 _ rfl
  have o7 := (unhide OB).cell 7 _ rfl
  have o8 := (unhide OB).cell 8 _ rfl
  have o9 := (unhide OB).cell 9 _ rfl
  have o10 := (unhide OB).cell 10 _ rfl
  have o11 := (unhide OB).cell 11 _ rfl
  have o12 := (unhide OB).cell 12 _ rfl
  have r0 := (unhide RB).cell 0 _ rfl
  have rz0 := (unhide RB).fz 0
  have r1 := (unhide RB).cell 1 _ rfl
  have rz1 := (unhide RB).fz 1
  have r2 := (unhide RB).cell 2 _ rfl
  have rz2 := (unhide RB).fz 2
  have r3 := (unhide RB).cell 3 _ rfl
  have rz3 := (unhide RB).fz 3
  have r4 := (unhide RB).cell 4 _ rfl
  have rz4 := (unhide RB).fz 4
  have r5 := (unhide RB).cell 5 _ rfl
  have rz5 := (unhide RB).fz 5
  have r6 := (unhide RB).cell 6 _ rfl
  have rz6 := (unhide RB).fz 6
  have r7 := (unhide RB).cell 7 _ rfl
  have rz7 := (unhide RB).fz 7
  have r8 := (unhide RB).cell 8 _ rfl
  have rz8 := (unhide RB).fz 8
  have r9 := (unhide RB).cell 9 _ rfl
  have rz9 := (unhide RB).fz 9
  have r10 := (unhide RB).cell 10 _ rfl
  have rz10 := (unhide RB).fz 10
  have r11 := (unhide RB).cell 11 _ rfl
  have rz11 := (unhide RB).fz 11
  have r12 := (unhide RB).cell 12 _ rfl
  have rz12 := (unhide RB).fz 12
  have q0 := (unhide QB).cell 0 _ rfl
  have qz0 := (unhide QB).fz 0
  have q1 := (unhide QB).cell 1 _ rfl
  have qz1 := (unhide QB).fz 1
  have q2 := (unhide QB).cell 2 _ rfl
  have qz2 := (unhide QB).fz 2
  have q3 := (unhide QB).cell 3 _ rfl
  have qz3 := (unhide QB).fz 3
  have q4 := (unhide QB).cell 4 _ rfl
  have qz4 := (unhide QB).fz 4
  have q5 := (unhide QB).cell 5 _ rfl
  have qz5 := (unhide QB).fz 5
  go_region
  all_goals
    have RB2 := (((((((((((((((((((((unhide RB).put 0 (.int .i64 c.t)).put 1 (.int .i64 c.s)).put 2 (.int .i64 c.k)).put 3 (.int .i64 c.g)).put 4 (.int .u64 c.q)).put 5 (.slice (some ⟨g', 0, none⟩) c.n cg)).put 6 (.int .i64 (wrap64 (cnt + 1)))).put 7 (.int .i64 2)).put 8 (.int .i64 a)).put 9 (.int .i64 b)).put 10 (.int .u64 (z : Nat))).put 11 (.int .u64 (x : Nat))).put 12 (.bool true)).set (p := ⟨Q, 0, none⟩) (u := .int .i64 2) nQR).set (p := ⟨Q, 1, none⟩) (u := .int .i64 a) nQR).set (p := ⟨Q, 2, none⟩) (u := .int .i64 b) nQR).set (p := ⟨Q, 3, none⟩) (u := .int .u64 (z : Nat)) nQR).set (p := ⟨Q, 4, none⟩) (u := .int .u64 (x : Nat)) nQR).set (p := ⟨Q, 5, none⟩) (u := .bool true) nQR)).drew
    have QB2 := (((((((((((((((((((((unhide QB).set (p := ⟨R, 0, none⟩) (u := .int .i64 c.t) nRQ).set (p := ⟨R, 1, none⟩) (u := .int .i64 c.s) nRQ).set (p := ⟨R, 2, none⟩) (u := .int .i64 c.k) nRQ).set (p := ⟨R, 3, none⟩) (u := .int .i64 c.g) nRQ).set (p := ⟨R, 4, none⟩) (u := .int .u64 c.q) nRQ).set (p := ⟨R, 5, none⟩) (u := .slice (some ⟨g', 0, none⟩) c.n cg) nRQ).set (p := ⟨R, 6, none⟩) (u := .int .i64 (wrap64 (cnt + 1))) nRQ).set (p := ⟨R, 7, none⟩) (u := .int .i64 2) nRQ).set (p := ⟨R, 8, none⟩) (u := .int .i64 a) nRQ).set (p := ⟨R, 9, none⟩) (u := .int .i64 b) nRQ).set (p := ⟨R, 10, none⟩) (u := .int .u64 (z : Nat)) nRQ).set (p := ⟨R, 11, none⟩) (u := .int .u64 (x : Nat)) nRQ).set (p := ⟨R, 12, none⟩) (u := .bool true) nRQ).put 0 (.int .i64 2)).put 1 (.int .i64 a)).put 2 (.int .i64 b)).put 3 (.int .u64 (z : Nat))).put 4 (.int .u64 (x : Nat))).put 5 (.bool true))).drew
    have hOf := ((((((((((((((((((((Off.refl R Q X).set (p := ⟨R, 0, none⟩) (.inl rfl) (.int .i64 c.t)).set (p := ⟨R, 1, none⟩) (.inl rfl) (.int .i64 c.s)).set (p := ⟨R, 2, none⟩) (.inl rfl) (.int .i64 c.k)).set (p := ⟨R, 3, none⟩) (.inl rfl) (.int .i64 c.g)).set (p := ⟨R, 4, none⟩) (.inl rfl) (.int .u64 c.q)).set (p := ⟨R, 5, none⟩) (.inl rfl) (.slice (some ⟨g', 0, none⟩) c.n cg)).set (p := ⟨R, 6, none⟩) (.inl rfl) (.int .i64 (wrap64 (cnt + 1)))).set (p := ⟨R, 7, none⟩) (.inl rfl) (.int .i64 2)).set (p := ⟨R, 8, none⟩) (.inl rfl) (.int .i64 a)).set (p := ⟨R, 9, none⟩) (.inl rfl) (.int .i64 b)).set (p := ⟨R, 10, none⟩) (.inl rfl) (.int .u64 (z : Nat))).set (p := ⟨R, 11, none⟩) (.inl rfl) (.int .u64 (x : Nat))).set (p := ⟨R, 12, none⟩) (.inl rfl) (.bool true)).set (p := ⟨Q, 0, none⟩) (.inr (.inl rfl)) (.int .i64 2)).set (p := ⟨Q, 1, none⟩) (.inr (.inl rfl)) (.int .i64 a)).set (p := ⟨Q, 2, none⟩) (.inr (.inl rfl)) (.int .i64 b)).set (p := ⟨Q, 3, none⟩) (.inr (.inl rfl)) (.int .u64 (z : Nat))).set (p := ⟨Q, 4, none⟩) (.inr (.inl rfl)) (.int .u64 (x : Nat))).set (p := ⟨Q, 5, none⟩) (.inr (.inl rfl)) (.bool true)).drew
    simp only [List.set] at RB2 QB2
    have RH := hide RB2
    have QH := hide QB2
    have HOf := hide hOf
    clear RB2 QB2 hOf t0 t1 t2 t3 t4 t5 o0 o1 o2 o3 o4 o5 o6 o7 o8 o9 o10 o11 o12 r0 rz0 r1 rz1 r2 rz2 r3 rz3 r4 rz4 r5 rz5 r6 rz6 r7 rz7 r8 rz8 r9 rz9 r10 rz10 r11 rz11 r12 rz12 q0 qz0 q1 qz1 q2 qz2 q3 qz3 q4 qz4 q5 qz5
    go_wp2
    have RB2 := unhide RH
    have QB2 := unhide QH
    have hOf := unhide HOf
    generalize World.drew _ = Wf at RB2 QB2 hOf ⊢
    refine bodyPost_ret (v := .tuple #[.agg #[.int .i64 c.t, .int .i64 c.s, .int .i64 c.k, .int .i64 c.g, .int .u64 c.q, .slice (some ⟨g', 0, none⟩) c.n cg, .int .i64 (wrap64 (cnt + 1)), .int .i64 2, .int .i64 a, .int .i64 b, .int .u64 (z : Nat), .int .u64 (x : Nat), .bool true], .agg #[.int .i64 2, .int .i64 a, .int .i64 b, .int .u64 (z : Nat), .int .u64 (x : Nat), .bool true]]) (by simp [results, Tryz.results90, go_sem, RB2.cell 0 _ rfl, RB2.cell 1 _ rfl, RB2.cell 2 _ rfl, RB2.cell 3 _ rfl, RB2.cell 4 _ rfl, RB2.cell 5 _ rfl, RB2.cell 6 _ rfl, RB2.cell 7 _ rfl, RB2.cell 8 _ rfl, RB2.cell 9 _ rfl, RB2.cell 10 _ rfl, RB2.cell 11 _ rfl, RB2.cell 12 _ rfl, QB2.cell 0 _ rfl, QB2.cell 1 _ rfl, QB2.cell 2 _ rfl, QB2.cell 3 _ rfl, QB2.cell 4 _ rfl, QB2.cell 5 _ rfl]) rfl ?_
    have hGf := (unhide GB).off hOf nGR nGQ
    refine ⟨.slice (some ⟨g', 0, none⟩) c.n cg, by rw [next_eq], .inr ⟨g', 0, cg, rfl, hn0, hc1, hc2, hGf.lt, fun j hj => ⟨by rw [Nat.zero_add]; exact hGf.cell j _ (rowW_get _ c.n j hj), Um.word_putW (fun j hj => ((unhide HX) j hj).2) hx j hj⟩⟩, .inr ⟨g', cg, rfl, lG, hc1, hc2, hGf⟩, hBX.trans (hOf.below hBX.size lR lQ)⟩
end
section
set_option maxRecDepth 100000
open Go.RowKit Go.Sort
set_option maxHeartbeats 4000000 in
theorem rTouch_3c (c : Um.Cf) (g off cap0 : Nat) (cnt : Int) (l : Um.Tch) (a b : Int) (o x p z : Nat) (ws : Nat → Nat) (w : World) (hp : c.cl a b = p) (hpn : p < c.n) (hv : IsWords w (.slice (some ⟨g, off, none⟩) c.n cap0) c.n ws) (hz : ws p = z) (hx : Um.Word x) (he : x ≠ z) (ho : o = z) :
    Calls Tryz.prog 90 #[.agg #[.int .i64 c.t, .int .i64 c.s, .int .i64 c.k, .int .i64 c.g, .int .u64 c.q, .slice (some ⟨g, off, none⟩) c.n cap0, .int .i64 cnt, .int .i64 l.kind, .int .i64 l.a, .int .i64 l.b, .int .u64 l.old, .int .u64 l.new, .bool l.done], .int .i64 3, (.agg #[.int .i64 a, .int .i64 b]), .int .u64 (o : Nat), .int .u64 (x : Nat)] w fun e W' =>
      ∃ v', e = .returned (.tuple #[(.agg #[.int .i64 (c.t), .int .i64 (c.s), .int .i64 (c.k), .int .i64 (c.g), .int .u64 (c.q : Int), v', .int .i64 (Um.nextI cnt), .int .i64 3, .int .i64 a, .int .i64 b, .int .u64 (z : Nat), .int .u64 (x : Nat), .bool true]), (.agg #[.int .i64 3, .int .i64 a, .int .i64 b, .int .u64 (z : Nat), .int .u64 (x : Nat), .bool true])]) ∧ IsWords W' v' c.n (Um.putW ws p x) ∧ (v' = .slice (some ⟨g, off, none⟩) c.n cap0 ∨ RFresh w W' v' c.n (Um.putW ws p x)) ∧ Below w.heap.size w W' := by
  have hn0 : 0 < c.n := by omega
  have hb8 : c.n * 8 ≤ 140737488355328 := by have := c.n_le; omega
  have hcell : ∀ j, j < c.n → w.cell? ⟨g, off + j, none⟩ = some (.int .u64 (ws j)) ∧ Um.Word (ws j) := fun j hj => ⟨words_cell hv j hj, words_word hv j hj⟩
  have HX := hide hcell
  have hword : w.cell? ⟨g, off + p, none⟩ = some (.int .u64 (z : Nat)) := hz ▸ words_cell hv p hpn
  have hg : g < w.heap.size := words_lt hv (by omega)
  have hpi : (p : Int) < (c.n : Int) := by omega
  have ho' := ho.symm
  clear ho
  subst ho'
  have hq1 : ¬ ((x : Int) = (z : Int)) := by omega
  have hq2 : ((x : Int) != (z : Int)) = true := by simp; omega
  clear he
  clear hv hz hcell
  have hcl := fun w => rCell_any c.t c.s c.k c.g c.q a b w
  rw [show Um.cellN (Um.rt c.t c.s c.k c.g c.q) c.t c.s c.k a b = p from hp] at hcl
  clear hp
  have hS := St.new w
  go_enter Tryz.func90, Tryz.ntmps90
  go_wp2_with (first | (refine wpl_box hS rfl _ _ rfl _ rfl _ (by intro _; simp only [Act.put, List.setIfInBounds_toArray, List.set_cons_zero, List.set_cons_succ]; first | done | exact rfl) ?_; clear hS; intro _ _ hS; dsimp only [blit, List.set, List.cons_append, List.nil_append, Value.cells, List.toList_toArray] at hS) | (refine wpl_alloc hS rfl _ rfl _ (zer_any rfl) _ (by intro _; simp only [Act.put, List.setIfInBounds_toArray, List.set_cons_zero, List.set_cons_succ]; first | done | exact rfl) ?_; clear hS; intro _ _ hS; dsimp only [blit, List.set, List.cons_append, List.nil_append, Value.cells, List.toList_toArray] at hS) | (refine wpl_ld hS rfl _ _ rfl _ _ rfl ?_; (first | refine ⟨0, _, rfl, ?_⟩ | refine ⟨1, _, rfl, ?_⟩ | refine ⟨2, _, rfl, ?_⟩ | refine ⟨3, _, rfl, ?_⟩ | refine ⟨4, _, rfl, ?_⟩ | refine ⟨5, _, rfl, ?_⟩ | refine ⟨6, _, rfl, ?_⟩ | refine ⟨7, _, rfl, ?_⟩ | refine ⟨8, _, rfl, ?_⟩ | refine ⟨9, _, rfl, ?_⟩); first | refine .inl ⟨_, one_any rfl, rfl, _, (by simp only [Act.put, List.setIfInBounds_toArray, List.set_cons_zero, List.set_cons_succ]; first | done | exact rfl), ?_⟩ | refine .inr ⟨_, _, row_any rfl, rfl, (by dsimp only [cutL, List.drop, List.take]; first | done | exact rfl), _, (by simp only [Act.put, List.setIfInBounds_toArray, List.set_cons_zero, List.set_cons_succ]; first | done | exact rfl), ?_⟩) | (refine wpl_st hS rfl _ _ _ rfl rfl _ _ rfl ?_; (first | refine ⟨0, _, rfl, ?_⟩ | refine ⟨1, _, rfl, ?_⟩ | refine ⟨2, _, rfl, ?_⟩ | refine ⟨3, _, rfl, ?_⟩ | refine ⟨4, _, rfl, ?_⟩ | refine ⟨5, _, rfl, ?_⟩ | refine ⟨6, _, rfl, ?_⟩ | refine ⟨7, _, rfl, ?_⟩ | refine ⟨8, _, rfl, ?_⟩ | refine ⟨9, _, rfl, ?_⟩); refine ⟨_, (by first | exact shA rfl | exact shI rfl | exact shB rfl | exact shS rfl | exact shP rfl | exact shF rfl | exact shN rfl), _, siz_any rfl, (by exact rfl), (by exact rfl), (by exact rfl), ?_⟩; clear hS; intro _ hS; dsimp only [blit, List.set, List.cons_append, List.nil_append, Value.cells, List.toList_toArray] at hS))
  rename_i M _ S _ R _ Q _ T _ _ O _ _ _ _ _ _
  refine (hcl _).mono ?_
  rintro e u1 ⟨rfl, hb⟩
  replace hS := hS.call hb
  clear hb hcl
  have hw1 := (hS.bel.cell (p := ⟨g, off + p, none⟩) hg).trans hword
  clear hword
  go_wp2_with (first | (refine wpl_empty hS rfl rfl ?_; clear hS; intro _ _ hS) | (refine wpl_clone hS rfl _ _ rfl _ rfl _ _ _ _ rfl ws (fun j hj => (hS.bel.cell (p := ⟨g, off + j, none⟩) hg).trans ((unhide HX) j hj).1) hn0 hb8 ?_; clear hS; intro g' cg w' hS hc1 hc2; dsimp only [List.cons_append, List.nil_append] at hS) | (refine wpl_storeW hS 6 rfl _ _ rfl rfl _ _ rfl _ _ rfl hpn _ rfl ?_; clear hS; intro _ hS; dsimp only [List.set] at hS) | (first | (refine wpl_box hS rfl _ _ rfl _ rfl _ (by intro _; simp only [Act.put, List.setIfInBounds_toArray, List.set_cons_zero, List.set_cons_succ]; first | done | exact rfl) ?_; clear hS; intro _ _ hS; dsimp only [blit, List.set, List.cons_append, List.nil_append, Value.cells, List.toList_toArray] at hS) | (refine wpl_alloc hS rfl _ rfl _ (zer_any rfl) _ (by intro _; simp only [Act.put, List.setIfInBounds_toArray, List.set_cons_zero, List.set_cons_succ]; first | done | exact rfl) ?_; clear hS; intro _ _ hS; dsimp only [blit, List.set, List.cons_append, List.nil_append, Value.cells, List.toList_toArray] at hS) | (refine wpl_ld hS rfl _ _ rfl _ _ rfl ?_; (first | refine ⟨0, _, rfl, ?_⟩ | refine ⟨1, _, rfl, ?_⟩ | refine ⟨2, _, rfl, ?_⟩ | refine ⟨3, _, rfl, ?_⟩ | refine ⟨4, _, rfl, ?_⟩ | refine ⟨5, _, rfl, ?_⟩ | refine ⟨6, _, rfl, ?_⟩ | refine ⟨7, _, rfl, ?_⟩ | refine ⟨8, _, rfl, ?_⟩ | refine ⟨9, _, rfl, ?_⟩); first | refine .inl ⟨_, one_any rfl, rfl, _, (by simp only [Act.put, List.setIfInBounds_toArray, List.set_cons_zero, List.set_cons_succ]; first | done | exact rfl), ?_⟩ | refine .inr ⟨_, _, row_any rfl, rfl, (by dsimp only [cutL, List.drop, List.take]; first | done | exact rfl), _, (by simp only [Act.put, List.setIfInBounds_toArray, List.set_cons_zero, List.set_cons_succ]; first | done | exact rfl), ?_⟩) | (refine wpl_st hS rfl _ _ _ rfl rfl _ _ rfl ?_; (first | refine ⟨0, _, rfl, ?_⟩ | refine ⟨1, _, rfl, ?_⟩ | refine ⟨2, _, rfl, ?_⟩ | refine ⟨3, _, rfl, ?_⟩ | refine ⟨4, _, rfl, ?_⟩ | refine ⟨5, _, rfl, ?_⟩ | refine ⟨6, _, rfl, ?_⟩ | refine ⟨7, _, rfl, ?_⟩ | refine ⟨8, _, rfl, ?_⟩ | refine ⟨9, _, rfl, ?_⟩); refine ⟨_, (by first | exact shA rfl | exact shI rfl | exact shB rfl | exact shS rfl | exact shP rfl | exact shF rfl | exact shN rfl), _, siz_any rfl, (by exact rfl), (by exact rfl), (by exact rfl), ?_⟩; clear hS; intro _ hS; dsimp only [blit, List.set, List.cons_append, List.nil_append, Value.cells, List.toList_toArray] at hS)))
  rename_i X _ _
  have OB := hide (hS.get 5 rfl)
  have TB := hide (hS.get 4 rfl)
  have RB := hide (hS.get 2 rfl)
  have QB := hide (hS.get 3 rfl)
  have GB := hide (hS.get 6 rfl)
  have nRQ := hS.ne 2 3 rfl rfl (by decide)
  have nQR := Ne.symm nRQ
  have nTR := hS.ne 4 2 rfl rfl (by decide)
  have nTQ := hS.ne 4 3 rfl rfl (by decide)
  have nOR := hS.ne 5 2 rfl rfl (by decide)
  have nOQ := hS.ne 5 3 rfl rfl (by decide)
  have nRT := Ne.symm nTR
  have nRO := Ne.symm nOR
  have nQT := Ne.symm nTQ
  have nQO := Ne.symm nOQ
  have nGR := hS.ne 6 2 rfl rfl (by decide)
  have nGQ := hS.ne 6 3 rfl rfl (by decide)
  have lR := hS.low (R, _) (List.mem_of_getElem? (i := 2) rfl)
  have lQ := hS.low (Q, _) (List.mem_of_getElem? (i := 3) rfl)
  have lG := hS.low (g', _) (List.mem_of_getElem? (i := 6) rfl)
  have hBX := hS.bel
  clear hS hw1
  have t0 := (unhide TB).cell 0 _ rfl
  have t1 := (unhide TB).cell 1 _ rfl
  have t2 := (unhide TB).cell 2 _ rfl
  have t3 := (unhide TB).cell 3 _ rfl
  have t4 := (unhide TB).cell 4 _ rfl
  have t5 := (unhide TB).cell 5 _ rfl
  have o0 := (unhide OB).cell 0 _ rfl
  have o1 := (unhide OB).cell 1 _ rfl
  have o2 := (unhide OB).cell 2 _ rfl
  have o3 := (unhide OB).cell 3 _ rfl
  have o4 := (unhide OB).cell 4 _ rfl
  have o5 := (unhide OB).cell 5 _ rfl
  have o6 := (unhide OB).cell 6 _ rfl
  have o7 := (unhide OB).cell 7 _ rfl
  have o8 := (unhide OB).cell 8 _ rfl
  have o9 := (unhide OB).cell 9 _ rfl
  have o10 := (unhide OB).cell 10 _ rfl
  have o11 := (unhide OB).cell 11 _ rfl
  have o12 := (unhide OB).cell 12 _ rfl
  have r0 := (unhide RB).cell 0 _ rfl
  have rz0 := (unhide RB).fz 0
  have r1 := (unhide RB).cell 1 _ rfl
  have rz1 := (unhide RB).fz 1
  have r2 := (unhide RB).cell 2 _ rfl
  have rz2 := (unhide RB).fz 2
  have r3 := (unhide RB).cell 3 _ rfl
  have rz3 := (unhide RB).fz 3
  have r4 := (unhide RB).cell 4 _ rfl
  have rz4 := (unhide RB).fz 4
  have r5 := (unhide RB).cell 5 _ rfl
  have rz5 := (unhide RB).fz 5
  have r6 := (unhide RB).cell 6 _ rfl
  have rz6 := (unhide RB).fz 6
  have r7 := (unhide RB).cell 7 _ rfl
  have rz7 := (unhide RB).fz 7
  have r8 := (unhide RB).cell 8 _ rfl
  have rz8 := (unhide RB).fz 8
  have r9 := (unhide RB).cell 9 _ rfl
  have rz9 := (unhide RB).fz 9
  have r10 := (unhide RB).cell 10 _ rfl
  have rz10 := (unhide RB).fz 10
  have r11 := (unhide RB).cell 11 _ rfl
  have rz11 := (unhide RB).fz 11
  have r12 := (unhide RB).cell 12 _ rfl
  have rz12 := (unhide RB).fz 12
  have q0 := (unhide QB).cell 0 _ rfl
  have qz0 := (unhide QB).fz 0
  have q1 := (unhide QB).cell 1 _ rfl
  have qz1 := (unhide QB).fz 1
  have q2 := (unhide QB).cell 2 _ rfl
  have qz2 := (unhide QB).fz 2
  have q3 := (unhide QB).cell 3 _ rfl
  have qz3 := (unhide QB).fz 3
  have q4 := (unhide QB).cell 4 _ rfl
  have qz4 := (unhide QB).fz 4
  have q5 := (unhide QB).cell 5 _ rfl
  have qz5 := (unhide QB).fz 5
  go_region
  all_goals
    have RB2 := (((((((((((((((((((((unhide RB).put 0 (.int .i64 c.t)).put 1 (.int .i64 c.s)).put 2 (.int .i64 c.k)).put 3 (.int .i64 c.g)).put 4 (.int .u64 c.q)).put 5 (.slice (some ⟨g', 0, none⟩) c.n cg)).put 6 (.int .i64 (wrap64 (cnt + 1)))).put 7 (.int .i64 3)).put 8 (.int .i64 a)).put 9 (.int .i64 b)).put 10 (.int .u64 (z : Nat))).put 11 (.int .u64 (x : Nat))).put 12 (.bool true)).set (p := ⟨Q, 0, none⟩) (u := .int .i64 3) nQR).set (p := ⟨Q, 1, none⟩) (u := .int .i64 a) nQR).set (p := ⟨Q, 2, none⟩) (u := .int .i64 b) nQR).set (p := ⟨Q, 3, none⟩) (u := .int .u64 (z : Nat)) nQR).set (p := ⟨Q, 4, none⟩) (u := .int .u64 (x : Nat)) nQR).set (p := ⟨Q, 5, none⟩) (u := .bool true) nQR)).drew
    have QB2 := (((((((((((((((((((((unhide QB).set (p := ⟨R, 0, none⟩) (u := .int .i64 c.t) nRQ).set (p := ⟨R, 1, none⟩) (u := .int .i64 c.s) nRQ).set (p := ⟨R, 2, none⟩) (u := .int .i64 c.k) nRQ).set (p := ⟨R, 3, none⟩) (u := .int .i64 c.g) nRQ).set (p := ⟨R, 4, none⟩) (u := .int .u64 c.q) nRQ).set (p := ⟨R, 5, none⟩) (u := .slice (some ⟨g', 0, none⟩) c.n cg) nRQ).set (p := ⟨R, 6, none⟩) (u := .int .i64 (wrap64 (cnt + 1))) nRQ).set (p := ⟨R, 7, none⟩) (u := .int .i64 3) nRQ).set (p := ⟨R, 8, none⟩) (u := .int .i64 a) nRQ).set (p := ⟨R, 9, none⟩) (u := .int .i64 b) nRQ).set (p := ⟨R, 10, none⟩) (u := .int .u64 (z : Nat)) nRQ).set (p := ⟨R, 11, none⟩) (u := .int .u64 (x : Nat)) nRQ).set (p := ⟨R, 12, none⟩) (u := .bool true) nRQ).put 0 (.int .i64 3)).put 1 (.int .i64 a)).put 2 (.int .i64 b)).put 3 (.int .u64 (z : Nat))).put 4 (.int .u64 (x : Nat))).put 5 (.bool true))).drew
    have hOf := ((((((((((((((((((((Off.refl R Q X).set (p := ⟨R, 0, none⟩) (.inl rfl) (.int .i64 c.t)).set (p := ⟨R, 1, none⟩) (.inl rfl) (.int .i64 c.s)).set (p := ⟨R, 2, none⟩) (.inl rfl) (.int .i64 c.k)).set (p := ⟨R, 3, none⟩) (.inl rfl) (.int .i64 c.g)).set (p := ⟨R, 4, none⟩) (.inl rfl) (.int .u64 c.q)).set (p := ⟨R, 5, none⟩) (.inl rfl) (.slice (some ⟨g', 0, none⟩) c.n cg)).set (p := ⟨R, 6, none⟩) (.inl rfl) (.int .i64 (wrap64 (cnt + 1)))).set (p := ⟨R, 7, none⟩) (.inl rfl) (.int .i64 3)).set (p := ⟨R, 8, none⟩) (.inl rfl) (.int .i64 a)).set (p := ⟨R, 9, none⟩) (.inl rfl) (.int .i64 b)).set (p := ⟨R, 10, none⟩) (.inl rfl) (.int .u64 (z : Nat))).set (p := ⟨R, 11, none⟩) (.inl rfl) (.int .u64 (x : Nat))).set (p := ⟨R, 12, none⟩) (.inl rfl) (.bool true)).set (p := ⟨Q, 0, none⟩) (.inr (.inl rfl)) (.int .i64 3)).set (p := ⟨Q, 1, none⟩) (.inr (.inl rfl)) (.int .i64 a)).set (p := ⟨Q, 2, none⟩) (.inr (.inl rfl)) (.int .i64 b)).set (p := ⟨Q, 3, none⟩) (.inr (.inl rfl)) (.int .u64 (z : Nat))).set (p := ⟨Q, 4, none⟩) (.inr (.inl rfl)) (.int .u64 (x : Nat))).set (p := ⟨Q, 5, none⟩) (.inr (.inl rfl)) (.bool true)).drew
    simp only [List.set] at RB2 QB2
    have RH := hide RB2
    have QH := hide QB2
    have HOf := hide hOf
    clear RB2 QB2 hOf t0 t1 t2 t3 t4 t5 o0 o1 o2 o3 o4 o5 o6 o7 o8 o9 o10 o11 o12 r0 rz0 r1 rz1 r2 rz2 r3 rz3 r4 rz4 r5 rz5 r6 rz6 r7 rz7 r8 rz8 r9 rz9 r10 rz10 r11 rz11 r12 rz12 q0 qz0 q1 qz1 q2 qz2 q3 qz3 q4 qz4 q5 qz5
    go_wp2
    have RB2 := unhide RH
    have QB2 := unhide QH
    have hOf := unhide HOf
    generalize World.drew _ = Wf at RB2 QB2 hOf ⊢
    refine bodyPost_ret (v := .tuple #[.agg #[.int .i64 c.t, .int .i64 c.s, .int .i64 c.k, .int .i64 c.g, .int .u64 c.q, .slice (some ⟨g', 0, none⟩) c.n cg, .int .i64 (wrap64 (cnt + 1)), .int .i64 3, .int .i64 a, .int .i64 b, .int .u64 (z : Nat), .int .u64 (x : Nat), .bool true], .agg #[.int .i64 3, .int .i64 a, .int .i64 b, .int .u64 (z : Nat), .int .u64 (x : Nat), .bool true]]) (by simp [results, Tryz.results90, go_sem, RB2.cell 0 _ rfl, RB2.cell 1 _ rfl, RB2.cell 2 _ rfl, RB2.cell 3 _ rfl, RB2.cell 4 _ rfl, RB2.cell 5 _ rfl, RB2.cell 6 _ rfl, RB2.cell 7 _ rfl, RB2.cell 8 _ rfl, RB2.cell 9 _ rfl, RB2.cell 10 _ rfl, RB2.cell 11 _ rfl, RB2.cell 12 _ rfl, QB2.cell 0 _ rfl, QB2.cell 1 _ rfl, QB2.cell 2 _ rfl, QB2.cell 3 _ rfl, QB2.cell 4 _ rfl, QB2.cell 5 _ rfl]) rfl ?_
    have hGf := (unhide GB).off hOf nGR nGQ
    refine ⟨.slice (some ⟨g', 0, none⟩) c.n cg, by rw [next_eq], .inr ⟨g', 0, cg, rfl, hn0, hc1, hc2, hGf.lt, fun j hj => ⟨by rw [Nat.zero_add]; exact hGf.cell j _ (rowW_get _ c.n j hj), Um.word_putW (fun j hj => ((unhide HX) j hj).2) hx j hj⟩⟩, .inr ⟨g', cg, rfl, lG, hc1, hc2, hGf⟩, hBX.trans (hOf.below hBX.size lR lQ)⟩
end
end Go.Proofs.YtapgghciieloaaaGreat
