/-
  Texts that the laws stand on, merged (OpenR2, OpenR3).
-/
import Derived.Test.YtkiaogbddfjkkaaM15
import Derived.Lib.QuietBelow

/-
  The walks of the document's own beginning: look.
-/
namespace Go.Proofs.Ytkiaogbddfjkkaa
set_option maxRecDepth 100000
open Go.RowKit Go.Sort

set_option maxHeartbeats 8000000 in
theorem rStep9_0a (w : World) (c : Um.Cf) (m M : Um.Mm) (g cg : Nat) (sl : Int) (s q aw ha th tn : Nat) (an te : Int) (ad : Bool) (h3 : Um.stN M.l.old = 0) (h5 : ((Um.gnN M.l.old : Nat) : Int) ≤ c.g) (hB : BlkAt w g (rowW m.ws c.n)) (hr : c.r = true) (hw : WordsOk c m) (h1 : c.n ≤ cg) (h2 : cg ≤ maxLen) (hM : M = Um.mtouch c m 1 4 sl 0 0) :
    Calls Try.prog 15 #[.agg #[.int .i64 sl, .int .i64 0, .int .u64 (s : Nat), .int .u64 (q : Nat), .int .u64 (aw : Nat), .int .i64 an, .int .u64 (ha : Nat), .bool ad, .int .i64 te, .int .u64 (th : Nat), .int .u64 (tn : Nat), .bool false], (.agg #[.int .i64 c.t, .int .i64 c.s, .int .i64 c.k, .int .i64 c.g, .int .u64 c.q, (.slice (some ⟨g, 0, none⟩) c.n cg), .int .i64 m.cnt, .int .i64 m.l.kind, .int .i64 m.l.a, .int .i64 m.l.b, .int .u64 (m.l.old : Nat), .int .u64 (m.l.new : Nat), .bool m.l.done])] w fun r w' => ∃ g' cg', r = .returned (.tuple #[.agg #[.int .i64 sl, .int .i64 1, .int .u64 (M.l.old : Nat), .int .u64 (q : Nat), .int .u64 (aw : Nat), .int .i64 an, .int .u64 (ha : Nat), .bool ad, .int .i64 te, .int .u64 (th : Nat), .int .u64 (tn : Nat), .bool false], (.agg #[.int .i64 c.t, .int .i64 c.s, .int .i64 c.k, .int .i64 c.g, .int .u64 c.q, (.slice (some ⟨g', 0, none⟩) c.n cg'), .int .i64 M.cnt, .int .i64 M.l.kind, .int .i64 M.l.a, .int .i64 M.l.b, .int .u64 (M.l.old : Nat), .int .u64 (M.l.new : Nat), .bool M.l.done])]) ∧ c.n ≤ cg' ∧ cg' ≤ maxLen ∧ Fr w g g' ∧ WordsOk c M ∧ BlkAt w' g' (rowW M.ws c.n) ∧ Below w.heap.size w w' := by
  have hS := Sx.read1 hB
  have HOW := hide (show Um.Word M.l.old by rw [hM]; exact Um.old_word hw)
  have t1 : ((Um.stN M.l.old : Nat) : Int) = 0 := by rw [h3]; rfl
  have t2 : decide (((Um.gnN M.l.old : Nat) : Int) ≤ c.g) = true := decide_eq_true h5
  have t3 := h5
  clear h3 h5
  have HR := hide hr
  have HW := hide hw
  have HM := hide hM
  clear hB hr hw hM
  go_enter Try.func15, Try.ntmps15
  go_wp2_with (first | (refine wpx_box hS rfl _ _ rfl _ rfl _ (by intro _; simp only [Act.put, List.setIfInBounds_toArray, List.set_cons_zero, List.set_cons_succ]; first | done | exact rfl) ?_; clear hS; intro _ _ hS; dsimp only [blit, List.set, List.cons_append, List.nil_append, Value.cells, List.toList_toArray] at hS) | (refine wpx_alloc hS rfl _ rfl _ (zer_any2 rfl) _ (by intro _; simp only [Act.put, List.setIfInBounds_toArray, List.set_cons_zero, List.set_cons_succ]; first | done | exact rfl) ?_; clear hS; intro _ _ hS; dsimp only [blit, List.set, List.cons_append, List.nil_append, Value.cells, List.toList_toArray] at hS) | (refine wpx_ld hS rfl _ _ rfl _ _ rfl ?_; (first | refine ⟨0, _, rfl, ?_⟩ | refine ⟨1, _, rfl, ?_⟩ | refine ⟨2, _, rfl, ?_⟩ | refine ⟨3, _, rfl, ?_⟩ | refine ⟨4, _, rfl, ?_⟩ | refine ⟨5, _, rfl, ?_⟩ | refine ⟨6, _, rfl, ?_⟩ | refine ⟨7, _, rfl, ?_⟩ | refine ⟨8, _, rfl, ?_⟩ | refine ⟨9, _, rfl, ?_⟩); first | refine .inl ⟨_, one_any2 rfl, rfl, _, (by simp only [Act.put, List.setIfInBounds_toArray, List.set_cons_zero, List.set_cons_succ]; first | done | exact rfl), ?_⟩ | refine .inr ⟨_, _, row_any2 rfl, rfl, (by dsimp only [cutL, List.drop, List.take]; first | done | exact rfl), _, (by simp only [Act.put, List.setIfInBounds_toArray, List.set_cons_zero, List.set_cons_succ]; first | done | exact rfl), ?_⟩) | (refine wpx_st hS rfl _ _ _ rfl rfl _ _ rfl ?_; (first | refine ⟨0, _, rfl, ?_⟩ | refine ⟨1, _, rfl, ?_⟩ | refine ⟨2, _, rfl, ?_⟩ | refine ⟨3, _, rfl, ?_⟩ | refine ⟨4, _, rfl, ?_⟩ | refine ⟨5, _, rfl, ?_⟩ | refine ⟨6, _, rfl, ?_⟩ | refine ⟨7, _, rfl, ?_⟩ | refine ⟨8, _, rfl, ?_⟩ | refine ⟨9, _, rfl, ?_⟩); refine ⟨_, (by first | exact shA rfl | exact shI rfl | exact shB rfl | exact shS rfl | exact shP rfl | exact shF rfl | exact shN rfl), _, siz_any2 rfl, (by exact rfl), (by exact rfl), (by exact rfl), ?_⟩; clear hS; intro _ hS; dsimp only [blit, List.set, List.cons_append, List.nil_append, Value.cells, List.toList_toArray] at hS))
  have hSz := hS.size
  refine (rLoad_x hS 0 rfl (unhide HR) (unhide HW) h1 h2 4 sl M (unhide HM)).mono ?_
  rintro r u ⟨g', cg', rfl, q1, q2, hFr, hWn, hSn⟩
  clear hS
  have hS := hSn
  clear hSn
  dsimp only [putL, List.set, List.cons_append, List.nil_append] at hS
  have HW2 := hide hWn
  clear hWn
  go_wp2_with (first | (refine wpx_box hS rfl _ _ rfl _ rfl _ (by intro _; simp only [Act.put, List.setIfInBounds_toArray, List.set_cons_zero, List.set_cons_succ]; first | done | exact rfl) ?_; clear hS; intro _ _ hS; dsimp only [blit, List.set, List.cons_append, List.nil_append, Value.cells, List.toList_toArray] at hS) | (refine wpx_alloc hS rfl _ rfl _ (zer_any2 rfl) _ (by intro _; simp only [Act.put, List.setIfInBounds_toArray, List.set_cons_zero, List.set_cons_succ]; first | done | exact rfl) ?_; clear hS; intro _ _ hS; dsimp only [blit, List.set, List.cons_append, List.nil_append, Value.cells, List.toList_toArray] at hS) | (refine wpx_ld hS rfl _ _ rfl _ _ rfl ?_; (first | refine ⟨0, _, rfl, ?_⟩ | refine ⟨1, _, rfl, ?_⟩ | refine ⟨2, _, rfl, ?_⟩ | refine ⟨3, _, rfl, ?_⟩ | refine ⟨4, _, rfl, ?_⟩ | refine ⟨5, _, rfl, ?_⟩ | refine ⟨6, _, rfl, ?_⟩ | refine ⟨7, _, rfl, ?_⟩ | refine ⟨8, _, rfl, ?_⟩ | refine ⟨9, _, rfl, ?_⟩); first | refine .inl ⟨_, one_any2 rfl, rfl, _, (by simp only [Act.put, List.setIfInBounds_toArray, List.set_cons_zero, List.set_cons_succ]; first | done | exact rfl), ?_⟩ | refine .inr ⟨_, _, row_any2 rfl, rfl, (by dsimp only [cutL, List.drop, List.take]; first | done | exact rfl), _, (by simp only [Act.put, List.setIfInBounds_toArray, List.set_cons_zero, List.set_cons_succ]; first | done | exact rfl), ?_⟩) | (refine wpx_st hS rfl _ _ _ rfl rfl _ _ rfl ?_; (first | refine ⟨0, _, rfl, ?_⟩ | refine ⟨1, _, rfl, ?_⟩ | refine ⟨2, _, rfl, ?_⟩ | refine ⟨3, _, rfl, ?_⟩ | refine ⟨4, _, rfl, ?_⟩ | refine ⟨5, _, rfl, ?_⟩ | refine ⟨6, _, rfl, ?_⟩ | refine ⟨7, _, rfl, ?_⟩ | refine ⟨8, _, rfl, ?_⟩ | refine ⟨9, _, rfl, ?_⟩); refine ⟨_, (by first | exact shA rfl | exact shI rfl | exact shB rfl | exact shS rfl | exact shP rfl | exact shF rfl | exact shN rfl), _, siz_any2 rfl, (by exact rfl), (by exact rfl), (by exact rfl), ?_⟩; clear hS; intro _ hS; dsimp only [blit, List.set, List.cons_append, List.nil_append, Value.cells, List.toList_toArray] at hS))
  obtain ⟨u, rfl⟩ := nameW hS
  have k3 := cell_regrown ((hS.get 1 rfl).cell 3 _ rfl)
  have HSQ := hide hS
  clear hS
  refine wp_region_quiet_below (by kernel_rfl) (by kernel_rfl) ?_
  repeat (go_big_quiet_step (first | (go_at_call 21; exact Calls.regrown_of (rState_b _ _ (unhide HOW))) | (go_at_call 22; exact Calls.regrown_of (rGen_b _ _ (unhide HOW)))))
  refine wpQuiet_nil ?_
  intro _ hw'
  obtain ⟨⟨dq, osq⟩, hw''⟩ := hw'
  subst hw''
  have hS := (unhide HSQ).call (below_regrown u dq osq)
  clear HSQ k3
  generalize grow (redrawn u dq) osq = u9 at *
  go_wp2_with (first | (refine wpx_box hS rfl _ _ rfl _ rfl _ (by intro _; simp only [Act.put, List.setIfInBounds_toArray, List.set_cons_zero, List.set_cons_succ]; first | done | exact rfl) ?_; clear hS; intro _ _ hS; dsimp only [blit, List.set, List.cons_append, List.nil_append, Value.cells, List.toList_toArray] at hS) | (refine wpx_alloc hS rfl _ rfl _ (zer_any2 rfl) _ (by intro _; simp only [Act.put, List.setIfInBounds_toArray, List.set_cons_zero, List.set_cons_succ]; first | done | exact rfl) ?_; clear hS; intro _ _ hS; dsimp only [blit, List.set, List.cons_append, List.nil_append, Value.cells, List.toList_toArray] at hS) | (refine wpx_ld hS rfl _ _ rfl _ _ rfl ?_; (first | refine ⟨0, _, rfl, ?_⟩ | refine ⟨1, _, rfl, ?_⟩ | refine ⟨2, _, rfl, ?_⟩ | refine ⟨3, _, rfl, ?_⟩ | refine ⟨4, _, rfl, ?_⟩ | refine ⟨5, _, rfl, ?_⟩ | refine ⟨6, _, rfl, ?_⟩ | refine ⟨7, _, rfl, ?_⟩ | refine ⟨8, _, rfl, ?_⟩ | refine ⟨9, _, rfl, ?_⟩); first | refine .inl ⟨_, one_any2 rfl, rfl, _, (by simp only [Act.put, List.setIfInBounds_toArray, List.set_cons_zero, List.set_cons_succ]; first | done | exact rfl), ?_⟩ | refine .inr ⟨_, _, row_any2 rfl, rfl, (by dsimp only [cutL, List.drop, List.take]; first | done | exact rfl), _, (by simp only [Act.put, List.setIfInBounds_toArray, List.set_cons_zero, List.set_cons_succ]; first | done | exact rfl), ?_⟩) | (refine wpx_st hS rfl _ _ _ rfl rfl _ _ rfl ?_; (first | refine ⟨0, _, rfl, ?_⟩ | refine ⟨1, _, rfl, ?_⟩ | refine ⟨2, _, rfl, ?_⟩ | refine ⟨3, _, rfl, ?_⟩ | refine ⟨4, _, rfl, ?_⟩ | refine ⟨5, _, rfl, ?_⟩ | refine ⟨6, _, rfl, ?_⟩ | refine ⟨7, _, rfl, ?_⟩ | refine ⟨8, _, rfl, ?_⟩ | refine ⟨9, _, rfl, ?_⟩); refine ⟨_, (by first | exact shA rfl | exact shI rfl | exact shB rfl | exact shS rfl | exact shP rfl | exact shF rfl | exact shN rfl), _, siz_any2 rfl, (by exact rfl), (by exact rfl), (by exact rfl), ?_⟩; clear hS; intro _ hS; dsimp only [blit, List.set, List.cons_append, List.nil_append, Value.cells, List.toList_toArray] at hS))
  obtain ⟨OB, rfl⟩ := nameB hS 0 rfl
  obtain ⟨MB, rfl⟩ := nameB hS 1 rfl
  obtain ⟨R1, rfl⟩ := nameB hS 2 rfl
  obtain ⟨R2, rfl⟩ := nameB hS 3 rfl
  obtain ⟨NX, rfl⟩ := nameB hS 4 rfl
  refine wp_region_ogt (fun ts D ts' w' => ts' = putS ts [(45, cond (D 0) (.agg #[.int .i64 sl, .int .i64 1, .int .u64 (M.l.old : Nat), .int .u64 (q : Nat), .int .u64 (aw : Nat), .int .i64 an, .int .u64 (ha : Nat), .bool ad, .int .i64 te, .int .u64 (th : Nat), .int .u64 (tn : Nat), .bool false]) undef), (46, cond (D 1) (.agg #[.int .i64 c.t, .int .i64 c.s, .int .i64 c.k, .int .i64 c.g, .int .u64 c.q, (.slice (some ⟨g', 0, none⟩) c.n cg'), .int .i64 M.cnt, .int .i64 M.l.kind, .int .i64 M.l.a, .int .i64 M.l.b, .int .u64 (M.l.old : Nat), .int .u64 (M.l.new : Nat), .bool M.l.done]) undef)] ∧ Sx [] w w' [(OB, [.int .i64 sl, .int .i64 1, .int .u64 (M.l.old : Nat), .int .u64 (q : Nat), .int .u64 (aw : Nat), .int .i64 an, .int .u64 (ha : Nat), .bool ad, .int .i64 te, .int .u64 (th : Nat), .int .u64 (tn : Nat), .bool false]), (MB, [.int .i64 c.t, .int .i64 c.s, .int .i64 c.k, .int .i64 c.g, .int .u64 c.q, (.slice (some ⟨g, 0, none⟩) c.n cg), .int .i64 m.cnt, .int .i64 m.l.kind, .int .i64 m.l.a, .int .i64 m.l.b, .int .u64 (m.l.old : Nat), .int .u64 (m.l.new : Nat), .bool m.l.done]), (R1, cond (D 2) [.int .i64 sl, .int .i64 1, .int .u64 (M.l.old : Nat), .int .u64 (q : Nat), .int .u64 (aw : Nat), .int .i64 an, .int .u64 (ha : Nat), .bool ad, .int .i64 te, .int .u64 (th : Nat), .int .u64 (tn : Nat), .bool false] [.int .i64 0, .int .i64 0, .int .u64 0, .int .u64 0, .int .u64 0, .int .i64 0, .int .u64 0, .bool false, .int .i64 0, .int .u64 0, .int .u64 0, .bool false]), (R2, cond (D 3) [.int .i64 c.t, .int .i64 c.s, .int .i64 c.k, .int .i64 c.g, .int .u64 c.q, (.slice (some ⟨g', 0, none⟩) c.n cg'), .int .i64 M.cnt, .int .i64 M.l.kind, .int .i64 M.l.a, .int .i64 M.l.b, .int .u64 (M.l.old : Nat), .int .u64 (M.l.new : Nat), .bool M.l.done] [.int .i64 0, .int .i64 0, .int .i64 0, .int .i64 0, .int .u64 0, .slice none 0 0, .int .i64 0, .int .i64 0, .int .i64 0, .int .i64 0, .int .u64 0, .int .u64 0, .bool false]), (NX, [.int .i64 c.t, .int .i64 c.s, .int .i64 c.k, .int .i64 c.g, .int .u64 c.q, (.slice (some ⟨g', 0, none⟩) c.n cg'), .int .i64 M.cnt, .int .i64 M.l.kind, .int .i64 M.l.a, .int .i64 M.l.b, .int .u64 (M.l.old : Nat), .int .u64 (M.l.new : Nat), .bool M.l.done])] [(g', rowW M.ws c.n)]) (by kernel_rfl) (by kernel_rfl) ?start ?steps ?ends
  case start => exact ⟨rfl, hS.drew⟩
  case steps =>
    intro i o hi D ts' w' hD hpre hI
    obtain ⟨rfl, hS⟩ := hI
    dsimp only [putS, List.set]
    match i, hi with
    | 0, hi =>
      cases hi
      refine wpOp_step rfl (fun K hK => ?_)
      refine stp_val rfl (by refine yif_load (S := fun q => q = w') rfl _ _ rfl _ _ rfl _ (fun _ h => h ▸ hS.get 0 rfl) _ (row_any2 rfl) (by exact rfl) _ (by dsimp only [cutL, List.drop, List.take]; first | done | exact rfl)) rfl ?_
      exact hK _ _ ⟨_, rfl, rfl, hS⟩
    | 1, hi =>
      cases hi
      refine wpOp_step rfl (fun K hK => ?_)
      refine stp_val rfl (by refine yif_load (S := fun q => q = w') rfl _ _ rfl _ _ rfl _ (fun _ h => h ▸ hS.get 4 rfl) _ (row_any2 rfl) (by exact rfl) _ (by dsimp only [cutL, List.drop, List.take]; first | done | exact rfl)) rfl ?_
      exact hK _ _ ⟨_, rfl, rfl, hS⟩
    | 2, hi =>
      cases hi
      have d0 : D 0 = true := og_pre hpre (j := 0) (by kernel_rfl)
      refine wpOp_step rfl (fun K hK => ?_)
      simp only [hD, cond_false] at hS
      refine stx_store hS 2 rfl _ _ _ rfl _ _ rfl _ rfl _ (cond_at d0 rfl) _ rfl _ (siz_any2 rfl) (by exact rfl) (by exact rfl) (by exact rfl) rfl ?_
      intro u hS'
      exact hK _ _ ⟨_, rfl, rfl, hS'⟩
    | 3, hi =>
      cases hi
      have d1 : D 1 = true := og_pre hpre (j := 1) (by kernel_rfl)
      refine wpOp_step rfl (fun K hK => ?_)
      simp only [hD, cond_false] at hS
      refine stx_store hS 3 rfl _ _ _ rfl _ _ rfl _ rfl _ (cond_at d1 rfl) _ rfl _ (siz_any2 rfl) (by exact rfl) (by exact rfl) (by exact rfl) rfl ?_
      intro u hS'
      exact hK _ _ ⟨_, rfl, rfl, hS'⟩
    | i + 4, hi => simp at hi
  case ends =>
    intro D ts' w' hall hI
    obtain ⟨rfl, hS⟩ := hI
    have d0 : D 0 = true := hall 0 (by decide)
    have d1 : D 1 = true := hall 1 (by decide)
    have d2 : D 2 = true := hall 2 (by decide)
    have d3 : D 3 = true := hall 3 (by decide)
    simp only [d2, d3, cond_true] at hS
    dsimp only [putS, List.set]
    simp only [d0, d1, cond_true]
    clear hall d0 d1 d2 d3
    go_wp2
    have hZ := hS.get 2 rfl
    have hY := hS.get 3 rfl
    refine bodyPost_ret (v := .tuple #[.agg #[.int .i64 sl, .int .i64 1, .int .u64 (M.l.old : Nat), .int .u64 (q : Nat), .int .u64 (aw : Nat), .int .i64 an, .int .u64 (ha : Nat), .bool ad, .int .i64 te, .int .u64 (th : Nat), .int .u64 (tn : Nat), .bool false], (.agg #[.int .i64 c.t, .int .i64 c.s, .int .i64 c.k, .int .i64 c.g, .int .u64 c.q, (.slice (some ⟨g', 0, none⟩) c.n cg'), .int .i64 M.cnt, .int .i64 M.l.kind, .int .i64 M.l.a, .int .i64 M.l.b, .int .u64 (M.l.old : Nat), .int .u64 (M.l.new : Nat), .bool M.l.done])]) (by simp [results, Try.results15, go_sem, hZ.cell 0 _ rfl, hZ.cell 1 _ rfl, hZ.cell 2 _ rfl, hZ.cell 3 _ rfl, hZ.cell 4 _ rfl, hZ.cell 5 _ rfl, hZ.cell 6 _ rfl, hZ.cell 7 _ rfl, hZ.cell 8 _ rfl, hZ.cell 9 _ rfl, hZ.cell 10 _ rfl, hZ.cell 11 _ rfl, hY.cell 0 _ rfl, hY.cell 1 _ rfl, hY.cell 2 _ rfl, hY.cell 3 _ rfl, hY.cell 4 _ rfl, hY.cell 5 _ rfl, hY.cell 6 _ rfl, hY.cell 7 _ rfl, hY.cell 8 _ rfl, hY.cell 9 _ rfl, hY.cell 10 _ rfl, hY.cell 11 _ rfl, hY.cell 12 _ rfl]) rfl ?_
    exact ⟨g', cg', rfl, q1, q2, (Fr.refl w g).trans hFr hSz, unhide HW2, hS.getE 0 rfl, hS.bel⟩

set_option maxHeartbeats 8000000 in
theorem rStep9_0b (w : World) (c : Um.Cf) (m M : Um.Mm) (g cg : Nat) (sl : Int) (s q aw ha th tn : Nat) (an te : Int) (ad : Bool) (fl : Bool) (te2 : Int) (th2 tn2 : Nat) (hG : Gof c.s sl te th tn fl te2 th2 tn2) (hl0 : 0 ≤ sl) (hl1 : sl ≤ 20) (h3 : Um.stN M.l.old ≠ 0) (hB : BlkAt w g (rowW m.ws c.n)) (hr : c.r = true) (hw : WordsOk c m) (h1 : c.n ≤ cg) (h2 : cg ≤ maxLen) (hM : M = Um.mtouch c m 1 4 sl 0 0) :
    Calls Try.prog 15 #[.agg #[.int .i64 sl, .int .i64 0, .int .u64 (s : Nat), .int .u64 (q : Nat), .int .u64 (aw : Nat), .int .i64 an, .int .u64 (ha : Nat), .bool ad, .int .i64 te, .int .u64 (th : Nat), .int .u64 (tn : Nat), .bool false], (.agg #[.int .i64 c.t, .int .i64 c.s, .int .i64 c.k, .int .i64 c.g, .int .u64 c.q, (.slice (some ⟨g, 0, none⟩) c.n cg), .int .i64 m.cnt, .int .i64 m.l.kind, .int .i64 m.l.a, .int .i64 m.l.b, .int .u64 (m.l.old : Nat), .int .u64 (m.l.new : Nat), .bool m.l.done])] w fun r w' => ∃ g' cg', r = .returned (.tuple #[.agg #[.int .i64 (sl + 1), .int .i64 0, .int .u64 (M.l.old : Nat), .int .u64 (q : Nat), .int .u64 (aw : Nat), .int .i64 an, .int .u64 (ha : Nat), .bool ad, .int .i64 te2, .int .u64 (th2 : Nat), .int .u64 (tn2 : Nat), .bool fl], (.agg #[.int .i64 c.t, .int .i64 c.s, .int .i64 c.k, .int .i64 c.g, .int .u64 c.q, (.slice (some ⟨g', 0, none⟩) c.n cg'), .int .i64 M.cnt, .int .i64 M.l.kind, .int .i64 M.l.a, .int .i64 M.l.b, .int .u64 (M.l.old : Nat), .int .u64 (M.l.new : Nat), .bool M.l.done])]) ∧ c.n ≤ cg' ∧ cg' ≤ maxLen ∧ Fr w g g' ∧ WordsOk c M ∧ BlkAt w' g' (rowW M.ws c.n) ∧ Below w.heap.size w w' := by
  have hS := Sx.read1 hB
  have HOW := hide (show Um.Word M.l.old by rw [hM]; exact Um.old_word hw)
  have t1 : ¬ ((Um.stN M.l.old : Nat) : Int) = 0 := by omega
  have t2 : (((Um.stN M.l.old : Nat) : Int) == 0) = false := by simpa using t1
  clear h3
  have HG := hide hG
  have HSL := hide (And.intro hl0 hl1)
  clear hG hl0 hl1
  have HR := hide hr
  have HW := hide hw
  have HM := hide hM
  clear hB hr hw hM
  go_enter Try.func15, Try.ntmps15
  go_wp2_with (first | (refine wpx_box hS rfl _ _ rfl _ rfl _ (by intro _; simp only [Act.put, List.setIfInBounds_toArray, List.set_cons_zero, List.set_cons_succ]; first | done | exact rfl) ?_; clear hS; intro _ _ hS; dsimp only [blit, List.set, List.cons_append, List.nil_append, Value.cells, List.toList_toArray] at hS) | (refine wpx_alloc hS rfl _ rfl _ (zer_any2 rfl) _ (by intro _; simp only [Act.put, List.setIfInBounds_toArray, List.set_cons_zero, List.set_cons_succ]; first | done | exact rfl) ?_; clear hS; intro _ _ hS; dsimp only [blit, List.set, List.cons_append, List.nil_append, Value.cells, List.toList_toArray] at hS) | (refine wpx_ld hS rfl _ _ rfl _ _ rfl ?_; (first | refine ⟨0, _, rfl, ?_⟩ | refine ⟨1, _, rfl, ?_⟩ | refine ⟨2, _, rfl, ?_⟩ | refine ⟨3, _, rfl, ?_⟩ | refine ⟨4, _, rfl, ?_⟩ | refine ⟨5, _, rfl, ?_⟩ | refine ⟨6, _, rfl, ?_⟩ | refine ⟨7, _, rfl, ?_⟩ | refine ⟨8, _, rfl, ?_⟩ | refine ⟨9, _, rfl, ?_⟩); first | refine .inl ⟨_, one_any2 rfl, rfl, _, (by simp only [Act.put, List.setIfInBounds_toArray, List.set_cons_zero, List.set_cons_succ]; first | done | exact rfl), ?_⟩ | refine .inr ⟨_, _, row_any2 rfl, rfl, (by dsimp only [cutL, List.drop, List.take]; first | done | exact rfl), _, (by simp only [Act.put, List.setIfInBounds_toArray, List.set_cons_zero, List.set_cons_succ]; first | done | exact rfl), ?_⟩) | (refine wpx_st hS rfl _ _ _ rfl rfl _ _ rfl ?_; (first | refine ⟨0, _, rfl, ?_⟩ | refine ⟨1, _, rfl, ?_⟩ | refine ⟨2, _, rfl, ?_⟩ | refine ⟨3, _, rfl, ?_⟩ | refine ⟨4, _, rfl, ?_⟩ | refine ⟨5, _, rfl, ?_⟩ | refine ⟨6, _, rfl, ?_⟩ | refine ⟨7, _, rfl, ?_⟩ | refine ⟨8, _, rfl, ?_⟩ | refine ⟨9, _, rfl, ?_⟩); refine ⟨_, (by first | exact shA rfl | exact shI rfl | exact shB rfl | exact shS rfl | exact shP rfl | exact shF rfl | exact shN rfl), _, siz_any2 rfl, (by exact rfl), (by exact rfl), (by exact rfl), ?_⟩; clear hS; intro _ hS; dsimp only [blit, List.set, List.cons_append, List.nil_append, Value.cells, List.toList_toArray] at hS))
  have hSz := hS.size
  refine (rLoad_x hS 0 rfl (unhide HR) (unhide HW) h1 h2 4 sl M (unhide HM)).mono ?_
  rintro r u ⟨g', cg', rfl, q1, q2, hFr, hWn, hSn⟩
  clear hS
  have hS := hSn
  clear hSn
  dsimp only [putL, List.set, List.cons_append, List.nil_append] at hS
  have HW2 := hide hWn
  clear hWn
  go_wp2_with (first | (refine wpx_box hS rfl _ _ rfl _ rfl _ (by intro _; simp only [Act.put, List.setIfInBounds_toArray, List.set_cons_zero, List.set_cons_succ]; first | done | exact rfl) ?_; clear hS; intro _ _ hS; dsimp only [blit, List.set, List.cons_append, List.nil_append, Value.cells, List.toList_toArray] at hS) | (refine wpx_alloc hS rfl _ rfl _ (zer_any2 rfl) _ (by intro _; simp only [Act.put, List.setIfInBounds_toArray, List.set_cons_zero, List.set_cons_succ]; first | done | exact rfl) ?_; clear hS; intro _ _ hS; dsimp only [blit, List.set, List.cons_append, List.nil_append, Value.cells, List.toList_toArray] at hS) | (refine wpx_ld hS rfl _ _ rfl _ _ rfl ?_; (first | refine ⟨0, _, rfl, ?_⟩ | refine ⟨1, _, rfl, ?_⟩ | refine ⟨2, _, rfl, ?_⟩ | refine ⟨3, _, rfl, ?_⟩ | refine ⟨4, _, rfl, ?_⟩ | refine ⟨5, _, rfl, ?_⟩ | refine ⟨6, _, rfl, ?_⟩ | refine ⟨7, _, rfl, ?_⟩ | refine ⟨8, _, rfl, ?_⟩ | refine ⟨9, _, rfl, ?_⟩); first | refine .inl ⟨_, one_any2 rfl, rfl, _, (by simp only [Act.put, List.setIfInBounds_toArray, List.set_cons_zero, List.set_cons_succ]; first | done | exact rfl), ?_⟩ | refine .inr ⟨_, _, row_any2 rfl, rfl, (by dsimp only [cutL, List.drop, List.take]; first | done | exact rfl), _, (by simp only [Act.put, List.setIfInBounds_toArray, List.set_cons_zero, List.set_cons_succ]; first | done | exact rfl), ?_⟩) | (refine wpx_st hS rfl _ _ _ rfl rfl _ _ rfl ?_; (first | refine ⟨0, _, rfl, ?_⟩ | refine ⟨1, _, rfl, ?_⟩ | refine ⟨2, _, rfl, ?_⟩ | refine ⟨3, _, rfl, ?_⟩ | refine ⟨4, _, rfl, ?_⟩ | refine ⟨5, _, rfl, ?_⟩ | refine ⟨6, _, rfl, ?_⟩ | refine ⟨7, _, rfl, ?_⟩ | refine ⟨8, _, rfl, ?_⟩ | refine ⟨9, _, rfl, ?_⟩); refine ⟨_, (by first | exact shA rfl | exact shI rfl | exact shB rfl | exact shS rfl | exact shP rfl | exact shF rfl | exact shN rfl), _, siz_any2 rfl, (by exact rfl), (by exact rfl), (by exact rfl), ?_⟩; clear hS; intro _ hS; dsimp only [blit, List.set, List.cons_append, List.nil_append, Value.cells, List.toList_toArray] at hS))
  obtain ⟨u, rfl⟩ := nameW hS
  have k3 := cell_regrown ((hS.get 1 rfl).cell 3 _ rfl)
  have HSQ := hide hS
  clear hS
  refine wp_region_quiet_below (by kernel_rfl) (by kernel_rfl) ?_
  repeat (go_big_quiet_step (first | (go_at_call 21; exact Calls.regrown_of (rState_b _ _ (unhide HOW))) | (go_at_call 22; exact Calls.regrown_of (rGen_b _ _ (unhide HOW)))))
  refine wpQuiet_nil ?_
  intro _ hw'
  obtain ⟨⟨dq, osq⟩, hw''⟩ := hw'
  subst hw''
  have hS := (unhide HSQ).call (below_regrown u dq osq)
  clear HSQ k3
  generalize grow (redrawn u dq) osq = u9 at *
  go_wp2_with fail
  obtain ⟨OB, rfl⟩ := nameB hS 0 rfl
  obtain ⟨MB, rfl⟩ := nameB hS 1 rfl
  obtain ⟨R1, rfl⟩ := nameB hS 2 rfl
  obtain ⟨R2, rfl⟩ := nameB hS 3 rfl
  obtain ⟨NX, rfl⟩ := nameB hS 4 rfl
  refine wp_region_ogt (fun ts D ts' w' => ts' = putS ts [(47, cond (D 0) (.agg #[.int .i64 sl, .int .i64 0, .int .u64 (M.l.old : Nat), .int .u64 (q : Nat), .int .u64 (aw : Nat), .int .i64 an, .int .u64 (ha : Nat), .bool ad, .int .i64 te, .int .u64 (th : Nat), .int .u64 (tn : Nat), .bool false]) undef), (48, cond (D 1) (.pointer (some ⟨MB, 0, none⟩)) undef), (49, cond (D 2) (.pointer (some ⟨MB, 1, none⟩)) undef), (50, cond (D 3) (.int .i64 c.s) undef), (51, cond (D 4) (.agg #[.int .i64 (sl + 1), .int .i64 0, .int .u64 (M.l.old : Nat), .int .u64 (q : Nat), .int .u64 (aw : Nat), .int .i64 an, .int .u64 (ha : Nat), .bool ad, .int .i64 te2, .int .u64 (th2 : Nat), .int .u64 (tn2 : Nat), .bool fl]) undef), (52, cond (D 5) (.agg #[.int .i64 c.t, .int .i64 c.s, .int .i64 c.k, .int .i64 c.g, .int .u64 c.q, (.slice (some ⟨g', 0, none⟩) c.n cg'), .int .i64 M.cnt, .int .i64 M.l.kind, .int .i64 M.l.a, .int .i64 M.l.b, .int .u64 (M.l.old : Nat), .int .u64 (M.l.new : Nat), .bool M.l.done]) undef)] ∧ Sx [] w w' [(OB, [.int .i64 sl, .int .i64 0, .int .u64 (M.l.old : Nat), .int .u64 (q : Nat), .int .u64 (aw : Nat), .int .i64 an, .int .u64 (ha : Nat), .bool ad, .int .i64 te, .int .u64 (th : Nat), .int .u64 (tn : Nat), .bool false]), (MB, [.int .i64 c.t, .int .i64 c.s, .int .i64 c.k, .int .i64 c.g, .int .u64 c.q, (.slice (some ⟨g, 0, none⟩) c.n cg), .int .i64 m.cnt, .int .i64 m.l.kind, .int .i64 m.l.a, .int .i64 m.l.b, .int .u64 (m.l.old : Nat), .int .u64 (m.l.new : Nat), .bool m.l.done]), (R1, cond (D 6) [.int .i64 (sl + 1), .int .i64 0, .int .u64 (M.l.old : Nat), .int .u64 (q : Nat), .int .u64 (aw : Nat), .int .i64 an, .int .u64 (ha : Nat), .bool ad, .int .i64 te2, .int .u64 (th2 : Nat), .int .u64 (tn2 : Nat), .bool fl] [.int .i64 0, .int .i64 0, .int .u64 0, .int .u64 0, .int .u64 0, .int .i64 0, .int .u64 0, .bool false, .int .i64 0, .int .u64 0, .int .u64 0, .bool false]), (R2, cond (D 7) [.int .i64 c.t, .int .i64 c.s, .int .i64 c.k, .int .i64 c.g, .int .u64 c.q, (.slice (some ⟨g', 0, none⟩) c.n cg'), .int .i64 M.cnt, .int .i64 M.l.kind, .int .i64 M.l.a, .int .i64 M.l.b, .int .u64 (M.l.old : Nat), .int .u64 (M.l.new : Nat), .bool M.l.done] [.int .i64 0, .int .i64 0, .int .i64 0, .int .i64 0, .int .u64 0, .slice none 0 0, .int .i64 0, .int .i64 0, .int .i64 0, .int .i64 0, .int .u64 0, .int .u64 0, .bool false]), (NX, [.int .i64 c.t, .int .i64 c.s, .int .i64 c.k, .int .i64 c.g, .int .u64 c.q, (.slice (some ⟨g', 0, none⟩) c.n cg'), .int .i64 M.cnt, .int .i64 M.l.kind, .int .i64 M.l.a, .int .i64 M.l.b, .int .u64 (M.l.old : Nat), .int .u64 (M.l.new : Nat), .bool M.l.done])] [(g', rowW M.ws c.n)]) (by kernel_rfl) (by kernel_rfl) ?start ?steps ?ends
  case start => exact ⟨rfl, hS.drew⟩
  case steps =>
    intro i o hi D ts' w' hD hpre hI
    obtain ⟨rfl, hS⟩ := hI
    dsimp only [putS, List.set]
    match i, hi with
    | 0, hi =>
      cases hi
      refine wpOp_step rfl (fun K hK => ?_)
      refine stp_val rfl (by refine yif_load (S := fun q => q = w') rfl _ _ rfl _ _ rfl _ (fun _ h => h ▸ hS.get 0 rfl) _ (row_any2 rfl) (by exact rfl) _ (by dsimp only [cutL, List.drop, List.take]; first | done | exact rfl)) rfl ?_
      exact hK _ _ ⟨_, rfl, rfl, hS⟩
    | 1, hi =>
      cases hi
      refine wpOp_step rfl (fun K hK => ?_)
      refine stp_val rfl (yif_by rfl _ (fun w => by go_simp; first | done | exact rfl)) rfl ?_
      exact hK _ _ ⟨_, rfl, rfl, hS⟩
    | 2, hi =>
      cases hi
      have d1 : D 1 = true := og_pre hpre (j := 1) (by kernel_rfl)
      refine wpOp_step rfl (fun K hK => ?_)
      refine stp_val rfl (yif_by rfl _ (fun w => by simp only [d1, cond_true]; go_simp; first | done | exact rfl)) rfl ?_
      exact hK _ _ ⟨_, rfl, rfl, hS⟩
    | 3, hi =>
      cases hi
      have d2 : D 2 = true := og_pre hpre (j := 2) (by kernel_rfl)
      refine wpOp_step rfl (fun K hK => ?_)
      refine stp_val rfl (by refine yif_load1 (S := fun q => q = w') rfl _ (.tmp 49) rfl MB 1 ?_ _ (fun _ h => h ▸ hS.get 1 rfl) (one_any2 rfl) _ rfl; exact cond_at d2 rfl) rfl ?_
      exact hK _ _ ⟨_, rfl, rfl, hS⟩
    | 4, hi =>
      cases hi
      have d0 : D 0 = true := og_pre hpre (j := 0) (by kernel_rfl)
      have d3 : D 3 = true := og_pre hpre (j := 3) (by kernel_rfl)
      refine wpOp_step rfl (fun K hK => ?_)
      refine stp_call rfl _ _ _ rfl egGo _ (list2_eq (cond_at d0 rfl) (cond_at d3 rfl)) _ rfl ?_
      refine (rGoes_any _ c.s sl M.l.old q aw ha th tn 0 an te ad fl te2 th2 tn2 (unhide HSL).1 (unhide HSL).2 (unhide HG)).mono ?_
      rintro r u ⟨rfl, hb⟩
      exact ⟨_, rfl, hK _ _ ⟨_, rfl, rfl, hS.call hb⟩⟩
    | 5, hi =>
      cases hi
      refine wpOp_step rfl (fun K hK => ?_)
      refine stp_val rfl (by refine yif_load (S := fun q => q = w') rfl _ _ rfl _ _ rfl _ (fun _ h => h ▸ hS.get 4 rfl) _ (row_any2 rfl) (by exact rfl) _ (by dsimp only [cutL, List.drop, List.take]; first | done | exact rfl)) rfl ?_
      exact hK _ _ ⟨_, rfl, rfl, hS⟩
    | 6, hi =>
      cases hi
      have d4 : D 4 = true := og_pre hpre (j := 4) (by kernel_rfl)
      refine wpOp_step rfl (fun K hK => ?_)
      simp only [hD, cond_false] at hS
      refine stx_store hS 2 rfl _ _ _ rfl _ _ rfl _ rfl _ (cond_at d4 rfl) _ rfl _ (siz_any2 rfl) (by exact rfl) (by exact rfl) (by exact rfl) rfl ?_
      intro u hS'
      exact hK _ _ ⟨_, rfl, rfl, hS'⟩
    | 7, hi =>
      cases hi
      have d5 : D 5 = true := og_pre hpre (j := 5) (by kernel_rfl)
      refine wpOp_step rfl (fun K hK => ?_)
      simp only [hD, cond_false] at hS
      refine stx_store hS 3 rfl _ _ _ rfl _ _ rfl _ rfl _ (cond_at d5 rfl) _ rfl _ (siz_any2 rfl) (by exact rfl) (by exact rfl) (by exact rfl) rfl ?_
      intro u hS'
      exact hK _ _ ⟨_, rfl, rfl, hS'⟩
    | i + 8, hi => simp at hi
  case ends =>
    intro D ts' w' hall hI
    obtain ⟨rfl, hS⟩ := hI
    have d0 : D 0 = true := hall 0 (by decide)
    have d1 : D 1 = true := hall 1 (by decide)
    have d2 : D 2 = true := hall 2 (by decide)
    have d3 : D 3 = true := hall 3 (by decide)
    have d4 : D 4 = true := hall 4 (by decide)
    have d5 : D 5 = true := hall 5 (by decide)
    have d6 : D 6 = true := hall 6 (by decide)
    have d7 : D 7 = true := hall 7 (by decide)
    simp only [d6, d7, cond_true] at hS
    dsimp only [putS, List.set]
    simp only [d0, d1, d2, d3, d4, d5, cond_true]
    clear hall d0 d1 d2 d3 d4 d5 d6 d7
    go_wp2
    have hZ := hS.get 2 rfl
    have hY := hS.get 3 rfl
    refine bodyPost_ret (v := .tuple #[.agg #[.int .i64 (sl + 1), .int .i64 0, .int .u64 (M.l.old : Nat), .int .u64 (q : Nat), .int .u64 (aw : Nat), .int .i64 an, .int .u64 (ha : Nat), .bool ad, .int .i64 te2, .int .u64 (th2 : Nat), .int .u64 (tn2 : Nat), .bool fl], (.agg #[.int .i64 c.t, .int .i64 c.s, .int .i64 c.k, .int .i64 c.g, .int .u64 c.q, (.slice (some ⟨g', 0, none⟩) c.n cg'), .int .i64 M.cnt, .int .i64 M.l.kind, .int .i64 M.l.a, .int .i64 M.l.b, .int .u64 (M.l.old : Nat), .int .u64 (M.l.new : Nat), .bool M.l.done])]) (by simp [results, Try.results15, go_sem, hZ.cell 0 _ rfl, hZ.cell 1 _ rfl, hZ.cell 2 _ rfl, hZ.cell 3 _ rfl, hZ.cell 4 _ rfl, hZ.cell 5 _ rfl, hZ.cell 6 _ rfl, hZ.cell 7 _ rfl, hZ.cell 8 _ rfl, hZ.cell 9 _ rfl, hZ.cell 10 _ rfl, hZ.cell 11 _ rfl, hY.cell 0 _ rfl, hY.cell 1 _ rfl, hY.cell 2 _ rfl, hY.cell 3 _ rfl, hY.cell 4 _ rfl, hY.cell 5 _ rfl, hY.cell 6 _ rfl, hY.cell 7 _ rfl, hY.cell 8 _ rfl, hY.cell 9 _ rfl, hY.cell 10 _ rfl, hY.cell 11 _ rfl, hY.cell 12 _ rfl]) rfl ?_
    exact ⟨g', cg', rfl, q1, q2, (Fr.refl w g).trans hFr hSz, unhide HW2, hS.getE 0 rfl, hS.bel⟩

set_option maxHeartbeats 8000000 in
theorem rStep9_0c (w : World) (c : Um.Cf) (m M : Um.Mm) (g cg : Nat) (sl : Int) (s q aw ha th tn : Nat) (an te : Int) (ad : Bool) (fl : Bool) (te2 : Int) (th2 tn2 : Nat) (hG : Gof c.s sl te th tn fl te2 th2 tn2) (hl0 : 0 ≤ sl) (hl1 : sl ≤ 20) (h3 : Um.stN M.l.old = 0) (h5 : ¬ ((Um.gnN M.l.old : Nat) : Int) ≤ c.g) (hB : BlkAt w g (rowW m.ws c.n)) (hr : c.r = true) (hw : WordsOk c m) (h1 : c.n ≤ cg) (h2 : cg ≤ maxLen) (hM : M = Um.mtouch c m 1 4 sl 0 0) :
    Calls Try.prog 15 #[.agg #[.int .i64 sl, .int .i64 0, .int .u64 (s : Nat), .int .u64 (q : Nat), .int .u64 (aw : Nat), .int .i64 an, .int .u64 (ha : Nat), .bool ad, .int .i64 te, .int .u64 (th : Nat), .int .u64 (tn : Nat), .bool false], (.agg #[.int .i64 c.t, .int .i64 c.s, .int .i64 c.k, .int .i64 c.g, .int .u64 c.q, (.slice (some ⟨g, 0, none⟩) c.n cg), .int .i64 m.cnt, .int .i64 m.l.kind, .int .i64 m.l.a, .int .i64 m.l.b, .int .u64 (m.l.old : Nat), .int .u64 (m.l.new : Nat), .bool m.l.done])] w fun r w' => ∃ g' cg', r = .returned (.tuple #[.agg #[.int .i64 (sl + 1), .int .i64 0, .int .u64 (M.l.old : Nat), .int .u64 (q : Nat), .int .u64 (aw : Nat), .int .i64 an, .int .u64 (ha : Nat), .bool ad, .int .i64 te2, .int .u64 (th2 : Nat), .int .u64 (tn2 : Nat), .bool fl], (.agg #[.int .i64 c.t, .int .i64 c.s, .int .i64 c.k, .int .i64 c.g, .int .u64 c.q, (.slice (some ⟨g', 0, none⟩) c.n cg'), .int .i64 M.cnt, .int .i64 M.l.kind, .int .i64 M.l.a, .int .i64 M.l.b, .int .u64 (M.l.old : Nat), .int .u64 (M.l.new : Nat), .bool M.l.done])]) ∧ c.n ≤ cg' ∧ cg' ≤ maxLen ∧ Fr w g g' ∧ WordsOk c M ∧ BlkAt w' g' (rowW M.ws c.n) ∧ Below w.heap.size w w' := by
  have hS := Sx.read1 hB
  have HOW := hide (show Um.Word M.l.old by rw [hM]; exact Um.old_word hw)
  have t1 : ((Um.stN M.l.old : Nat) : Int) = 0 := by rw [h3]; rfl
  have t2 : decide (((Um.gnN M.l.old : Nat) : Int) ≤ c.g) = false := decide_eq_false h5
  have t3 := h5
  clear h3 h5
  have HG := hide hG
  have HSL := hide (And.intro hl0 hl1)
  clear hG hl0 hl1
  have HR := hide hr
  have HW := hide hw
  have HM := hide hM
  clear hB hr hw hM
  go_enter Try.func15, Try.ntmps15
  go_wp2_with (first | (refine wpx_box hS rfl _ _ rfl _ rfl _ (by intro _; simp only [Act.put, List.setIfInBounds_toArray, List.set_cons_zero, List.set_cons_succ]; first | done | exact rfl) ?_; clear hS; intro _ _ hS; dsimp only [blit, List.set, List.cons_append, List.nil_append, Value.cells, List.toList_toArray] at hS) | (refine wpx_alloc hS rfl _ rfl _ (zer_any2 rfl) _ (by intro _; simp only [Act.put, List.setIfInBounds_toArray, List.set_cons_zero, List.set_cons_succ]; first | done | exact rfl) ?_; clear hS; intro _ _ hS; dsimp only [blit, List.set, List.cons_append, List.nil_append, Value.cells, List.toList_toArray] at hS) | (refine wpx_ld hS rfl _ _ rfl _ _ rfl ?_; (first | refine ⟨0, _, rfl, ?_⟩ | refine ⟨1, _, rfl, ?_⟩ | refine ⟨2, _, rfl, ?_⟩ | refine ⟨3, _, rfl, ?_⟩ | refine ⟨4, _, rfl, ?_⟩ | refine ⟨5, _, rfl, ?_⟩ | refine ⟨6, _, rfl, ?_⟩ | refine ⟨7, _, rfl, ?_⟩ | refine ⟨8, _, rfl, ?_⟩ | refine ⟨9, _, rfl, ?_⟩); first | refine .inl ⟨_, one_any2 rfl, rfl, _, (by simp only [Act.put, List.setIfInBounds_toArray, List.set_cons_zero, List.set_cons_succ]; first | done | exact rfl), ?_⟩ | refine .inr ⟨_, _, row_any2 rfl, rfl, (by dsimp only [cutL, List.drop, List.take]; first | done | exact rfl), _, (by simp only [Act.put, List.setIfInBounds_toArray, List.set_cons_zero, List.set_cons_succ]; first | done | exact rfl), ?_⟩) | (refine wpx_st hS rfl _ _ _ rfl rfl _ _ rfl ?_; (first | refine ⟨0, _, rfl, ?_⟩ | refine ⟨1, _, rfl, ?_⟩ | refine ⟨2, _, rfl, ?_⟩ | refine ⟨3, _, rfl, ?_⟩ | refine ⟨4, _, rfl, ?_⟩ | refine ⟨5, _, rfl, ?_⟩ | refine ⟨6, _, rfl, ?_⟩ | refine ⟨7, _, rfl, ?_⟩ | refine ⟨8, _, rfl, ?_⟩ | refine ⟨9, _, rfl, ?_⟩); refine ⟨_, (by first | exact shA rfl | exact shI rfl | exact shB rfl | exact shS rfl | exact shP rfl | exact shF rfl | exact shN rfl), _, siz_any2 rfl, (by exact rfl), (by exact rfl), (by exact rfl), ?_⟩; clear hS; intro _ hS; dsimp only [blit, List.set, List.cons_append, List.nil_append, Value.cells, List.toList_toArray] at hS))
  have hSz := hS.size
  refine (rLoad_x hS 0 rfl (unhide HR) (unhide HW) h1 h2 4 sl M (unhide HM)).mono ?_
  rintro r u ⟨g', cg', rfl, q1, q2, hFr, hWn, hSn⟩
  clear hS
  have hS := hSn
  clear hSn
  dsimp only [putL, List.set, List.cons_append, List.nil_append] at hS
  have HW2 := hide hWn
  clear hWn
  go_wp2_with (first | (refine wpx_box hS rfl _ _ rfl _ rfl _ (by intro _; simp only [Act.put, List.setIfInBounds_toArray, List.set_cons_zero, List.set_cons_succ]; first | done | exact rfl) ?_; clear hS; intro _ _ hS; dsimp only [blit, List.set, List.cons_append, List.nil_append, Value.cells, List.toList_toArray] at hS) | (refine wpx_alloc hS rfl _ rfl _ (zer_any2 rfl) _ (by intro _; simp only [Act.put, List.setIfInBounds_toArray, List.set_cons_zero, List.set_cons_succ]; first | done | exact rfl) ?_; clear hS; intro _ _ hS; dsimp only [blit, List.set, List.cons_append, List.nil_append, Value.cells, List.toList_toArray] at hS) | (refine wpx_ld hS rfl _ _ rfl _ _ rfl ?_; (first | refine ⟨0, _, rfl, ?_⟩ | refine ⟨1, _, rfl, ?_⟩ | refine ⟨2, _, rfl, ?_⟩ | refine ⟨3, _, rfl, ?_⟩ | refine ⟨4, _, rfl, ?_⟩ | refine ⟨5, _, rfl, ?_⟩ | refine ⟨6, _, rfl, ?_⟩ | refine ⟨7, _, rfl, ?_⟩ | refine ⟨8, _, rfl, ?_⟩ | refine ⟨9, _, rfl, ?_⟩); first | refine .inl ⟨_, one_any2 rfl, rfl, _, (by simp only [Act.put, List.setIfInBounds_toArray, List.set_cons_zero, List.set_cons_succ]; first | done | exact rfl), ?_⟩ | refine .inr ⟨_, _, row_any2 rfl, rfl, (by dsimp only [cutL, List.drop, List.take]; first | done | exact rfl), _, (by simp only [Act.put, List.setIfInBounds_toArray, List.set_cons_zero, List.set_cons_succ]; first | done | exact rfl), ?_⟩) | (refine wpx_st hS rfl _ _ _ rfl rfl _ _ rfl ?_; (first | refine ⟨0, _, rfl, ?_⟩ | refine ⟨1, _, rfl, ?_⟩ | refine ⟨2, _, rfl, ?_⟩ | refine ⟨3, _, rfl, ?_⟩ | refine ⟨4, _, rfl, ?_⟩ | refine ⟨5, _, rfl, ?_⟩ | refine ⟨6, _, rfl, ?_⟩ | refine ⟨7, _, rfl, ?_⟩ | refine ⟨8, _, rfl, ?_⟩ | refine ⟨9, _, rfl, ?_⟩); refine ⟨_, (by first | exact shA rfl | exact shI rfl | exact shB rfl | exact shS rfl | exact shP rfl | exact shF rfl | exact shN rfl), _, siz_any2 rfl, (by exact rfl), (by exact rfl), (by exact rfl), ?_⟩; clear hS; intro _ hS; dsimp only [blit, List.set, List.cons_append, List.nil_append, Value.cells, List.toList_toArray] at hS))
  obtain ⟨u, rfl⟩ := nameW hS
  have k3 := cell_regrown ((hS.get 1 rfl).cell 3 _ rfl)
  have HSQ := hide hS
  clear hS
  refine wp_region_quiet_below (by kernel_rfl) (by kernel_rfl) ?_
  repeat (go_big_quiet_step (first | (go_at_call 21; exact Calls.regrown_of (rState_b _ _ (unhide HOW))) | (go_at_call 22; exact Calls.regrown_of (rGen_b _ _ (unhide HOW)))))
  refine wpQuiet_nil ?_
  intro _ hw'
  obtain ⟨⟨dq, osq⟩, hw''⟩ := hw'
  subst hw''
  have hS := (unhide HSQ).call (below_regrown u dq osq)
  clear HSQ k3
  generalize grow (redrawn u dq) osq = u9 at *
  go_wp2_with fail
  obtain ⟨OB, rfl⟩ := nameB hS 0 rfl
  obtain ⟨MB, rfl⟩ := nameB hS 1 rfl
  obtain ⟨R1, rfl⟩ := nameB hS 2 rfl
  obtain ⟨R2, rfl⟩ := nameB hS 3 rfl
  obtain ⟨NX, rfl⟩ := nameB hS 4 rfl
  refine wp_region_ogt (fun ts D ts' w' => ts' = putS ts [(47, cond (D 0) (.agg #[.int .i64 sl, .int .i64 0, .int .u64 (M.l.old : Nat), .int .u64 (q : Nat), .int .u64 (aw : Nat), .int .i64 an, .int .u64 (ha : Nat), .bool ad, .int .i64 te, .int .u64 (th : Nat), .int .u64 (tn : Nat), .bool false]) undef), (48, cond (D 1) (.pointer (some ⟨MB, 0, none⟩)) undef), (49, cond (D 2) (.pointer (some ⟨MB, 1, none⟩)) undef), (50, cond (D 3) (.int .i64 c.s) undef), (51, cond (D 4) (.agg #[.int .i64 (sl + 1), .int .i64 0, .int .u64 (M.l.old : Nat), .int .u64 (q : Nat), .int .u64 (aw : Nat), .int .i64 an, .int .u64 (ha : Nat), .bool ad, .int .i64 te2, .int .u64 (th2 : Nat), .int .u64 (tn2 : Nat), .bool fl]) undef), (52, cond (D 5) (.agg #[.int .i64 c.t, .int .i64 c.s, .int .i64 c.k, .int .i64 c.g, .int .u64 c.q, (.slice (some ⟨g', 0, none⟩) c.n cg'), .int .i64 M.cnt, .int .i64 M.l.kind, .int .i64 M.l.a, .int .i64 M.l.b, .int .u64 (M.l.old : Nat), .int .u64 (M.l.new : Nat), .bool M.l.done]) undef)] ∧ Sx [] w w' [(OB, [.int .i64 sl, .int .i64 0, .int .u64 (M.l.old : Nat), .int .u64 (q : Nat), .int .u64 (aw : Nat), .int .i64 an, .int .u64 (ha : Nat), .bool ad, .int .i64 te, .int .u64 (th : Nat), .int .u64 (tn : Nat), .bool false]), (MB, [.int .i64 c.t, .int .i64 c.s, .int .i64 c.k, .int .i64 c.g, .int .u64 c.q, (.slice (some ⟨g, 0, none⟩) c.n cg), .int .i64 m.cnt, .int .i64 m.l.kind, .int .i64 m.l.a, .int .i64 m.l.b, .int .u64 (m.l.old : Nat), .int .u64 (m.l.new : Nat), .bool m.l.done]), (R1, cond (D 6) [.int .i64 (sl + 1), .int .i64 0, .int .u64 (M.l.old : Nat), .int .u64 (q : Nat), .int .u64 (aw : Nat), .int .i64 an, .int .u64 (ha : Nat), .bool ad, .int .i64 te2, .int .u64 (th2 : Nat), .int .u64 (tn2 : Nat), .bool fl] [.int .i64 0, .int .i64 0, .int .u64 0, .int .u64 0, .int .u64 0, .int .i64 0, .int .u64 0, .bool false, .int .i64 0, .int .u64 0, .int .u64 0, .bool false]), (R2, cond (D 7) [.int .i64 c.t, .int .i64 c.s, .int .i64 c.k, .int .i64 c.g, .int .u64 c.q, (.slice (some ⟨g', 0, none⟩) c.n cg'), .int .i64 M.cnt, .int .i64 M.l.kind, .int .i64 M.l.a, .int .i64 M.l.b, .int .u64 (M.l.old : Nat), .int .u64 (M.l.new : Nat), .bool M.l.done] [.int .i64 0, .int .i64 0, .int .i64 0, .int .i64 0, .int .u64 0, .slice none 0 0, .int .i64 0, .int .i64 0, .int .i64 0, .int .i64 0, .int .u64 0, .int .u64 0, .bool false]), (NX, [.int .i64 c.t, .int .i64 c.s, .int .i64 c.k, .int .i64 c.g, .int .u64 c.q, (.slice (some ⟨g', 0, none⟩) c.n cg'), .int .i64 M.cnt, .int .i64 M.l.kind, .int .i64 M.l.a, .int .i64 M.l.b, .int .u64 (M.l.old : Nat), .int .u64 (M.l.new : Nat), .bool M.l.done])] [(g', rowW M.ws c.n)]) (by kernel_rfl) (by kernel_rfl) ?start ?steps ?ends
  case start => exact ⟨rfl, hS.drew⟩
  case steps =>
    intro i o hi D ts' w' hD hpre hI
    obtain ⟨rfl, hS⟩ := hI
    dsimp only [putS, List.set]
    match i, hi with
    | 0, hi =>
      cases hi
      refine wpOp_step rfl (fun K hK => ?_)
      refine stp_val rfl (by refine yif_load (S := fun q => q = w') rfl _ _ rfl _ _ rfl _ (fun _ h => h ▸ hS.get 0 rfl) _ (row_any2 rfl) (by exact rfl) _ (by dsimp only [cutL, List.drop, List.take]; first | done | exact rfl)) rfl ?_
      exact hK _ _ ⟨_, rfl, rfl, hS⟩
    | 1, hi =>
      cases hi
      refine wpOp_step rfl (fun K hK => ?_)
      refine stp_val rfl (yif_by rfl _ (fun w => by go_simp; first | done | exact rfl)) rfl ?_
      exact hK _ _ ⟨_, rfl, rfl, hS⟩
    | 2, hi =>
      cases hi
      have d1 : D 1 = true := og_pre hpre (j := 1) (by kernel_rfl)
      refine wpOp_step rfl (fun K hK => ?_)
      refine stp_val rfl (yif_by rfl _ (fun w => by simp only [d1, cond_true]; go_simp; first | done | exact rfl)) rfl ?_
      exact hK _ _ ⟨_, rfl, rfl, hS⟩
    | 3, hi =>
      cases hi
      have d2 : D 2 = true := og_pre hpre (j := 2) (by kernel_rfl)
      refine wpOp_step rfl (fun K hK => ?_)
      refine stp_val rfl (by refine yif_load1 (S := fun q => q = w') rfl _ (.tmp 49) rfl MB 1 ?_ _ (fun _ h => h ▸ hS.get 1 rfl) (one_any2 rfl) _ rfl; exact cond_at d2 rfl) rfl ?_
      exact hK _ _ ⟨_, rfl, rfl, hS⟩
    | 4, hi =>
      cases hi
      have d0 : D 0 = true := og_pre hpre (j := 0) (by kernel_rfl)
      have d3 : D 3 = true := og_pre hpre (j := 3) (by kernel_rfl)
      refine wpOp_step rfl (fun K hK => ?_)
      refine stp_call rfl _ _ _ rfl egGo _ (list2_eq (cond_at d0 rfl) (cond_at d3 rfl)) _ rfl ?_
      refine (rGoes_any _ c.s sl M.l.old q aw ha th tn 0 an te ad fl te2 th2 tn2 (unhide HSL).1 (unhide HSL).2 (unhide HG)).mono ?_
      rintro r u ⟨rfl, hb⟩
      exact ⟨_, rfl, hK _ _ ⟨_, rfl, rfl, hS.call hb⟩⟩
    | 5, hi =>
      cases hi
      refine wpOp_step rfl (fun K hK => ?_)
      refine stp_val rfl (by refine yif_load (S := fun q => q = w') rfl _ _ rfl _ _ rfl _ (fun _ h => h ▸ hS.get 4 rfl) _ (row_any2 rfl) (by exact rfl) _ (by dsimp only [cutL, List.drop, List.take]; first | done | exact rfl)) rfl ?_
      exact hK _ _ ⟨_, rfl, rfl, hS⟩
    | 6, hi =>
      cases hi
      have d4 : D 4 = true := og_pre hpre (j := 4) (by kernel_rfl)
      refine wpOp_step rfl (fun K hK => ?_)
      simp only [hD, cond_false] at hS
      refine stx_store hS 2 rfl _ _ _ rfl _ _ rfl _ rfl _ (cond_at d4 rfl) _ rfl _ (siz_any2 rfl) (by exact rfl) (by exact rfl) (by exact rfl) rfl ?_
      intro u hS'
      exact hK _ _ ⟨_, rfl, rfl, hS'⟩
    | 7, hi =>
      cases hi
      have d5 : D 5 = true := og_pre hpre (j := 5) (by kernel_rfl)
      refine wpOp_step rfl (fun K hK => ?_)
      simp only [hD, cond_false] at hS
      refine stx_store hS 3 rfl _ _ _ rfl _ _ rfl _ rfl _ (cond_at d5 rfl) _ rfl _ (siz_any2 rfl) (by exact rfl) (by exact rfl) (by exact rfl) rfl ?_
      intro u hS'
      exact hK _ _ ⟨_, rfl, rfl, hS'⟩
    | i + 8, hi => simp at hi
  case ends =>
    intro D ts' w' hall hI
    obtain ⟨rfl, hS⟩ := hI
    have d0 : D 0 = true := hall 0 (by decide)
    have d1 : D 1 = true := hall 1 (by decide)
    have d2 : D 2 = true := hall 2 (by decide)
    have d3 : D 3 = true := hall 3 (by decide)
    have d4 : D 4 = true := hall 4 (by decide)
    have d5 : D 5 = true := hall 5 (by decide)
    have d6 : D 6 = true := hall 6 (by decide)
    have d7 : D 7 = true := hall 7 (by decide)
    simp only [d6, d7, cond_true] at hS
    dsimp only [putS, List.set]
    simp only [d0, d1, d2, d3, d4, d5, cond_true]
    clear hall d0 d1 d2 d3 d4 d5 d6 d7
    go_wp2
    have hZ := hS.get 2 rfl
    have hY := hS.get 3 rfl
    refine bodyPost_ret (v := .tuple #[.agg #[.int .i64 (sl + 1), .int .i64 0, .int .u64 (M.l.old : Nat), .int .u64 (q : Nat), .int .u64 (aw : Nat), .int .i64 an, .int .u64 (ha : Nat), .bool ad, .int .i64 te2, .int .u64 (th2 : Nat), .int .u64 (tn2 : Nat), .bool fl], (.agg #[.int .i64 c.t, .int .i64 c.s, .int .i64 c.k, .int .i64 c.g, .int .u64 c.q, (.slice (some ⟨g', 0, none⟩) c.n cg'), .int .i64 M.cnt, .int .i64 M.l.kind, .int .i64 M.l.a, .int .i64 M.l.b, .int .u64 (M.l.old : Nat), .int .u64 (M.l.new : Nat), .bool M.l.done])]) (by simp [results, Try.results15, go_sem, hZ.cell 0 _ rfl, hZ.cell 1 _ rfl, hZ.cell 2 _ rfl, hZ.cell 3 _ rfl, hZ.cell 4 _ rfl, hZ.cell 5 _ rfl, hZ.cell 6 _ rfl, hZ.cell 7 _ rfl, hZ.cell 8 _ rfl, hZ.cell 9 _ rfl, hZ.cell 10 _ rfl, hZ.cell 11 _ rfl, hY.cell 0 _ rfl, hY.cell 1 _ rfl, hY.cell 2 _ rfl, hY.cell 3 _ rfl, hY.cell 4 _ rfl, hY.cell 5 _ rfl, hY.cell 6 _ rfl, hY.cell 7 _ rfl, hY.cell 8 _ rfl, hY.cell 9 _ rfl, hY.cell 10 _ rfl, hY.cell 11 _ rfl, hY.cell 12 _ rfl]) rfl ?_
    exact ⟨g', cg', rfl, q1, q2, (Fr.refl w g).trans hFr hSz, unhide HW2, hS.getE 0 rfl, hS.bel⟩

end Go.Proofs.Ytkiaogbddfjkkaa

/-
  The walks of the document's own beginning: note, start.
-/
namespace Go.Proofs.Ytkiaogbddfjkkaa
set_option maxRecDepth 100000
open Go.RowKit Go.Sort

set_option maxHeartbeats 8000000 in
theorem rStep9_4 (w : World) (c : Um.Cf) (m M : Um.Mm) (g cg : Nat) (sl : Int) (s q aw ha th tn : Nat) (an te : Int) (ad : Bool) (hq : Um.Word q) (hB : BlkAt w g (rowW m.ws c.n)) (hr : c.r = true) (hw : WordsOk c m) (h1 : c.n ≤ cg) (h2 : cg ≤ maxLen) (hM : M = Um.mtouch c m 2 5 sl 0 q) :
    Calls Try.prog 15 #[.agg #[.int .i64 sl, .int .i64 4, .int .u64 (s : Nat), .int .u64 (q : Nat), .int .u64 (aw : Nat), .int .i64 an, .int .u64 (ha : Nat), .bool ad, .int .i64 te, .int .u64 (th : Nat), .int .u64 (tn : Nat), .bool false], (.agg #[.int .i64 c.t, .int .i64 c.s, .int .i64 c.k, .int .i64 c.g, .int .u64 c.q, (.slice (some ⟨g, 0, none⟩) c.n cg), .int .i64 m.cnt, .int .i64 m.l.kind, .int .i64 m.l.a, .int .i64 m.l.b, .int .u64 (m.l.old : Nat), .int .u64 (m.l.new : Nat), .bool m.l.done])] w fun r w' => ∃ g' cg', r = .returned (.tuple #[.agg #[.int .i64 sl, .int .i64 5, .int .u64 (s : Nat), .int .u64 (q : Nat), .int .u64 (aw : Nat), .int .i64 an, .int .u64 (ha : Nat), .bool ad, .int .i64 te, .int .u64 (th : Nat), .int .u64 (tn : Nat), .bool false], (.agg #[.int .i64 c.t, .int .i64 c.s, .int .i64 c.k, .int .i64 c.g, .int .u64 c.q, (.slice (some ⟨g', 0, none⟩) c.n cg'), .int .i64 M.cnt, .int .i64 M.l.kind, .int .i64 M.l.a, .int .i64 M.l.b, .int .u64 (M.l.old : Nat), .int .u64 (M.l.new : Nat), .bool M.l.done])]) ∧ c.n ≤ cg' ∧ cg' ≤ maxLen ∧ Fr w g g' ∧ WordsOk c M ∧ BlkAt w' g' (rowW M.ws c.n) ∧ Below w.heap.size w w' := by
  have hS := Sx.read1 hB
  have HQW := hide hq
  clear hq
  have HR := hide hr
  have HW := hide hw
  have HM := hide hM
  clear hB hr hw hM
  go_enter Try.func15, Try.ntmps15
  go_wp2_with (first | (refine wpx_box hS rfl _ _ rfl _ rfl _ (by intro _; simp only [Act.put, List.setIfInBounds_toArray, List.set_cons_zero, List.set_cons_succ]; first | done | exact rfl) ?_; clear hS; intro _ _ hS; dsimp only [blit, List.set, List.cons_append, List.nil_append, Value.cells, List.toList_toArray] at hS) | (refine wpx_alloc hS rfl _ rfl _ (zer_any2 rfl) _ (by intro _; simp only [Act.put, List.setIfInBounds_toArray, List.set_cons_zero, List.set_cons_succ]; first | done | exact rfl) ?_; clear hS; intro _ _ hS; dsimp only [blit, List.set, List.cons_append, List.nil_append, Value.cells, List.toList_toArray] at hS) | (refine wpx_ld hS rfl _ _ rfl _ _ rfl ?_; (first | refine ⟨0, _, rfl, ?_⟩ | refine ⟨1, _, rfl, ?_⟩ | refine ⟨2, _, rfl, ?_⟩ | refine ⟨3, _, rfl, ?_⟩ | refine ⟨4, _, rfl, ?_⟩ | refine ⟨5, _, rfl, ?_⟩ | refine ⟨6, _, rfl, ?_⟩ | refine ⟨7, _, rfl, ?_⟩ | refine ⟨8, _, rfl, ?_⟩ | refine ⟨9, _, rfl, ?_⟩); first | refine .inl ⟨_, one_any2 rfl, rfl, _, (by simp only [Act.put, List.setIfInBounds_toArray, List.set_cons_zero, List.set_cons_succ]; first | done | exact rfl), ?_⟩ | refine .inr ⟨_, _, row_any2 rfl, rfl, (by dsimp only [cutL, List.drop, List.take]; first | done | exact rfl), _, (by simp only [Act.put, List.setIfInBounds_toArray, List.set_cons_zero, List.set_cons_succ]; first | done | exact rfl), ?_⟩) | (refine wpx_st hS rfl _ _ _ rfl rfl _ _ rfl ?_; (first | refine ⟨0, _, rfl, ?_⟩ | refine ⟨1, _, rfl, ?_⟩ | refine ⟨2, _, rfl, ?_⟩ | refine ⟨3, _, rfl, ?_⟩ | refine ⟨4, _, rfl, ?_⟩ | refine ⟨5, _, rfl, ?_⟩ | refine ⟨6, _, rfl, ?_⟩ | refine ⟨7, _, rfl, ?_⟩ | refine ⟨8, _, rfl, ?_⟩ | refine ⟨9, _, rfl, ?_⟩); refine ⟨_, (by first | exact shA rfl | exact shI rfl | exact shB rfl | exact shS rfl | exact shP rfl | exact shF rfl | exact shN rfl), _, siz_any2 rfl, (by exact rfl), (by exact rfl), (by exact rfl), ?_⟩; clear hS; intro _ hS; dsimp only [blit, List.set, List.cons_append, List.nil_append, Value.cells, List.toList_toArray] at hS))
  obtain ⟨OB, rfl⟩ := nameB hS 0 rfl
  obtain ⟨MB, rfl⟩ := nameB hS 1 rfl
  obtain ⟨R1, rfl⟩ := nameB hS 2 rfl
  obtain ⟨R2, rfl⟩ := nameB hS 3 rfl
  refine wp_region_ogt (fun ts D ts' w' => ∃ (g' : Nat) (cg' : Nat), ts' = putS ts [(119, cond (D 0) (.agg #[.int .i64 sl, .int .i64 5, .int .u64 (s : Nat), .int .u64 (q : Nat), .int .u64 (aw : Nat), .int .i64 an, .int .u64 (ha : Nat), .bool ad, .int .i64 te, .int .u64 (th : Nat), .int .u64 (tn : Nat), .bool false]) undef), (120, cond (D 1) (.agg #[.int .i64 c.t, .int .i64 c.s, .int .i64 c.k, .int .i64 c.g, .int .u64 c.q, (.slice (some ⟨g, 0, none⟩) c.n cg), .int .i64 m.cnt, .int .i64 m.l.kind, .int .i64 m.l.a, .int .i64 m.l.b, .int .u64 (m.l.old : Nat), .int .u64 (m.l.new : Nat), .bool m.l.done]) undef), (121, cond (D 2) (.pointer (some ⟨OB, 0, none⟩)) undef), (122, cond (D 3) (.int .i64 sl) undef), (123, cond (D 4) (.pointer (some ⟨OB, 3, none⟩)) undef), (124, cond (D 5) (.int .u64 (q : Nat)) undef), (125, cond (D 6) (.agg #[.int .i64 c.t, .int .i64 c.s, .int .i64 c.k, .int .i64 c.g, .int .u64 c.q, (.slice (some ⟨g', 0, none⟩) c.n cg'), .int .i64 M.cnt, .int .i64 M.l.kind, .int .i64 M.l.a, .int .i64 M.l.b, .int .u64 (M.l.old : Nat), .int .u64 (M.l.new : Nat), .bool M.l.done]) undef)] ∧ (D 6 = true → c.n ≤ cg' ∧ cg' ≤ maxLen ∧ Fr w g g' ∧ WordsOk c M) ∧ (D 8 = true → D 6 = true) ∧ Sx [] w w' [(OB, [.int .i64 sl, .int .i64 5, .int .u64 (s : Nat), .int .u64 (q : Nat), .int .u64 (aw : Nat), .int .i64 an, .int .u64 (ha : Nat), .bool ad, .int .i64 te, .int .u64 (th : Nat), .int .u64 (tn : Nat), .bool false]), (MB, [.int .i64 c.t, .int .i64 c.s, .int .i64 c.k, .int .i64 c.g, .int .u64 c.q, (.slice (some ⟨g, 0, none⟩) c.n cg), .int .i64 m.cnt, .int .i64 m.l.kind, .int .i64 m.l.a, .int .i64 m.l.b, .int .u64 (m.l.old : Nat), .int .u64 (m.l.new : Nat), .bool m.l.done]), (R1, cond (D 7) [.int .i64 sl, .int .i64 5, .int .u64 (s : Nat), .int .u64 (q : Nat), .int .u64 (aw : Nat), .int .i64 an, .int .u64 (ha : Nat), .bool ad, .int .i64 te, .int .u64 (th : Nat), .int .u64 (tn : Nat), .bool false] [.int .i64 0, .int .i64 0, .int .u64 0, .int .u64 0, .int .u64 0, .int .i64 0, .int .u64 0, .bool false, .int .i64 0, .int .u64 0, .int .u64 0, .bool false]), (R2, cond (D 8) [.int .i64 c.t, .int .i64 c.s, .int .i64 c.k, .int .i64 c.g, .int .u64 c.q, (.slice (some ⟨g', 0, none⟩) c.n cg'), .int .i64 M.cnt, .int .i64 M.l.kind, .int .i64 M.l.a, .int .i64 M.l.b, .int .u64 (M.l.old : Nat), .int .u64 (M.l.new : Nat), .bool M.l.done] [.int .i64 0, .int .i64 0, .int .i64 0, .int .i64 0, .int .u64 0, .slice none 0 0, .int .i64 0, .int .i64 0, .int .i64 0, .int .i64 0, .int .u64 0, .int .u64 0, .bool false])] [cond (D 6) (g', rowW M.ws c.n) (g, rowW m.ws c.n)]) (by kernel_rfl) (by kernel_rfl) ?start ?steps ?ends
  case start => exact ⟨0, 0, rfl, (fun h => by cases h), (fun h => by cases h), hS.drew⟩
  case steps =>
    intro i o hi D ts' w' hD hpre hI
    obtain ⟨g', cg', rfl, hc, hz, hS⟩ := hI
    dsimp only [putS, List.set]
    match i, hi with
    | 0, hi =>
      cases hi
      refine wpOp_step rfl (fun K hK => ?_)
      refine stp_val rfl (by refine yif_load (S := fun q => q = w') rfl _ _ rfl _ _ rfl _ (fun _ h => h ▸ hS.get 0 rfl) _ (row_any2 rfl) (by exact rfl) _ (by dsimp only [cutL, List.drop, List.take]; first | done | exact rfl)) rfl ?_
      exact hK _ _ ⟨_, rfl, g', cg', rfl, hc, hz, hS⟩
    | 1, hi =>
      cases hi
      refine wpOp_step rfl (fun K hK => ?_)
      refine stp_val rfl (by refine yif_load (S := fun q => q = w') rfl _ _ rfl _ _ rfl _ (fun _ h => h ▸ hS.get 1 rfl) _ (row_any2 rfl) (by exact rfl) _ (by dsimp only [cutL, List.drop, List.take]; first | done | exact rfl)) rfl ?_
      exact hK _ _ ⟨_, rfl, g', cg', rfl, hc, hz, hS⟩
    | 2, hi =>
      cases hi
      refine wpOp_step rfl (fun K hK => ?_)
      refine stp_val rfl (yif_by rfl _ (fun w => by go_simp; first | done | exact rfl)) rfl ?_
      exact hK _ _ ⟨_, rfl, g', cg', rfl, hc, hz, hS⟩
    | 3, hi =>
      cases hi
      have d2 : D 2 = true := og_pre hpre (j := 2) (by kernel_rfl)
      refine wpOp_step rfl (fun K hK => ?_)
      refine stp_val rfl (by refine yif_load1 (S := fun q => q = w') rfl _ (.tmp 121) rfl OB 0 ?_ _ (fun _ h => h ▸ hS.get 0 rfl) (one_any2 rfl) _ rfl; exact cond_at d2 rfl) rfl ?_
      exact hK _ _ ⟨_, rfl, g', cg', rfl, hc, hz, hS⟩
    | 4, hi =>
      cases hi
      refine wpOp_step rfl (fun K hK => ?_)
      refine stp_val rfl (yif_by rfl _ (fun w => by go_simp; first | done | exact rfl)) rfl ?_
      exact hK _ _ ⟨_, rfl, g', cg', rfl, hc, hz, hS⟩
    | 5, hi =>
      cases hi
      have d4 : D 4 = true := og_pre hpre (j := 4) (by kernel_rfl)
      refine wpOp_step rfl (fun K hK => ?_)
      refine stp_val rfl (by refine yif_load1 (S := fun q => q = w') rfl _ (.tmp 123) rfl OB 3 ?_ _ (fun _ h => h ▸ hS.get 0 rfl) (one_any2 rfl) _ rfl; exact cond_at d4 rfl) rfl ?_
      exact hK _ _ ⟨_, rfl, g', cg', rfl, hc, hz, hS⟩
    | 6, hi =>
      cases hi
      have d1 : D 1 = true := og_pre hpre (j := 1) (by kernel_rfl)
      have d3 : D 3 = true := og_pre hpre (j := 3) (by kernel_rfl)
      have d5 : D 5 = true := og_pre hpre (j := 5) (by kernel_rfl)
      refine wpOp_step rfl (fun K hK => ?_)
      refine stp_call rfl _ _ _ rfl egSto _ (list4_eq (cond_at d1 rfl) rfl (cond_at d3 rfl) (cond_at d5 rfl)) _ rfl ?_
      have z0 := og_not hz hD
      simp only [hD, cond_false] at hS
      have hSz := hS.size
      refine (rStore_x hS 0 rfl (unhide HR) (unhide HW) h1 h2 5 sl q (unhide HQW) M (unhide HM)).mono ?_
      rintro r u ⟨gn, cgn, rfl, q1, q2, hFr, hW2, hSn⟩
      rw [z0] at hSn
      refine ⟨_, rfl, hK _ _ ⟨_, rfl, gn, cgn, rfl, (fun _ => ⟨q1, q2, (Fr.refl w g).trans hFr hSz, hW2⟩), (fun _ => rfl), ?_⟩⟩
      show Sx _ _ _ [_, _, _, (_, cond (D 8) _ _)] _
      rw [z0]
      exact hSn
    | 7, hi =>
      cases hi
      have d0 : D 0 = true := og_pre hpre (j := 0) (by kernel_rfl)
      refine wpOp_step rfl (fun K hK => ?_)
      simp only [hD, cond_false] at hS
      refine stx_store hS 2 rfl _ _ _ rfl _ _ rfl _ rfl _ (cond_at d0 rfl) _ rfl _ (siz_any2 rfl) (by exact rfl) (by exact rfl) (by exact rfl) rfl ?_
      intro u hS'
      exact hK _ _ ⟨_, rfl, g', cg', rfl, hc, hz, hS'⟩
    | 8, hi =>
      cases hi
      have d6 : D 6 = true := og_pre hpre (j := 6) (by kernel_rfl)
      refine wpOp_step rfl (fun K hK => ?_)
      simp only [hD, cond_false] at hS
      refine stx_store hS 3 rfl _ _ _ rfl _ _ rfl _ rfl _ (cond_at d6 rfl) _ rfl _ (siz_any2 rfl) (by exact rfl) (by exact rfl) (by exact rfl) rfl ?_
      intro u hS'
      exact hK _ _ ⟨_, rfl, g', cg', rfl, hc, (fun _ => d6), hS'⟩
    | i + 9, hi => simp at hi
  case ends =>
    intro D ts' w' hall hI
    obtain ⟨g', cg', rfl, hc, hz, hS⟩ := hI
    have d0 : D 0 = true := hall 0 (by decide)
    have d1 : D 1 = true := hall 1 (by decide)
    have d2 : D 2 = true := hall 2 (by decide)
    have d3 : D 3 = true := hall 3 (by decide)
    have d4 : D 4 = true := hall 4 (by decide)
    have d5 : D 5 = true := hall 5 (by decide)
    have d6 : D 6 = true := hall 6 (by decide)
    have d7 : D 7 = true := hall 7 (by decide)
    have d8 : D 8 = true := hall 8 (by decide)
    simp only [d6, d7, d8, cond_true] at hS
    dsimp only [putS, List.set]
    simp only [d0, d1, d2, d3, d4, d5, d6, cond_true]
    obtain ⟨q1, q2, hFr, hW2⟩ := hc d6
    have HW2 := hide hW2
    clear hall hc hz hW2 d0 d1 d2 d3 d4 d5 d6 d7 d8
    go_wp2
    have hZ := hS.get 2 rfl
    have hY := hS.get 3 rfl
    refine bodyPost_ret (v := .tuple #[.agg #[.int .i64 sl, .int .i64 5, .int .u64 (s : Nat), .int .u64 (q : Nat), .int .u64 (aw : Nat), .int .i64 an, .int .u64 (ha : Nat), .bool ad, .int .i64 te, .int .u64 (th : Nat), .int .u64 (tn : Nat), .bool false], (.agg #[.int .i64 c.t, .int .i64 c.s, .int .i64 c.k, .int .i64 c.g, .int .u64 c.q, (.slice (some ⟨g', 0, none⟩) c.n cg'), .int .i64 M.cnt, .int .i64 M.l.kind, .int .i64 M.l.a, .int .i64 M.l.b, .int .u64 (M.l.old : Nat), .int .u64 (M.l.new : Nat), .bool M.l.done])]) (by simp [results, Try.results15, go_sem, hZ.cell 0 _ rfl, hZ.cell 1 _ rfl, hZ.cell 2 _ rfl, hZ.cell 3 _ rfl, hZ.cell 4 _ rfl, hZ.cell 5 _ rfl, hZ.cell 6 _ rfl, hZ.cell 7 _ rfl, hZ.cell 8 _ rfl, hZ.cell 9 _ rfl, hZ.cell 10 _ rfl, hZ.cell 11 _ rfl, hY.cell 0 _ rfl, hY.cell 1 _ rfl, hY.cell 2 _ rfl, hY.cell 3 _ rfl, hY.cell 4 _ rfl, hY.cell 5 _ rfl, hY.cell 6 _ rfl, hY.cell 7 _ rfl, hY.cell 8 _ rfl, hY.cell 9 _ rfl, hY.cell 10 _ rfl, hY.cell 11 _ rfl, hY.cell 12 _ rfl]) rfl ?_
    exact ⟨g', cg', rfl, q1, q2, hFr, unhide HW2, hS.getE 0 rfl, hS.bel⟩

set_option maxHeartbeats 8000000 in
theorem rStep9_5 (w : World) (c : Um.Cf) (m M : Um.Mm) (g cg : Nat) (sl : Int) (s q aw ha th tn : Nat) (an te : Int) (ad : Bool) (hs : Um.Word s) (hB : BlkAt w g (rowW m.ws c.n)) (hr : c.r = true) (hw : WordsOk c m) (h1 : c.n ≤ cg) (h2 : cg ≤ maxLen) (hM : M = Um.mtouch c m 2 4 sl 0 (Um.moveN s 2 false)) :
    Calls Try.prog 15 #[.agg #[.int .i64 sl, .int .i64 5, .int .u64 (s : Nat), .int .u64 (q : Nat), .int .u64 (aw : Nat), .int .i64 an, .int .u64 (ha : Nat), .bool ad, .int .i64 te, .int .u64 (th : Nat), .int .u64 (tn : Nat), .bool false], (.agg #[.int .i64 c.t, .int .i64 c.s, .int .i64 c.k, .int .i64 c.g, .int .u64 c.q, (.slice (some ⟨g, 0, none⟩) c.n cg), .int .i64 m.cnt, .int .i64 m.l.kind, .int .i64 m.l.a, .int .i64 m.l.b, .int .u64 (m.l.old : Nat), .int .u64 (m.l.new : Nat), .bool m.l.done])] w fun r w' => ∃ g' cg', r = .returned (.tuple #[.agg #[.int .i64 sl, .int .i64 5, .int .u64 (s : Nat), .int .u64 (q : Nat), .int .u64 (aw : Nat), .int .i64 an, .int .u64 (ha : Nat), .bool ad, .int .i64 0, .int .u64 (Um.mkN sl ((Um.gnN s : Nat) : Int) : Nat), .int .u64 (q : Nat), .bool true], (.agg #[.int .i64 c.t, .int .i64 c.s, .int .i64 c.k, .int .i64 c.g, .int .u64 c.q, (.slice (some ⟨g', 0, none⟩) c.n cg'), .int .i64 M.cnt, .int .i64 M.l.kind, .int .i64 M.l.a, .int .i64 M.l.b, .int .u64 (M.l.old : Nat), .int .u64 (M.l.new : Nat), .bool M.l.done])]) ∧ c.n ≤ cg' ∧ cg' ≤ maxLen ∧ Fr w g g' ∧ WordsOk c M ∧ BlkAt w' g' (rowW M.ws c.n) ∧ Below w.heap.size w w' := by
  have hS := Sx.read1 hB
  have HSW := hide hs
  clear hs
  have HR := hide hr
  have HW := hide hw
  have HM := hide hM
  clear hB hr hw hM
  go_enter Try.func15, Try.ntmps15
  go_wp2_with (first | (refine wpx_box hS rfl _ _ rfl _ rfl _ (by intro _; simp only [Act.put, List.setIfInBounds_toArray, List.set_cons_zero, List.set_cons_succ]; first | done | exact rfl) ?_; clear hS; intro _ _ hS; dsimp only [blit, List.set, List.cons_append, List.nil_append, Value.cells, List.toList_toArray] at hS) | (refine wpx_alloc hS rfl _ rfl _ (zer_any2 rfl) _ (by intro _; simp only [Act.put, List.setIfInBounds_toArray, List.set_cons_zero, List.set_cons_succ]; first | done | exact rfl) ?_; clear hS; intro _ _ hS; dsimp only [blit, List.set, List.cons_append, List.nil_append, Value.cells, List.toList_toArray] at hS) | (refine wpx_ld hS rfl _ _ rfl _ _ rfl ?_; (first | refine ⟨0, _, rfl, ?_⟩ | refine ⟨1, _, rfl, ?_⟩ | refine ⟨2, _, rfl, ?_⟩ | refine ⟨3, _, rfl, ?_⟩ | refine ⟨4, _, rfl, ?_⟩ | refine ⟨5, _, rfl, ?_⟩ | refine ⟨6, _, rfl, ?_⟩ | refine ⟨7, _, rfl, ?_⟩ | refine ⟨8, _, rfl, ?_⟩ | refine ⟨9, _, rfl, ?_⟩); first | refine .inl ⟨_, one_any2 rfl, rfl, _, (by simp only [Act.put, List.setIfInBounds_toArray, List.set_cons_zero, List.set_cons_succ]; first | done | exact rfl), ?_⟩ | refine .inr ⟨_, _, row_any2 rfl, rfl, (by dsimp only [cutL, List.drop, List.take]; first | done | exact rfl), _, (by simp only [Act.put, List.setIfInBounds_toArray, List.set_cons_zero, List.set_cons_succ]; first | done | exact rfl), ?_⟩) | (refine wpx_st hS rfl _ _ _ rfl rfl _ _ rfl ?_; (first | refine ⟨0, _, rfl, ?_⟩ | refine ⟨1, _, rfl, ?_⟩ | refine ⟨2, _, rfl, ?_⟩ | refine ⟨3, _, rfl, ?_⟩ | refine ⟨4, _, rfl, ?_⟩ | refine ⟨5, _, rfl, ?_⟩ | refine ⟨6, _, rfl, ?_⟩ | refine ⟨7, _, rfl, ?_⟩ | refine ⟨8, _, rfl, ?_⟩ | refine ⟨9, _, rfl, ?_⟩); refine ⟨_, (by first | exact shA rfl | exact shI rfl | exact shB rfl | exact shS rfl | exact shP rfl | exact shF rfl | exact shN rfl), _, siz_any2 rfl, (by exact rfl), (by exact rfl), (by exact rfl), ?_⟩; clear hS; intro _ hS; dsimp only [blit, List.set, List.cons_append, List.nil_append, Value.cells, List.toList_toArray] at hS))
  obtain ⟨u, rfl⟩ := nameW hS
  have k0 := cell_regrown ((hS.get 0 rfl).cell 0 _ rfl)
  have k2 := cell_regrown ((hS.get 0 rfl).cell 2 _ rfl)
  have HSQ := hide hS
  clear hS
  refine wp_region_quiet_below (by kernel_rfl) (by kernel_rfl) ?_
  repeat (go_big_quiet_step (first | (go_at_call 22; exact Calls.regrown_of (rGen_b _ _ (unhide HSW))) | (go_at_call 24; exact Calls.regrown_of (same_below (krMake_any _ _ _)))))
  refine wpQuiet_nil ?_
  intro _ hw'
  obtain ⟨⟨dq, osq⟩, hw''⟩ := hw'
  subst hw''
  have hS := (unhide HSQ).call (below_regrown u dq osq)
  clear HSQ k0 k2
  generalize grow (redrawn u dq) osq = u9 at *
  go_wp2_with (first | (refine wpx_box hS rfl _ _ rfl _ rfl _ (by intro _; simp only [Act.put, List.setIfInBounds_toArray, List.set_cons_zero, List.set_cons_succ]; first | done | exact rfl) ?_; clear hS; intro _ _ hS; dsimp only [blit, List.set, List.cons_append, List.nil_append, Value.cells, List.toList_toArray] at hS) | (refine wpx_alloc hS rfl _ rfl _ (zer_any2 rfl) _ (by intro _; simp only [Act.put, List.setIfInBounds_toArray, List.set_cons_zero, List.set_cons_succ]; first | done | exact rfl) ?_; clear hS; intro _ _ hS; dsimp only [blit, List.set, List.cons_append, List.nil_append, Value.cells, List.toList_toArray] at hS) | (refine wpx_ld hS rfl _ _ rfl _ _ rfl ?_; (first | refine ⟨0, _, rfl, ?_⟩ | refine ⟨1, _, rfl, ?_⟩ | refine ⟨2, _, rfl, ?_⟩ | refine ⟨3, _, rfl, ?_⟩ | refine ⟨4, _, rfl, ?_⟩ | refine ⟨5, _, rfl, ?_⟩ | refine ⟨6, _, rfl, ?_⟩ | refine ⟨7, _, rfl, ?_⟩ | refine ⟨8, _, rfl, ?_⟩ | refine ⟨9, _, rfl, ?_⟩); first | refine .inl ⟨_, one_any2 rfl, rfl, _, (by simp only [Act.put, List.setIfInBounds_toArray, List.set_cons_zero, List.set_cons_succ]; first | done | exact rfl), ?_⟩ | refine .inr ⟨_, _, row_any2 rfl, rfl, (by dsimp only [cutL, List.drop, List.take]; first | done | exact rfl), _, (by simp only [Act.put, List.setIfInBounds_toArray, List.set_cons_zero, List.set_cons_succ]; first | done | exact rfl), ?_⟩) | (refine wpx_st hS rfl _ _ _ rfl rfl _ _ rfl ?_; (first | refine ⟨0, _, rfl, ?_⟩ | refine ⟨1, _, rfl, ?_⟩ | refine ⟨2, _, rfl, ?_⟩ | refine ⟨3, _, rfl, ?_⟩ | refine ⟨4, _, rfl, ?_⟩ | refine ⟨5, _, rfl, ?_⟩ | refine ⟨6, _, rfl, ?_⟩ | refine ⟨7, _, rfl, ?_⟩ | refine ⟨8, _, rfl, ?_⟩ | refine ⟨9, _, rfl, ?_⟩); refine ⟨_, (by first | exact shA rfl | exact shI rfl | exact shB rfl | exact shS rfl | exact shP rfl | exact shF rfl | exact shN rfl), _, siz_any2 rfl, (by exact rfl), (by exact rfl), (by exact rfl), ?_⟩; clear hS; intro _ hS; dsimp only [blit, List.set, List.cons_append, List.nil_append, Value.cells, List.toList_toArray] at hS))
  obtain ⟨OB, rfl⟩ := nameB hS 0 rfl
  obtain ⟨MB, rfl⟩ := nameB hS 1 rfl
  obtain ⟨R1, rfl⟩ := nameB hS 2 rfl
  obtain ⟨R2, rfl⟩ := nameB hS 3 rfl
  refine wp_region_ogt (fun ts D ts' w' => ∃ (g' : Nat) (cg' : Nat), ts' = putS ts [(141, cond (D 0) (.agg #[.int .i64 sl, .int .i64 5, .int .u64 (s : Nat), .int .u64 (q : Nat), .int .u64 (aw : Nat), .int .i64 an, .int .u64 (ha : Nat), .bool ad, .int .i64 0, .int .u64 (Um.mkN sl ((Um.gnN s : Nat) : Int) : Nat), .int .u64 (q : Nat), .bool true]) undef), (142, cond (D 1) (.agg #[.int .i64 c.t, .int .i64 c.s, .int .i64 c.k, .int .i64 c.g, .int .u64 c.q, (.slice (some ⟨g, 0, none⟩) c.n cg), .int .i64 m.cnt, .int .i64 m.l.kind, .int .i64 m.l.a, .int .i64 m.l.b, .int .u64 (m.l.old : Nat), .int .u64 (m.l.new : Nat), .bool m.l.done]) undef), (143, cond (D 2) (.pointer (some ⟨OB, 0, none⟩)) undef), (144, cond (D 3) (.int .i64 sl) undef), (145, cond (D 4) (.pointer (some ⟨OB, 2, none⟩)) undef), (146, cond (D 5) (.int .u64 (s : Nat)) undef), (147, cond (D 6) (.int .u64 (Um.moveN s 2 false : Int)) undef), (148, cond (D 7) (.agg #[.int .i64 c.t, .int .i64 c.s, .int .i64 c.k, .int .i64 c.g, .int .u64 c.q, (.slice (some ⟨g', 0, none⟩) c.n cg'), .int .i64 M.cnt, .int .i64 M.l.kind, .int .i64 M.l.a, .int .i64 M.l.b, .int .u64 (M.l.old : Nat), .int .u64 (M.l.new : Nat), .bool M.l.done]) undef)] ∧ (D 7 = true → c.n ≤ cg' ∧ cg' ≤ maxLen ∧ Fr w g g' ∧ WordsOk c M) ∧ (D 9 = true → D 7 = true) ∧ Sx [] w w' [(OB, [.int .i64 sl, .int .i64 5, .int .u64 (s : Nat), .int .u64 (q : Nat), .int .u64 (aw : Nat), .int .i64 an, .int .u64 (ha : Nat), .bool ad, .int .i64 0, .int .u64 (Um.mkN sl ((Um.gnN s : Nat) : Int) : Nat), .int .u64 (q : Nat), .bool true]), (MB, [.int .i64 c.t, .int .i64 c.s, .int .i64 c.k, .int .i64 c.g, .int .u64 c.q, (.slice (some ⟨g, 0, none⟩) c.n cg), .int .i64 m.cnt, .int .i64 m.l.kind, .int .i64 m.l.a, .int .i64 m.l.b, .int .u64 (m.l.old : Nat), .int .u64 (m.l.new : Nat), .bool m.l.done]), (R1, cond (D 8) [.int .i64 sl, .int .i64 5, .int .u64 (s : Nat), .int .u64 (q : Nat), .int .u64 (aw : Nat), .int .i64 an, .int .u64 (ha : Nat), .bool ad, .int .i64 0, .int .u64 (Um.mkN sl ((Um.gnN s : Nat) : Int) : Nat), .int .u64 (q : Nat), .bool true] [.int .i64 0, .int .i64 0, .int .u64 0, .int .u64 0, .int .u64 0, .int .i64 0, .int .u64 0, .bool false, .int .i64 0, .int .u64 0, .int .u64 0, .bool false]), (R2, cond (D 9) [.int .i64 c.t, .int .i64 c.s, .int .i64 c.k, .int .i64 c.g, .int .u64 c.q, (.slice (some ⟨g', 0, none⟩) c.n cg'), .int .i64 M.cnt, .int .i64 M.l.kind, .int .i64 M.l.a, .int .i64 M.l.b, .int .u64 (M.l.old : Nat), .int .u64 (M.l.new : Nat), .bool M.l.done] [.int .i64 0, .int .i64 0, .int .i64 0, .int .i64 0, .int .u64 0, .slice none 0 0, .int .i64 0, .int .i64 0, .int .i64 0, .int .i64 0, .int .u64 0, .int .u64 0, .bool false])] [cond (D 7) (g', rowW M.ws c.n) (g, rowW m.ws c.n)]) (by kernel_rfl) (by kernel_rfl) ?start ?steps ?ends
  case start => exact ⟨0, 0, rfl, (fun h => by cases h), (fun h => by cases h), hS.drew⟩
  case steps =>
    intro i o hi D ts' w' hD hpre hI
    obtain ⟨g', cg', rfl, hc, hz, hS⟩ := hI
    dsimp only [putS, List.set]
    match i, hi with
    | 0, hi =>
      cases hi
      refine wpOp_step rfl (fun K hK => ?_)
      refine stp_val rfl (by refine yif_load (S := fun q => q = w') rfl _ _ rfl _ _ rfl _ (fun _ h => h ▸ hS.get 0 rfl) _ (row_any2 rfl) (by exact rfl) _ (by dsimp only [cutL, List.drop, List.take]; first | done | exact rfl)) rfl ?_
      exact hK _ _ ⟨_, rfl, g', cg', rfl, hc, hz, hS⟩
    | 1, hi =>
      cases hi
      refine wpOp_step rfl (fun K hK => ?_)
      refine stp_val rfl (by refine yif_load (S := fun q => q = w') rfl _ _ rfl _ _ rfl _ (fun _ h => h ▸ hS.get 1 rfl) _ (row_any2 rfl) (by exact rfl) _ (by dsimp only [cutL, List.drop, List.take]; first | done | exact rfl)) rfl ?_
      exact hK _ _ ⟨_, rfl, g', cg', rfl, hc, hz, hS⟩
    | 2, hi =>
      cases hi
      refine wpOp_step rfl (fun K hK => ?_)
      refine stp_val rfl (yif_by rfl _ (fun w => by go_simp; first | done | exact rfl)) rfl ?_
      exact hK _ _ ⟨_, rfl, g', cg', rfl, hc, hz, hS⟩
    | 3, hi =>
      cases hi
      have d2 : D 2 = true := og_pre hpre (j := 2) (by kernel_rfl)
      refine wpOp_step rfl (fun K hK => ?_)
      refine stp_val rfl (by refine yif_load1 (S := fun q => q = w') rfl _ (.tmp 143) rfl OB 0 ?_ _ (fun _ h => h ▸ hS.get 0 rfl) (one_any2 rfl) _ rfl; exact cond_at d2 rfl) rfl ?_
      exact hK _ _ ⟨_, rfl, g', cg', rfl, hc, hz, hS⟩
    | 4, hi =>
      cases hi
      refine wpOp_step rfl (fun K hK => ?_)
      refine stp_val rfl (yif_by rfl _ (fun w => by go_simp; first | done | exact rfl)) rfl ?_
      exact hK _ _ ⟨_, rfl, g', cg', rfl, hc, hz, hS⟩
    | 5, hi =>
      cases hi
      have d4 : D 4 = true := og_pre hpre (j := 4) (by kernel_rfl)
      refine wpOp_step rfl (fun K hK => ?_)
      refine stp_val rfl (by refine yif_load1 (S := fun q => q = w') rfl _ (.tmp 145) rfl OB 2 ?_ _ (fun _ h => h ▸ hS.get 0 rfl) (one_any2 rfl) _ rfl; exact cond_at d4 rfl) rfl ?_
      exact hK _ _ ⟨_, rfl, g', cg', rfl, hc, hz, hS⟩
    | 6, hi =>
      cases hi
      have d5 : D 5 = true := og_pre hpre (j := 5) (by kernel_rfl)
      refine wpOp_step rfl (fun K hK => ?_)
      refine stp_call rfl _ _ _ rfl egMv _ (list3_eq (cond_at d5 rfl) rfl rfl) _ rfl ?_
      refine (rMove2_x hS s (unhide HSW)).mono ?_
      rintro r u ⟨rfl, hS2⟩
      exact ⟨_, rfl, hK _ _ ⟨_, rfl, g', cg', rfl, hc, hz, hS2⟩⟩
    | 7, hi =>
      cases hi
      have d1 : D 1 = true := og_pre hpre (j := 1) (by kernel_rfl)
      have d3 : D 3 = true := og_pre hpre (j := 3) (by kernel_rfl)
      have d6 : D 6 = true := og_pre hpre (j := 6) (by kernel_rfl)
      refine wpOp_step rfl (fun K hK => ?_)
      refine stp_call rfl _ _ _ rfl egSto _ (list4_eq (cond_at d1 rfl) rfl (cond_at d3 rfl) (cond_at d6 rfl)) _ rfl ?_
      have z0 := og_not hz hD
      simp only [hD, cond_false] at hS
      have hSz := hS.size
      refine (rStore_x hS 0 rfl (unhide HR) (unhide HW) h1 h2 4 sl (Um.moveN s 2 false) (Um.move_word (unhide HSW) (by decide)) M (unhide HM)).mono ?_
      rintro r u ⟨gn, cgn, rfl, q1, q2, hFr, hW2, hSn⟩
      rw [z0] at hSn
      refine ⟨_, rfl, hK _ _ ⟨_, rfl, gn, cgn, rfl, (fun _ => ⟨q1, q2, (Fr.refl w g).trans hFr hSz, hW2⟩), (fun _ => rfl), ?_⟩⟩
      show Sx _ _ _ [_, _, _, (_, cond (D 9) _ _)] _
      rw [z0]
      exact hSn
    | 8, hi =>
      cases hi
      have d0 : D 0 = true := og_pre hpre (j := 0) (by kernel_rfl)
      refine wpOp_step rfl (fun K hK => ?_)
      simp only [hD, cond_false] at hS
      refine stx_store hS 2 rfl _ _ _ rfl _ _ rfl _ rfl _ (cond_at d0 rfl) _ rfl _ (siz_any2 rfl) (by exact rfl) (by exact rfl) (by exact rfl) rfl ?_
      intro u hS'
      exact hK _ _ ⟨_, rfl, g', cg', rfl, hc, hz, hS'⟩
    | 9, hi =>
      cases hi
      have d7 : D 7 = true := og_pre hpre (j := 7) (by kernel_rfl)
      refine wpOp_step rfl (fun K hK => ?_)
      simp only [hD, cond_false] at hS
      refine stx_store hS 3 rfl _ _ _ rfl _ _ rfl _ rfl _ (cond_at d7 rfl) _ rfl _ (siz_any2 rfl) (by exact rfl) (by exact rfl) (by exact rfl) rfl ?_
      intro u hS'
      exact hK _ _ ⟨_, rfl, g', cg', rfl, hc, (fun _ => d7), hS'⟩
    | i + 10, hi => simp at hi
  case ends =>
    intro D ts' w' hall hI
    obtain ⟨g', cg', rfl, hc, hz, hS⟩ := hI
    have d0 : D 0 = true := hall 0 (by decide)
    have d1 : D 1 = true := hall 1 (by decide)
    have d2 : D 2 = true := hall 2 (by decide)
    have d3 : D 3 = true := hall 3 (by decide)
    have d4 : D 4 = true := hall 4 (by decide)
    have d5 : D 5 = true := hall 5 (by decide)
    have d6 : D 6 = true := hall 6 (by decide)
    have d7 : D 7 = true := hall 7 (by decide)
    have d8 : D 8 = true := hall 8 (by decide)
    have d9 : D 9 = true := hall 9 (by decide)
    simp only [d7, d8, d9, cond_true] at hS
    dsimp only [putS, List.set]
    simp only [d0, d1, d2, d3, d4, d5, d6, d7, cond_true]
    obtain ⟨q1, q2, hFr, hW2⟩ := hc d7
    have HW2 := hide hW2
    clear hall hc hz hW2 d0 d1 d2 d3 d4 d5 d6 d7 d8 d9
    go_wp2
    have hZ := hS.get 2 rfl
    have hY := hS.get 3 rfl
    refine bodyPost_ret (v := .tuple #[.agg #[.int .i64 sl, .int .i64 5, .int .u64 (s : Nat), .int .u64 (q : Nat), .int .u64 (aw : Nat), .int .i64 an, .int .u64 (ha : Nat), .bool ad, .int .i64 0, .int .u64 (Um.mkN sl ((Um.gnN s : Nat) : Int) : Nat), .int .u64 (q : Nat), .bool true], (.agg #[.int .i64 c.t, .int .i64 c.s, .int .i64 c.k, .int .i64 c.g, .int .u64 c.q, (.slice (some ⟨g', 0, none⟩) c.n cg'), .int .i64 M.cnt, .int .i64 M.l.kind, .int .i64 M.l.a, .int .i64 M.l.b, .int .u64 (M.l.old : Nat), .int .u64 (M.l.new : Nat), .bool M.l.done])]) (by simp [results, Try.results15, go_sem, hZ.cell 0 _ rfl, hZ.cell 1 _ rfl, hZ.cell 2 _ rfl, hZ.cell 3 _ rfl, hZ.cell 4 _ rfl, hZ.cell 5 _ rfl, hZ.cell 6 _ rfl, hZ.cell 7 _ rfl, hZ.cell 8 _ rfl, hZ.cell 9 _ rfl, hZ.cell 10 _ rfl, hZ.cell 11 _ rfl, hY.cell 0 _ rfl, hY.cell 1 _ rfl, hY.cell 2 _ rfl, hY.cell 3 _ rfl, hY.cell 4 _ rfl, hY.cell 5 _ rfl, hY.cell 6 _ rfl, hY.cell 7 _ rfl, hY.cell 8 _ rfl, hY.cell 9 _ rfl, hY.cell 10 _ rfl, hY.cell 11 _ rfl, hY.cell 12 _ rfl]) rfl ?_
    exact ⟨g', cg', rfl, q1, q2, hFr, unhide HW2, hS.getE 0 rfl, hS.bel⟩

end Go.Proofs.Ytkiaogbddfjkkaa
