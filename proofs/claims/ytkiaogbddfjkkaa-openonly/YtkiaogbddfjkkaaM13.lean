/-
  Texts that the laws stand on, merged (HelpR2).
-/
import Derived.Test.YtkiaogbddfjkkaaM11
import Derived.Test.YtkiaogbddfjkkaaM12
import Derived.Test.YtkiaogbddfjkkaaM4
import Derived.Test.YtkiaogbddfjkkaaM5

/-
  The walks of the document's own help: it lays, it settles.
-/
namespace Go.Proofs.Ytkiaogbddfjkkaa
set_option maxRecDepth 100000
open Go.RowKit Go.Sort

set_option maxHeartbeats 8000000 in
theorem rStep8_2 (w : World) (c : Um.Cf) (m M : Um.Mm) (g cg : Nat) (x s : Nat) (nx2 : Int) (hnx : nx2 = cond M.l.done 3 1) (hx : Um.Word x) (hs : Um.Word s) (hB : BlkAt w g (rowW m.ws c.n)) (hr : c.r = true) (hw : WordsOk c m) (h1 : c.n ≤ cg) (h2 : cg ≤ maxLen) (hM : M = Um.mtouch c m 3 4 (Um.penN x) s (Um.comN s)) :
    Calls Try.prog 45 #[.agg #[.int .u64 (x : Nat), .int .i64 2, .int .u64 (s : Nat), .bool false], (.agg #[.int .i64 c.t, .int .i64 c.s, .int .i64 c.k, .int .i64 c.g, .int .u64 c.q, (.slice (some ⟨g, 0, none⟩) c.n cg), .int .i64 m.cnt, .int .i64 m.l.kind, .int .i64 m.l.a, .int .i64 m.l.b, .int .u64 (m.l.old : Nat), .int .u64 (m.l.new : Nat), .bool m.l.done])] w fun r w' => ∃ g' cg', r = .returned (.tuple #[.agg #[.int .u64 (x : Nat), .int .i64 nx2, .int .u64 (s : Nat), .bool false], (.agg #[.int .i64 c.t, .int .i64 c.s, .int .i64 c.k, .int .i64 c.g, .int .u64 c.q, (.slice (some ⟨g', 0, none⟩) c.n cg'), .int .i64 M.cnt, .int .i64 M.l.kind, .int .i64 M.l.a, .int .i64 M.l.b, .int .u64 (M.l.old : Nat), .int .u64 (M.l.new : Nat), .bool M.l.done])]) ∧ c.n ≤ cg' ∧ cg' ≤ maxLen ∧ Fr w g g' ∧ WordsOk c M ∧ BlkAt w' g' (rowW M.ws c.n) ∧ Below w.heap.size w w' := by
  have hS := Sx.read w [(g, rowW m.ws c.n)] (fun p hp => by obtain rfl : p = _ := by simpa using hp
                                                            exact hB)
  have HNX := hide hnx
  clear hnx
  have HR := hide hr
  have HW := hide hw
  have HM := hide hM
  have HXW := hide hx
  have HSW := hide hs
  clear hB hr hw hM hx hs
  go_enter Try.func45, Try.ntmps45
  go_wp2_with (first | (refine wpx_box hS rfl _ _ rfl _ rfl _ (by intro _; simp only [Act.put, List.setIfInBounds_toArray, List.set_cons_zero, List.set_cons_succ]; first | done | exact rfl) ?_; clear hS; intro _ _ hS; dsimp only [blit, List.set, List.cons_append, List.nil_append, Value.cells, List.toList_toArray] at hS) | (refine wpx_alloc hS rfl _ rfl _ (zer_any2 rfl) _ (by intro _; simp only [Act.put, List.setIfInBounds_toArray, List.set_cons_zero, List.set_cons_succ]; first | done | exact rfl) ?_; clear hS; intro _ _ hS; dsimp only [blit, List.set, List.cons_append, List.nil_append, Value.cells, List.toList_toArray] at hS) | (refine wpx_ld hS rfl _ _ rfl _ _ rfl ?_; (first | refine ⟨0, _, rfl, ?_⟩ | refine ⟨1, _, rfl, ?_⟩ | refine ⟨2, _, rfl, ?_⟩ | refine ⟨3, _, rfl, ?_⟩ | refine ⟨4, _, rfl, ?_⟩ | refine ⟨5, _, rfl, ?_⟩ | refine ⟨6, _, rfl, ?_⟩ | refine ⟨7, _, rfl, ?_⟩ | refine ⟨8, _, rfl, ?_⟩ | refine ⟨9, _, rfl, ?_⟩); first | refine .inl ⟨_, one_any2 rfl, rfl, _, (by simp only [Act.put, List.setIfInBounds_toArray, List.set_cons_zero, List.set_cons_succ]; first | done | exact rfl), ?_⟩ | refine .inr ⟨_, _, row_any2 rfl, rfl, (by dsimp only [cutL, List.drop, List.take]; first | done | exact rfl), _, (by simp only [Act.put, List.setIfInBounds_toArray, List.set_cons_zero, List.set_cons_succ]; first | done | exact rfl), ?_⟩) | (refine wpx_st hS rfl _ _ _ rfl rfl _ _ rfl ?_; (first | refine ⟨0, _, rfl, ?_⟩ | refine ⟨1, _, rfl, ?_⟩ | refine ⟨2, _, rfl, ?_⟩ | refine ⟨3, _, rfl, ?_⟩ | refine ⟨4, _, rfl, ?_⟩ | refine ⟨5, _, rfl, ?_⟩ | refine ⟨6, _, rfl, ?_⟩ | refine ⟨7, _, rfl, ?_⟩ | refine ⟨8, _, rfl, ?_⟩ | refine ⟨9, _, rfl, ?_⟩); refine ⟨_, (by first | exact shA rfl | exact shI rfl | exact shB rfl | exact shS rfl | exact shP rfl | exact shF rfl | exact shN rfl), _, siz_any2 rfl, (by exact rfl), (by exact rfl), (by exact rfl), ?_⟩; clear hS; intro _ hS; dsimp only [blit, List.set, List.cons_append, List.nil_append, Value.cells, List.toList_toArray] at hS))
  refine (trUnpack_x hS x (unhide HXW)).mono ?_
  rintro r u ⟨rfl, hSn⟩
  clear hS
  have hS := hSn
  clear hSn
  go_wp2_with (first | (refine wpx_box hS rfl _ _ rfl _ rfl _ (by intro _; simp only [Act.put, List.setIfInBounds_toArray, List.set_cons_zero, List.set_cons_succ]; first | done | exact rfl) ?_; clear hS; intro _ _ hS; dsimp only [blit, List.set, List.cons_append, List.nil_append, Value.cells, List.toList_toArray] at hS) | (refine wpx_alloc hS rfl _ rfl _ (zer_any2 rfl) _ (by intro _; simp only [Act.put, List.setIfInBounds_toArray, List.set_cons_zero, List.set_cons_succ]; first | done | exact rfl) ?_; clear hS; intro _ _ hS; dsimp only [blit, List.set, List.cons_append, List.nil_append, Value.cells, List.toList_toArray] at hS) | (refine wpx_ld hS rfl _ _ rfl _ _ rfl ?_; (first | refine ⟨0, _, rfl, ?_⟩ | refine ⟨1, _, rfl, ?_⟩ | refine ⟨2, _, rfl, ?_⟩ | refine ⟨3, _, rfl, ?_⟩ | refine ⟨4, _, rfl, ?_⟩ | refine ⟨5, _, rfl, ?_⟩ | refine ⟨6, _, rfl, ?_⟩ | refine ⟨7, _, rfl, ?_⟩ | refine ⟨8, _, rfl, ?_⟩ | refine ⟨9, _, rfl, ?_⟩); first | refine .inl ⟨_, one_any2 rfl, rfl, _, (by simp only [Act.put, List.setIfInBounds_toArray, List.set_cons_zero, List.set_cons_succ]; first | done | exact rfl), ?_⟩ | refine .inr ⟨_, _, row_any2 rfl, rfl, (by dsimp only [cutL, List.drop, List.take]; first | done | exact rfl), _, (by simp only [Act.put, List.setIfInBounds_toArray, List.set_cons_zero, List.set_cons_succ]; first | done | exact rfl), ?_⟩) | (refine wpx_st hS rfl _ _ _ rfl rfl _ _ rfl ?_; (first | refine ⟨0, _, rfl, ?_⟩ | refine ⟨1, _, rfl, ?_⟩ | refine ⟨2, _, rfl, ?_⟩ | refine ⟨3, _, rfl, ?_⟩ | refine ⟨4, _, rfl, ?_⟩ | refine ⟨5, _, rfl, ?_⟩ | refine ⟨6, _, rfl, ?_⟩ | refine ⟨7, _, rfl, ?_⟩ | refine ⟨8, _, rfl, ?_⟩ | refine ⟨9, _, rfl, ?_⟩); refine ⟨_, (by first | exact shA rfl | exact shI rfl | exact shB rfl | exact shS rfl | exact shP rfl | exact shF rfl | exact shN rfl), _, siz_any2 rfl, (by exact rfl), (by exact rfl), (by exact rfl), ?_⟩; clear hS; intro _ hS; dsimp only [blit, List.set, List.cons_append, List.nil_append, Value.cells, List.toList_toArray] at hS))
  obtain ⟨HB, rfl⟩ := nameB hS 0 rfl
  obtain ⟨MB, rfl⟩ := nameB hS 1 rfl
  obtain ⟨R1, rfl⟩ := nameB hS 2 rfl
  obtain ⟨R2, rfl⟩ := nameB hS 3 rfl
  obtain ⟨TB, rfl⟩ := nameB hS 4 rfl
  refine wp_region_ogt (fun ts D ts' w' => ∃ (g' : Nat) (cg' : Nat) (NX : Nat), ts' = putS ts [(59, cond (D 0) (.agg #[.int .i64 c.t, .int .i64 c.s, .int .i64 c.k, .int .i64 c.g, .int .u64 c.q, (.slice (some ⟨g, 0, none⟩) c.n cg), .int .i64 m.cnt, .int .i64 m.l.kind, .int .i64 m.l.a, .int .i64 m.l.b, .int .u64 (m.l.old : Nat), .int .u64 (m.l.new : Nat), .bool m.l.done]) undef), (60, cond (D 1) (.pointer (some ⟨TB, 1, none⟩)) undef), (61, cond (D 2) (.int .i64 (Um.penN x)) undef), (62, cond (D 3) (.pointer (some ⟨HB, 2, none⟩)) undef), (63, cond (D 4) (.int .u64 (s : Nat)) undef), (64, cond (D 5) (.pointer (some ⟨HB, 2, none⟩)) undef), (65, cond (D 6) (.int .u64 (s : Nat)) undef), (66, cond (D 7) (.pointer (some ⟨HB, 2, none⟩)) undef), (67, cond (D 8) (.int .u64 (s : Nat)) undef), (68, cond (D 9) (.bool (s.testBit 26)) undef), (69, cond (D 10) (.int .u64 (Um.comN s : Int)) undef), (70, cond (D 11) (.tuple #[.agg #[.int .i64 c.t, .int .i64 c.s, .int .i64 c.k, .int .i64 c.g, .int .u64 c.q, (.slice (some ⟨g', 0, none⟩) c.n cg'), .int .i64 M.cnt, .int .i64 M.l.kind, .int .i64 M.l.a, .int .i64 M.l.b, .int .u64 (M.l.old : Nat), .int .u64 (M.l.new : Nat), .bool M.l.done], .bool M.l.done]) undef), (58, cond (D 12) (.tuple #[.agg #[.int .i64 c.t, .int .i64 c.s, .int .i64 c.k, .int .i64 c.g, .int .u64 c.q, (.slice (some ⟨g', 0, none⟩) c.n cg'), .int .i64 M.cnt, .int .i64 M.l.kind, .int .i64 M.l.a, .int .i64 M.l.b, .int .u64 (M.l.old : Nat), .int .u64 (M.l.new : Nat), .bool M.l.done], .bool M.l.done]) undef), (71, cond (D 13) (.agg #[.int .i64 c.t, .int .i64 c.s, .int .i64 c.k, .int .i64 c.g, .int .u64 c.q, (.slice (some ⟨g', 0, none⟩) c.n cg'), .int .i64 M.cnt, .int .i64 M.l.kind, .int .i64 M.l.a, .int .i64 M.l.b, .int .u64 (M.l.old : Nat), .int .u64 (M.l.new : Nat), .bool M.l.done]) undef), (72, cond (D 14) (.bool M.l.done) undef), (11, cond (D 15) (.pointer (some ⟨NX, 0, none⟩)) undef), (12, cond (D 17) (.bool M.l.done) undef)] ∧ (D 11 = true → c.n ≤ cg' ∧ cg' ≤ maxLen ∧ Fr w g g' ∧ WordsOk c M) ∧ (D 12 = true → D 11 = true) ∧ (D 13 = true → D 11 = true) ∧ (D 16 = true → D 11 = true) ∧ (D 16 = true → D 15 = true) ∧ Sx [] w w' ([(HB, [.int .u64 (x : Nat), .int .i64 2, .int .u64 (s : Nat), .bool false]), (MB, [.int .i64 c.t, .int .i64 c.s, .int .i64 c.k, .int .i64 c.g, .int .u64 c.q, (.slice (some ⟨g, 0, none⟩) c.n cg), .int .i64 m.cnt, .int .i64 m.l.kind, .int .i64 m.l.a, .int .i64 m.l.b, .int .u64 (m.l.old : Nat), .int .u64 (m.l.new : Nat), .bool m.l.done]), (R1, [.int .u64 0, .int .i64 0, .int .u64 0, .bool false]), (R2, [.int .i64 0, .int .i64 0, .int .i64 0, .int .i64 0, .int .u64 0, .slice none 0 0, .int .i64 0, .int .i64 0, .int .i64 0, .int .i64 0, .int .u64 0, .int .u64 0, .bool false]), (TB, [.int .u64 (Um.seqN x : Int), .int .i64 (Um.penN x)])] ++ cond (D 15) [(NX, cond (D 16) [.int .i64 c.t, .int .i64 c.s, .int .i64 c.k, .int .i64 c.g, .int .u64 c.q, (.slice (some ⟨g', 0, none⟩) c.n cg'), .int .i64 M.cnt, .int .i64 M.l.kind, .int .i64 M.l.a, .int .i64 M.l.b, .int .u64 (M.l.old : Nat), .int .u64 (M.l.new : Nat), .bool M.l.done] [.int .i64 0, .int .i64 0, .int .i64 0, .int .i64 0, .int .u64 0, .slice none 0 0, .int .i64 0, .int .i64 0, .int .i64 0, .int .i64 0, .int .u64 0, .int .u64 0, .bool false])] []) [cond (D 11) (g', rowW M.ws c.n) (g, rowW m.ws c.n)]) (by kernel_rfl) (by kernel_rfl) ?start ?steps ?ends
  case start => exact ⟨0, 0, 0, rfl, (fun h => by cases h), (fun h => by cases h), (fun h => by cases h), (fun h => by cases h), (fun h => by cases h), hS.drew⟩
  case steps =>
    intro i o hi D ts' w' hD hpre hI
    obtain ⟨g', cg', NX, rfl, hc, hm, hx, hz, hA, hS⟩ := hI
    dsimp only [putS, List.set]
    match i, hi with
    | 0, hi =>
      cases hi
      refine wpOp_step rfl (fun K hK => ?_)
      refine stp_val rfl (by refine yif_load (S := fun q => q = w') rfl _ _ rfl _ _ rfl _ (fun _ h => h ▸ hS.get 1 rfl) _ (row_any2 rfl) (by exact rfl) _ (by dsimp only [cutL, List.drop, List.take]; first | done | exact rfl)) rfl ?_
      exact hK _ _ ⟨_, rfl, g', cg', NX, rfl, hc, hm, hx, hz, hA, hS⟩
    | 1, hi =>
      cases hi
      refine wpOp_step rfl (fun K hK => ?_)
      refine stp_val rfl (yif_by rfl _ (fun w => by go_simp; first | done | exact rfl)) rfl ?_
      exact hK _ _ ⟨_, rfl, g', cg', NX, rfl, hc, hm, hx, hz, hA, hS⟩
    | 2, hi =>
      cases hi
      have d1 : D 1 = true := og_pre hpre (j := 1) (by kernel_rfl)
      refine wpOp_step rfl (fun K hK => ?_)
      refine stp_val rfl (by refine yif_load1 (S := fun q => q = w') rfl _ (.tmp 60) rfl TB 1 ?_ _ (fun _ h => h ▸ hS.get 4 rfl) (one_any2 rfl) _ rfl; exact cond_at d1 rfl) rfl ?_
      exact hK _ _ ⟨_, rfl, g', cg', NX, rfl, hc, hm, hx, hz, hA, hS⟩
    | 3, hi =>
      cases hi
      refine wpOp_step rfl (fun K hK => ?_)
      refine stp_val rfl (yif_by rfl _ (fun w => by go_simp; first | done | exact rfl)) rfl ?_
      exact hK _ _ ⟨_, rfl, g', cg', NX, rfl, hc, hm, hx, hz, hA, hS⟩
    | 4, hi =>
      cases hi
      have d3 : D 3 = true := og_pre hpre (j := 3) (by kernel_rfl)
      refine wpOp_step rfl (fun K hK => ?_)
      refine stp_val rfl (by refine yif_load1 (S := fun q => q = w') rfl _ (.tmp 62) rfl HB 2 ?_ _ (fun _ h => h ▸ hS.get 0 rfl) (one_any2 rfl) _ rfl; exact cond_at d3 rfl) rfl ?_
      exact hK _ _ ⟨_, rfl, g', cg', NX, rfl, hc, hm, hx, hz, hA, hS⟩
    | 5, hi =>
      cases hi
      refine wpOp_step rfl (fun K hK => ?_)
      refine stp_val rfl (yif_by rfl _ (fun w => by go_simp; first | done | exact rfl)) rfl ?_
      exact hK _ _ ⟨_, rfl, g', cg', NX, rfl, hc, hm, hx, hz, hA, hS⟩
    | 6, hi =>
      cases hi
      have d5 : D 5 = true := og_pre hpre (j := 5) (by kernel_rfl)
      refine wpOp_step rfl (fun K hK => ?_)
      refine stp_val rfl (by refine yif_load1 (S := fun q => q = w') rfl _ (.tmp 64) rfl HB 2 ?_ _ (fun _ h => h ▸ hS.get 0 rfl) (one_any2 rfl) _ rfl; exact cond_at d5 rfl) rfl ?_
      exact hK _ _ ⟨_, rfl, g', cg', NX, rfl, hc, hm, hx, hz, hA, hS⟩
    | 7, hi =>
      cases hi
      refine wpOp_step rfl (fun K hK => ?_)
      refine stp_val rfl (yif_by rfl _ (fun w => by go_simp; first | done | exact rfl)) rfl ?_
      exact hK _ _ ⟨_, rfl, g', cg', NX, rfl, hc, hm, hx, hz, hA, hS⟩
    | 8, hi =>
      cases hi
      have d7 : D 7 = true := og_pre hpre (j := 7) (by kernel_rfl)
      refine wpOp_step rfl (fun K hK => ?_)
      refine stp_val rfl (by refine yif_load1 (S := fun q => q = w') rfl _ (.tmp 66) rfl HB 2 ?_ _ (fun _ h => h ▸ hS.get 0 rfl) (one_any2 rfl) _ rfl; exact cond_at d7 rfl) rfl ?_
      exact hK _ _ ⟨_, rfl, g', cg', NX, rfl, hc, hm, hx, hz, hA, hS⟩
    | 9, hi =>
      cases hi
      have d8 : D 8 = true := og_pre hpre (j := 8) (by kernel_rfl)
      refine wpOp_step rfl (fun K hK => ?_)
      refine stp_call rfl _ _ _ rfl egBu _ (list1_eq (cond_at d8 rfl)) _ rfl ?_
      refine (rBusy_x hS s (unhide HSW)).mono ?_
      rintro r u ⟨rfl, hS2⟩
      exact ⟨_, rfl, hK _ _ ⟨_, rfl, g', cg', NX, rfl, hc, hm, hx, hz, hA, hS2⟩⟩
    | 10, hi =>
      cases hi
      have d6 : D 6 = true := og_pre hpre (j := 6) (by kernel_rfl)
      have d9 : D 9 = true := og_pre hpre (j := 9) (by kernel_rfl)
      refine wpOp_step rfl (fun K hK => ?_)
      refine stp_call rfl _ _ _ rfl egMv _ (list3_eq (cond_at d6 rfl) rfl (cond_at d9 rfl)) _ rfl ?_
      refine (rMove_x hS s (s.testBit 26) (unhide HSW)).mono ?_
      rintro r u ⟨rfl, hS2⟩
      exact ⟨_, rfl, hK _ _ ⟨_, rfl, g', cg', NX, rfl, hc, hm, hx, hz, hA, hS2⟩⟩
    | 11, hi =>
      cases hi
      have d0 : D 0 = true := og_pre hpre (j := 0) (by kernel_rfl)
      have d2 : D 2 = true := og_pre hpre (j := 2) (by kernel_rfl)
      have d4 : D 4 = true := og_pre hpre (j := 4) (by kernel_rfl)
      have d10 : D 10 = true := og_pre hpre (j := 10) (by kernel_rfl)
      refine wpOp_step rfl (fun K hK => ?_)
      refine stp_call rfl _ _ _ rfl egRSw _ (list5_eq (cond_at d0 rfl) rfl (cond_at d2 rfl) (cond_at d4 rfl) (cond_at d10 rfl)) _ rfl ?_
      have m0 := og_not hm hD
      have x0 := og_not hx hD
      have z0 := og_not hz hD
      rw [hD, cond_false] at hS
      have hSz := hS.size
      refine (rSwap_x hS 0 rfl (unhide HR) (unhide HW) h1 h2 4 (Um.penN x) s (Um.comN s) (Um.com_word (unhide HSW)) M (unhide HM)).mono ?_
      rintro r u ⟨gn, cgn, rfl, q1, q2, hFr, hW2, hSn⟩
      rw [z0] at hSn
      refine ⟨_, rfl, hK _ _ ⟨_, (by simp only [m0, x0]; rfl), gn, cgn, NX, rfl, (fun _ => ⟨q1, q2, (Fr.refl w g).trans hFr hSz, hW2⟩), (fun _ => rfl), (fun _ => rfl), (fun _ => rfl), hA, ?_⟩⟩
      show Sx _ _ _ (_ ++ cond (D 15) [(_, cond (D 16) _ _)] _) _
      rw [z0]
      exact hSn
    | 12, hi =>
      cases hi
      have d11 : D 11 = true := og_pre hpre (j := 11) (by kernel_rfl)
      refine wpOp_step rfl (fun K hK => ?_)
      refine stp_val rfl (by exact yif_mv rfl (.tmp 70) rfl _ (cond_at d11 rfl)) rfl ?_
      exact hK _ _ ⟨_, rfl, g', cg', NX, rfl, hc, (fun _ => d11), hx, hz, hA, hS⟩
    | 13, hi =>
      cases hi
      have d12 : D 12 = true := og_pre hpre (j := 12) (by kernel_rfl)
      refine wpOp_step rfl (fun K hK => ?_)
      refine stp_val rfl (by refine yif_extract rfl (.tmp 58) 0 rfl [.agg #[.int .i64 c.t, .int .i64 c.s, .int .i64 c.k, .int .i64 c.g, .int .u64 c.q, (.slice (some ⟨g', 0, none⟩) c.n cg'), .int .i64 M.cnt, .int .i64 M.l.kind, .int .i64 M.l.a, .int .i64 M.l.b, .int .u64 (M.l.old : Nat), .int .u64 (M.l.new : Nat), .bool M.l.done], .bool M.l.done] ?_ _ rfl; exact cond_at d12 rfl) rfl ?_
      exact hK _ _ ⟨_, rfl, g', cg', NX, rfl, hc, hm, (fun _ => hm d12), hz, hA, hS⟩
    | 14, hi =>
      cases hi
      have d12 : D 12 = true := og_pre hpre (j := 12) (by kernel_rfl)
      refine wpOp_step rfl (fun K hK => ?_)
      refine stp_val rfl (by refine yif_extract rfl (.tmp 58) 1 rfl [.agg #[.int .i64 c.t, .int .i64 c.s, .int .i64 c.k, .int .i64 c.g, .int .u64 c.q, (.slice (some ⟨g', 0, none⟩) c.n cg'), .int .i64 M.cnt, .int .i64 M.l.kind, .int .i64 M.l.a, .int .i64 M.l.b, .int .u64 (M.l.old : Nat), .int .u64 (M.l.new : Nat), .bool M.l.done], .bool M.l.done] ?_ _ rfl; exact cond_at d12 rfl) rfl ?_
      exact hK _ _ ⟨_, rfl, g', cg', NX, rfl, hc, hm, hx, hz, hA, hS⟩
    | 15, hi =>
      cases hi
      refine wpOp_step rfl (fun K hK => ?_)
      have e0 := og_not hA hD
      refine stx_alloc hS rfl _ rfl _ (zer_any2 rfl) _ rfl _ rfl _ (fun _ => rfl) ?_
      intro bn u hS'
      rw [hD, cond_false, List.append_nil] at hS'
      refine hK _ _ ⟨_, rfl, g', cg', bn, rfl, hc, hm, hx, hz, (fun _ => rfl), ?_⟩
      show Sx _ _ _ (_ ++ [(bn, cond (D 16) _ _)]) _
      rw [e0]
      exact hS'
    | 16, hi =>
      cases hi
      have d13 : D 13 = true := og_pre hpre (j := 13) (by kernel_rfl)
      have d15 : D 15 = true := og_pre hpre (j := 15) (by kernel_rfl)
      refine wpOp_step rfl (fun K hK => ?_)
      rw [d15, hD, cond_true, cond_false] at hS
      refine stx_store hS 5 rfl _ _ _ rfl _ _ (cond_at d15 rfl) _ rfl _ (cond_at d13 rfl) _ rfl _ (siz_any2 rfl) (by exact rfl) (by exact rfl) (by exact rfl) rfl ?_
      intro u hS'
      refine hK _ _ ⟨_, rfl, g', cg', NX, rfl, hc, hm, hx, (fun _ => hx d13), (fun _ => d15), ?_⟩
      show Sx _ _ _ (_ ++ cond (D 15) _ _) _
      rw [d15]
      exact hS'
    | 17, hi =>
      cases hi
      have d14 : D 14 = true := og_pre hpre (j := 14) (by kernel_rfl)
      refine wpOp_step rfl (fun K hK => ?_)
      refine stp_val rfl (yif_by rfl _ (fun w => by simp only [d14, cond_true]; go_simp; first | done | exact rfl)) rfl ?_
      exact hK _ _ ⟨_, rfl, g', cg', NX, rfl, hc, hm, hx, hz, hA, hS⟩
    | i + 18, hi => simp at hi
  case ends =>
    intro D ts' w' hall hI
    obtain ⟨g', cg', NX, rfl, hc, hm, hx, hz, hA, hS⟩ := hI
    have d0 : D 0 = true := hall 0 (by decide)
    have d1 : D 1 = true := hall 1 (by decide)
    have d2 : D 2 = true := hall 2 (by decide)
    have d3 : D 3 = true := hall 3 (by decide)
    have d4 : D 4 = true := hall 4 (by decide)
    have d5 : D 5 = true := hall 5 (by decide)
    have d6 : D 6 = true := hall 6 (by decide)
    have d7 : D 7 = true := hall 7 (by decide)
    have d8 : D 8 = true := hall 8 (by decide)
    have d9 : D 9 = true := hall 9 (by decide)
    have d10 : D 10 = true := hall 10 (by decide)
    have d11 : D 11 = true := hall 11 (by decide)
    have d12 : D 12 = true := hall 12 (by decide)
    have d13 : D 13 = true := hall 13 (by decide)
    have d14 : D 14 = true := hall 14 (by decide)
    have d15 : D 15 = true := hall 15 (by decide)
    have d16 : D 16 = true := hall 16 (by decide)
    have d17 : D 17 = true := hall 17 (by decide)
    simp only [d11, d15, d16, cond_true] at hS
    dsimp only [putS, List.set]
    simp only [d0, d1, d2, d3, d4, d5, d6, d7, d8, d9, d10, d11, d12, d13, d14, d15, d17, cond_true]
    obtain ⟨q1, q2, hFr, hW2⟩ := hc d11
    have HW2 := hide hW2
    clear hall hc hm hx hz hA hW2 d0 d1 d2 d3 d4 d5 d6 d7 d8 d9 d10 d11 d12 d13 d14 d15 d16 d17
    dsimp only [List.cons_append, List.nil_append] at hS
    have hdc : M.l.done = true ∨ M.l.done = false := by cases M.l.done <;> simp
    rcases hdc with hd | hd
    · obtain rfl : nx2 = 3 := by rw [unhide HNX, hd]; rfl
      simp only [hd]
      clear hd HNX
      go_wp2_with (refine wpx_st hS rfl _ _ _ rfl rfl _ _ rfl ?_; (first | refine ⟨0, _, rfl, ?_⟩ | refine ⟨1, _, rfl, ?_⟩ | refine ⟨2, _, rfl, ?_⟩ | refine ⟨3, _, rfl, ?_⟩ | refine ⟨4, _, rfl, ?_⟩ | refine ⟨5, _, rfl, ?_⟩ | refine ⟨6, _, rfl, ?_⟩ | refine ⟨7, _, rfl, ?_⟩ | refine ⟨8, _, rfl, ?_⟩ | refine ⟨9, _, rfl, ?_⟩); refine ⟨_, (by first | exact shA rfl | exact shI rfl | exact shB rfl | exact shS rfl | exact shP rfl | exact shF rfl | exact shN rfl), _, siz_any2 rfl, (by exact rfl), (by exact rfl), (by exact rfl), ?_⟩; clear hS; intro _ hS; dsimp only [blit, List.set, List.cons_append, List.nil_append, Value.cells, List.toList_toArray] at hS)
      refine wp_region_ogt (fun ts D ts' w' => ts' = putS ts [(76, cond (D 0) (.agg #[.int .u64 (x : Nat), .int .i64 3, .int .u64 (s : Nat), .bool false]) undef), (77, cond (D 1) (.agg #[.int .i64 c.t, .int .i64 c.s, .int .i64 c.k, .int .i64 c.g, .int .u64 c.q, (.slice (some ⟨g', 0, none⟩) c.n cg'), .int .i64 M.cnt, .int .i64 M.l.kind, .int .i64 M.l.a, .int .i64 M.l.b, .int .u64 (M.l.old : Nat), .int .u64 (M.l.new : Nat), .bool M.l.done]) undef)] ∧ Sx [] w w' [(HB, [.int .u64 (x : Nat), .int .i64 3, .int .u64 (s : Nat), .bool false]), (MB, [.int .i64 c.t, .int .i64 c.s, .int .i64 c.k, .int .i64 c.g, .int .u64 c.q, (.slice (some ⟨g, 0, none⟩) c.n cg), .int .i64 m.cnt, .int .i64 m.l.kind, .int .i64 m.l.a, .int .i64 m.l.b, .int .u64 (m.l.old : Nat), .int .u64 (m.l.new : Nat), .bool m.l.done]), (R1, cond (D 2) [.int .u64 (x : Nat), .int .i64 3, .int .u64 (s : Nat), .bool false] [.int .u64 0, .int .i64 0, .int .u64 0, .bool false]), (R2, cond (D 3) [.int .i64 c.t, .int .i64 c.s, .int .i64 c.k, .int .i64 c.g, .int .u64 c.q, (.slice (some ⟨g', 0, none⟩) c.n cg'), .int .i64 M.cnt, .int .i64 M.l.kind, .int .i64 M.l.a, .int .i64 M.l.b, .int .u64 (M.l.old : Nat), .int .u64 (M.l.new : Nat), .bool M.l.done] [.int .i64 0, .int .i64 0, .int .i64 0, .int .i64 0, .int .u64 0, .slice none 0 0, .int .i64 0, .int .i64 0, .int .i64 0, .int .i64 0, .int .u64 0, .int .u64 0, .bool false]), (TB, [.int .u64 (Um.seqN x : Int), .int .i64 (Um.penN x)]), (NX, [.int .i64 c.t, .int .i64 c.s, .int .i64 c.k, .int .i64 c.g, .int .u64 c.q, (.slice (some ⟨g', 0, none⟩) c.n cg'), .int .i64 M.cnt, .int .i64 M.l.kind, .int .i64 M.l.a, .int .i64 M.l.b, .int .u64 (M.l.old : Nat), .int .u64 (M.l.new : Nat), .bool M.l.done])] [(g', rowW M.ws c.n)]) (by kernel_rfl) (by kernel_rfl) ?start ?steps ?ends
      case start => exact ⟨rfl, hS.drew⟩
      case steps =>
        intro i o hi D ts' w' hD hpre hI
        obtain ⟨rfl, hS⟩ := hI
        dsimp only [putS, List.set]
        match i, hi with
        | 0, hi =>
          cases hi
          refine wpOp_step rfl (fun K hK => ?_)
          refine stp_val rfl (by refine yif_load (S := fun q => q = w') rfl _ _ rfl _ _ rfl _ (fun _ h => h ▸ hS.get 0 rfl) _ (row_any2 rfl) (by exact rfl) _ (by dsimp only [cutL, List.drop, List.take]; first | done | exact rfl)) rfl ?_
          exact hK _ _ ⟨_, rfl, rfl, hS⟩
        | 1, hi =>
          cases hi
          refine wpOp_step rfl (fun K hK => ?_)
          refine stp_val rfl (by refine yif_load (S := fun q => q = w') rfl _ _ rfl _ _ rfl _ (fun _ h => h ▸ hS.get 5 rfl) _ (row_any2 rfl) (by exact rfl) _ (by dsimp only [cutL, List.drop, List.take]; first | done | exact rfl)) rfl ?_
          exact hK _ _ ⟨_, rfl, rfl, hS⟩
        | 2, hi =>
          cases hi
          have d0 : D 0 = true := og_pre hpre (j := 0) (by kernel_rfl)
          refine wpOp_step rfl (fun K hK => ?_)
          simp only [hD, cond_false] at hS
          refine stx_store hS 2 rfl _ _ _ rfl _ _ rfl _ rfl _ (cond_at d0 rfl) _ rfl _ (siz_any2 rfl) (by exact rfl) (by exact rfl) (by exact rfl) rfl ?_
          intro u hS'
          exact hK _ _ ⟨_, rfl, rfl, hS'⟩
        | 3, hi =>
          cases hi
          have d1 : D 1 = true := og_pre hpre (j := 1) (by kernel_rfl)
          refine wpOp_step rfl (fun K hK => ?_)
          simp only [hD, cond_false] at hS
          refine stx_store hS 3 rfl _ _ _ rfl _ _ rfl _ rfl _ (cond_at d1 rfl) _ rfl _ (siz_any2 rfl) (by exact rfl) (by exact rfl) (by exact rfl) rfl ?_
          intro u hS'
          exact hK _ _ ⟨_, rfl, rfl, hS'⟩
        | i + 4, hi => simp at hi
      case ends =>
        intro D ts' w' hall hI
        obtain ⟨rfl, hS⟩ := hI
        have d0 : D 0 = true := hall 0 (by decide)
        have d1 : D 1 = true := hall 1 (by decide)
        have d2 : D 2 = true := hall 2 (by decide)
        have d3 : D 3 = true := hall 3 (by decide)
        simp only [d2, d3, cond_true] at hS
        dsimp only [putS, List.set]
        simp only [d0, d1, cond_true]
        clear hall d0 d1 d2 d3
        go_wp2
        have hZ := hS.get 2 rfl
        have hY := hS.get 3 rfl
        refine bodyPost_ret (v := .tuple #[.agg #[.int .u64 (x : Nat), .int .i64 3, .int .u64 (s : Nat), .bool false], (.agg #[.int .i64 c.t, .int .i64 c.s, .int .i64 c.k, .int .i64 c.g, .int .u64 c.q, (.slice (some ⟨g', 0, none⟩) c.n cg'), .int .i64 M.cnt, .int .i64 M.l.kind, .int .i64 M.l.a, .int .i64 M.l.b, .int .u64 (M.l.old : Nat), .int .u64 (M.l.new : Nat), .bool M.l.done])]) (by simp [results, Try.results45, go_sem, hZ.cell 0 _ rfl, hZ.cell 1 _ rfl, hZ.cell 2 _ rfl, hZ.cell 3 _ rfl, hY.cell 0 _ rfl, hY.cell 1 _ rfl, hY.cell 2 _ rfl, hY.cell 3 _ rfl, hY.cell 4 _ rfl, hY.cell 5 _ rfl, hY.cell 6 _ rfl, hY.cell 7 _ rfl, hY.cell 8 _ rfl, hY.cell 9 _ rfl, hY.cell 10 _ rfl, hY.cell 11 _ rfl, hY.cell 12 _ rfl]) rfl ?_
        exact ⟨g', cg', rfl, q1, q2, hFr, unhide HW2, hS.getE 0 rfl, hS.bel⟩
    · obtain rfl : nx2 = 1 := by rw [unhide HNX, hd]; rfl
      simp only [hd]
      clear hd HNX
      go_wp2_with (refine wpx_st hS rfl _ _ _ rfl rfl _ _ rfl ?_; (first | refine ⟨0, _, rfl, ?_⟩ | refine ⟨1, _, rfl, ?_⟩ | refine ⟨2, _, rfl, ?_⟩ | refine ⟨3, _, rfl, ?_⟩ | refine ⟨4, _, rfl, ?_⟩ | refine ⟨5, _, rfl, ?_⟩ | refine ⟨6, _, rfl, ?_⟩ | refine ⟨7, _, rfl, ?_⟩ | refine ⟨8, _, rfl, ?_⟩ | refine ⟨9, _, rfl, ?_⟩); refine ⟨_, (by first | exact shA rfl | exact shI rfl | exact shB rfl | exact shS rfl | exact shP rfl | exact shF rfl | exact shN rfl), _, siz_any2 rfl, (by exact rfl), (by exact rfl), (by exact rfl), ?_⟩; clear hS; intro _ hS; dsimp only [blit, List.set, List.cons_append, List.nil_append, Value.cells, List.toList_toArray] at hS)
      refine wp_region_ogt (fun ts D ts' w' => ts' = putS ts [(76, cond (D 0) (.agg #[.int .u64 (x : Nat), .int .i64 1, .int .u64 (s : Nat), .bool false]) undef), (77, cond (D 1) (.agg #[.int .i64 c.t, .int .i64 c.s, .int .i64 c.k, .int .i64 c.g, .int .u64 c.q, (.slice (some ⟨g', 0, none⟩) c.n cg'), .int .i64 M.cnt, .int .i64 M.l.kind, .int .i64 M.l.a, .int .i64 M.l.b, .int .u64 (M.l.old : Nat), .int .u64 (M.l.new : Nat), .bool M.l.done]) undef)] ∧ Sx [] w w' [(HB, [.int .u64 (x : Nat), .int .i64 1, .int .u64 (s : Nat), .bool false]), (MB, [.int .i64 c.t, .int .i64 c.s, .int .i64 c.k, .int .i64 c.g, .int .u64 c.q, (.slice (some ⟨g, 0, none⟩) c.n cg), .int .i64 m.cnt, .int .i64 m.l.kind, .int .i64 m.l.a, .int .i64 m.l.b, .int .u64 (m.l.old : Nat), .int .u64 (m.l.new : Nat), .bool m.l.done]), (R1, cond (D 2) [.int .u64 (x : Nat), .int .i64 1, .int .u64 (s : Nat), .bool false] [.int .u64 0, .int .i64 0, .int .u64 0, .bool false]), (R2, cond (D 3) [.int .i64 c.t, .int .i64 c.s, .int .i64 c.k, .int .i64 c.g, .int .u64 c.q, (.slice (some ⟨g', 0, none⟩) c.n cg'), .int .i64 M.cnt, .int .i64 M.l.kind, .int .i64 M.l.a, .int .i64 M.l.b, .int .u64 (M.l.old : Nat), .int .u64 (M.l.new : Nat), .bool M.l.done] [.int .i64 0, .int .i64 0, .int .i64 0, .int .i64 0, .int .u64 0, .slice none 0 0, .int .i64 0, .int .i64 0, .int .i64 0, .int .i64 0, .int .u64 0, .int .u64 0, .bool false]), (TB, [.int .u64 (Um.seqN x : Int), .int .i64 (Um.penN x)]), (NX, [.int .i64 c.t, .int .i64 c.s, .int .i64 c.k, .int .i64 c.g, .int .u64 c.q, (.slice (some ⟨g', 0, none⟩) c.n cg'), .int .i64 M.cnt, .int .i64 M.l.kind, .int .i64 M.l.a, .int .i64 M.l.b, .int .u64 (M.l.old : Nat), .int .u64 (M.l.new : Nat), .bool M.l.done])] [(g', rowW M.ws c.n)]) (by kernel_rfl) (by kernel_rfl) ?start ?steps ?ends
      case start => exact ⟨rfl, hS.drew⟩
      case steps =>
        intro i o hi D ts' w' hD hpre hI
        obtain ⟨rfl, hS⟩ := hI
        dsimp only [putS, List.set]
        match i, hi with
        | 0, hi =>
          cases hi
          refine wpOp_step rfl (fun K hK => ?_)
          refine stp_val rfl (by refine yif_load (S := fun q => q = w') rfl _ _ rfl _ _ rfl _ (fun _ h => h ▸ hS.get 0 rfl) _ (row_any2 rfl) (by exact rfl) _ (by dsimp only [cutL, List.drop, List.take]; first | done | exact rfl)) rfl ?_
          exact hK _ _ ⟨_, rfl, rfl, hS⟩
        | 1, hi =>
          cases hi
          refine wpOp_step rfl (fun K hK => ?_)
          refine stp_val rfl (by refine yif_load (S := fun q => q = w') rfl _ _ rfl _ _ rfl _ (fun _ h => h ▸ hS.get 5 rfl) _ (row_any2 rfl) (by exact rfl) _ (by dsimp only [cutL, List.drop, List.take]; first | done | exact rfl)) rfl ?_
          exact hK _ _ ⟨_, rfl, rfl, hS⟩
        | 2, hi =>
          cases hi
          have d0 : D 0 = true := og_pre hpre (j := 0) (by kernel_rfl)
          refine wpOp_step rfl (fun K hK => ?_)
          simp only [hD, cond_false] at hS
          refine stx_store hS 2 rfl _ _ _ rfl _ _ rfl _ rfl _ (cond_at d0 rfl) _ rfl _ (siz_any2 rfl) (by exact rfl) (by exact rfl) (by exact rfl) rfl ?_
          intro u hS'
          exact hK _ _ ⟨_, rfl, rfl, hS'⟩
        | 3, hi =>
          cases hi
          have d1 : D 1 = true := og_pre hpre (j := 1) (by kernel_rfl)
          refine wpOp_step rfl (fun K hK => ?_)
          simp only [hD, cond_false] at hS
          refine stx_store hS 3 rfl _ _ _ rfl _ _ rfl _ rfl _ (cond_at d1 rfl) _ rfl _ (siz_any2 rfl) (by exact rfl) (by exact rfl) (by exact rfl) rfl ?_
          intro u hS'
          exact hK _ _ ⟨_, rfl, rfl, hS'⟩
        | i + 4, hi => simp at hi
      case ends =>
        intro D ts' w' hall hI
        obtain ⟨rfl, hS⟩ := hI
        have d0 : D 0 = true := hall 0 (by decide)
        have d1 : D 1 = true := hall 1 (by decide)
        have d2 : D 2 = true := hall 2 (by decide)
        have d3 : D 3 = true := hall 3 (by decide)
        simp only [d2, d3, cond_true] at hS
        dsimp only [putS, List.set]
        simp only [d0, d1, cond_true]
        clear hall d0 d1 d2 d3
        go_wp2
        have hZ := hS.get 2 rfl
        have hY := hS.get 3 rfl
        refine bodyPost_ret (v := .tuple #[.agg #[.int .u64 (x : Nat), .int .i64 1, .int .u64 (s : Nat), .bool false], (.agg #[.int .i64 c.t, .int .i64 c.s, .int .i64 c.k, .int .i64 c.g, .int .u64 c.q, (.slice (some ⟨g', 0, none⟩) c.n cg'), .int .i64 M.cnt, .int .i64 M.l.kind, .int .i64 M.l.a, .int .i64 M.l.b, .int .u64 (M.l.old : Nat), .int .u64 (M.l.new : Nat), .bool M.l.done])]) (by simp [results, Try.results45, go_sem, hZ.cell 0 _ rfl, hZ.cell 1 _ rfl, hZ.cell 2 _ rfl, hZ.cell 3 _ rfl, hY.cell 0 _ rfl, hY.cell 1 _ rfl, hY.cell 2 _ rfl, hY.cell 3 _ rfl, hY.cell 4 _ rfl, hY.cell 5 _ rfl, hY.cell 6 _ rfl, hY.cell 7 _ rfl, hY.cell 8 _ rfl, hY.cell 9 _ rfl, hY.cell 10 _ rfl, hY.cell 11 _ rfl, hY.cell 12 _ rfl]) rfl ?_
        exact ⟨g', cg', rfl, q1, q2, hFr, unhide HW2, hS.getE 0 rfl, hS.bel⟩

end Go.Proofs.Ytkiaogbddfjkkaa
