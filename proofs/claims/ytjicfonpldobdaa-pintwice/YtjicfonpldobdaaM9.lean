/-
  Texts that the laws stand on, merged (StoreX2, StoreX3, StoreX4, StoreZ).
-/
import Derived.Test.YtjicfonpldobdaaM3
import Derived.Test.YtjicfonpldobdaaM4
import Derived.Test.YtjicfonpldobdaaM5
import Derived.Test.YtjicfonpldobdaaM8

/-
  The walk of the document's own store.
-/
namespace Go.Proofs.Ytjicfonpldobdaa
set_option maxRecDepth 100000
open Go.RowKit Go.Sort

set_option maxHeartbeats 8000000 in
theorem rStore_any (c : Um.Cf) (v : Value) (m M : Um.Mm) (a b : Int) (x : Nat) (w : World) (hr : c.r = true) (hv : IsWords w v c.n m.ws) (hx : Um.Word x) (hM : M = Um.mtouch c m 2 a b 0 x) :
    Calls Try.prog 15 #[.agg #[.int .i64 c.t, .int .i64 c.s, .int .i64 c.k, .int .i64 c.g, .int .u64 c.q, v, .int .i64 m.cnt, .int .i64 m.l.kind, .int .i64 m.l.a, .int .i64 m.l.b, .int .u64 (m.l.old : Nat), .int .u64 (m.l.new : Nat), .bool m.l.done], .int .i64 a, .int .i64 b, .int .u64 (x : Nat)] w fun e W' =>
      ∃ v', e = .returned (.agg #[.int .i64 c.t, .int .i64 c.s, .int .i64 c.k, .int .i64 c.g, .int .u64 c.q, v', .int .i64 M.cnt, .int .i64 M.l.kind, .int .i64 M.l.a, .int .i64 M.l.b, .int .u64 (M.l.old : Nat), .int .u64 (M.l.new : Nat), .bool M.l.done]) ∧ IsWords W' v' c.n M.ws ∧ (v' = v ∨ RFresh w W' v' c.n M.ws) ∧ Below w.heap.size w W' := by
  have hn0 : 0 < c.n := by have := Um.Cf.n_pos hr; omega
  have HWD := hide (show ∀ j, j < c.n → Um.Word (M.ws j) by rw [hM]; exact Um.word_touch (words_word hv) hx)
  have hT := fun w hv => rTouch_any c v m M 2 a b 0 x w hr hv hx (.inr (.inl rfl)) hM
  have HV := hide hv
  have HT := hide hT
  obtain ⟨sv, cap, rfl⟩ := words_len hv
  clear hv hT hM hx
  have hS := St.new w
  go_enter Try.func15, Try.ntmps15
  go_wp2_with (first | (refine wpl_box hS rfl _ _ rfl _ rfl _ (by intro _; simp only [Act.put, List.setIfInBounds_toArray, List.set_cons_zero, List.set_cons_succ]; first | done | exact rfl) ?_; clear hS; intro _ _ hS; dsimp only [blit, List.set, List.cons_append, List.nil_append, Value.cells, List.toList_toArray] at hS) | (refine wpl_alloc hS rfl _ rfl _ (zer_any rfl) _ (by intro _; simp only [Act.put, List.setIfInBounds_toArray, List.set_cons_zero, List.set_cons_succ]; first | done | exact rfl) ?_; clear hS; intro _ _ hS; dsimp only [blit, List.set, List.cons_append, List.nil_append, Value.cells, List.toList_toArray] at hS) | (refine wpl_ld hS rfl _ _ rfl _ _ rfl ?_; (first | refine ⟨0, _, rfl, ?_⟩ | refine ⟨1, _, rfl, ?_⟩ | refine ⟨2, _, rfl, ?_⟩ | refine ⟨3, _, rfl, ?_⟩ | refine ⟨4, _, rfl, ?_⟩ | refine ⟨5, _, rfl, ?_⟩ | refine ⟨6, _, rfl, ?_⟩ | refine ⟨7, _, rfl, ?_⟩ | refine ⟨8, _, rfl, ?_⟩ | refine ⟨9, _, rfl, ?_⟩); first | refine .inl ⟨_, one_any rfl, rfl, _, (by simp only [Act.put, List.setIfInBounds_toArray, List.set_cons_zero, List.set_cons_succ]; first | done | exact rfl), ?_⟩ | refine .inr ⟨_, _, row_any rfl, rfl, (by dsimp only [cutL, List.drop, List.take]; first | done | exact rfl), _, (by simp only [Act.put, List.setIfInBounds_toArray, List.set_cons_zero, List.set_cons_succ]; first | done | exact rfl), ?_⟩) | (refine wpl_st hS rfl _ _ _ rfl rfl _ _ rfl ?_; (first | refine ⟨0, _, rfl, ?_⟩ | refine ⟨1, _, rfl, ?_⟩ | refine ⟨2, _, rfl, ?_⟩ | refine ⟨3, _, rfl, ?_⟩ | refine ⟨4, _, rfl, ?_⟩ | refine ⟨5, _, rfl, ?_⟩ | refine ⟨6, _, rfl, ?_⟩ | refine ⟨7, _, rfl, ?_⟩ | refine ⟨8, _, rfl, ?_⟩ | refine ⟨9, _, rfl, ?_⟩); refine ⟨_, (by first | exact shA rfl | exact shI rfl | exact shB rfl | exact shS rfl | exact shP rfl | exact shF rfl | exact shN rfl), _, siz_any rfl, (by exact rfl), (by exact rfl), (by exact rfl), ?_⟩; clear hS; intro _ hS; dsimp only [blit, List.set, List.cons_append, List.nil_append, Value.cells, List.toList_toArray] at hS))
  rename_i B _ R X _ _
  refine wp_region_og (I := fun D a' w' => ∃ (bA bT : Nat) (v' : Value) (G : List (Nat × List Value)), a' = ⟨#[.agg #[.int .i64 c.t, .int .i64 c.s, .int .i64 c.k, .int .i64 c.g, .int .u64 c.q, .slice sv c.n cap, .int .i64 m.cnt, .int .i64 m.l.kind, .int .i64 m.l.a, .int .i64 m.l.b, .int .u64 (m.l.old : Nat), .int .u64 (m.l.new : Nat), .bool m.l.done], .int .i64 a, .int .i64 b, .int .u64 (x : Nat), .pointer (some ⟨B, 0, none⟩), undef, undef, undef, .pointer (some ⟨R, 0, none⟩), (cond (D 9) (.pointer (some ⟨bA, 0, none⟩)) undef), (cond (D 10) (.pointer (some ⟨bT, 0, none⟩)) undef), (cond (D 6) (.tuple #[.agg #[.int .i64 c.t, .int .i64 c.s, .int .i64 c.k, .int .i64 c.g, .int .u64 c.q, v', .int .i64 M.cnt, .int .i64 M.l.kind, .int .i64 M.l.a, .int .i64 M.l.b, .int .u64 (M.l.old : Nat), .int .u64 (M.l.new : Nat), .bool M.l.done], .agg #[.int .i64 M.l.kind, .int .i64 M.l.a, .int .i64 M.l.b, .int .u64 (M.l.old : Nat), .int .u64 (M.l.new : Nat), .bool M.l.done]]) undef), (cond (D 0) (.agg #[.int .i64 c.t, .int .i64 c.s, .int .i64 c.k, .int .i64 c.g, .int .u64 c.q, .slice sv c.n cap, .int .i64 m.cnt, .int .i64 m.l.kind, .int .i64 m.l.a, .int .i64 m.l.b, .int .u64 (m.l.old : Nat), .int .u64 (m.l.new : Nat), .bool m.l.done]) undef), (cond (D 1) (.int .i64 a) undef), (cond (D 2) (.int .i64 b) undef), (cond (D 3) (.agg #[.int .i64 a, .int .i64 b]) undef), (cond (D 4) (.int .u64 (x : Nat)) undef), (cond (D 5) (.tuple #[.agg #[.int .i64 c.t, .int .i64 c.s, .int .i64 c.k, .int .i64 c.g, .int .u64 c.q, v', .int .i64 M.cnt, .int .i64 M.l.kind, .int .i64 M.l.a, .int .i64 M.l.b, .int .u64 (M.l.old : Nat), .int .u64 (M.l.new : Nat), .bool M.l.done], .agg #[.int .i64 M.l.kind, .int .i64 M.l.a, .int .i64 M.l.b, .int .u64 (M.l.old : Nat), .int .u64 (M.l.new : Nat), .bool M.l.done]]) undef), (cond (D 7) (.agg #[.int .i64 c.t, .int .i64 c.s, .int .i64 c.k, .int .i64 c.g, .int .u64 c.q, v', .int .i64 M.cnt, .int .i64 M.l.kind, .int .i64 M.l.a, .int .i64 M.l.b, .int .u64 (M.l.old : Nat), .int .u64 (M.l.new : Nat), .bool M.l.done]) undef), (cond (D 8) (.agg #[.int .i64 M.l.kind, .int .i64 M.l.a, .int .i64 M.l.b, .int .u64 (M.l.old : Nat), .int .u64 (M.l.new : Nat), .bool M.l.done]) undef), undef], []⟩ ∧ (D 5 = true → ((v' = .slice sv c.n cap ∧ G = [] ∧ IsWords w (.slice sv c.n cap) c.n M.ws) ∨ ∃ g' cg, v' = .slice (some ⟨g', 0, none⟩) c.n cg ∧ c.n ≤ cg ∧ cg ≤ maxLen ∧ G = [(g', rowW M.ws c.n)])) ∧ (D 5 = false → G = []) ∧ (D 6 = true → D 5 = true) ∧ (D 7 = true → D 5 = true) ∧ (D 11 = true → D 5 = true) ∧ (D 11 = true → D 9 = true) ∧ (D 12 = true → D 10 = true) ∧ St w w' ([(B, [.int .i64 c.t, .int .i64 c.s, .int .i64 c.k, .int .i64 c.g, .int .u64 c.q, .slice sv c.n cap, .int .i64 m.cnt, .int .i64 m.l.kind, .int .i64 m.l.a, .int .i64 m.l.b, .int .u64 (m.l.old : Nat), .int .u64 (m.l.new : Nat), .bool m.l.done]), (R, [.int .i64 0, .int .i64 0, .int .i64 0, .int .i64 0, .int .u64 0, .slice none 0 0, .int .i64 0, .int .i64 0, .int .i64 0, .int .i64 0, .int .u64 0, .int .u64 0, .bool false])] ++ G ++ cond (D 9) [(bA, cond (D 11) [.int .i64 c.t, .int .i64 c.s, .int .i64 c.k, .int .i64 c.g, .int .u64 c.q, v', .int .i64 M.cnt, .int .i64 M.l.kind, .int .i64 M.l.a, .int .i64 M.l.b, .int .u64 (M.l.old : Nat), .int .u64 (M.l.new : Nat), .bool M.l.done] [.int .i64 0, .int .i64 0, .int .i64 0, .int .i64 0, .int .u64 0, .slice none 0 0, .int .i64 0, .int .i64 0, .int .i64 0, .int .i64 0, .int .u64 0, .int .u64 0, .bool false])] [] ++ cond (D 10) [(bT, cond (D 12) [.int .i64 M.l.kind, .int .i64 M.l.a, .int .i64 M.l.b, .int .u64 (M.l.old : Nat), .int .u64 (M.l.new : Nat), .bool M.l.done] [.int .i64 0, .int .i64 0, .int .i64 0, .int .u64 0, .int .u64 0, .bool false])] [])) (by kernel_rfl) ?acyc ?start ?steps ?ends
  case acyc =>
    intro i o hi e he hb
    exact og_acyc (by kernel_rfl) hi he hb
  case start => exact ⟨0, 0, .nilIface, [], rfl, (fun h => by cases h), (fun _ => rfl), (fun h => by cases h), (fun h => by cases h), (fun h => by cases h), (fun h => by cases h), (fun h => by cases h), hS.drew⟩
  case steps =>
    intro i o hi D a' w' hD hpre hI
    obtain ⟨bA, bT, v', G, rfl, hRel, hG, hcM, hcX, hcS, hcA, hcT, hS⟩ := hI
    match i, hi with
    | 0, hi =>
      cases hi
      refine wpOp_step rfl (fun K hK => ?_)
      refine stp_val rfl (yif_load (S := fun q => q = w') rfl _ _ rfl _ _ rfl _ (fun _ h => h ▸ hS.get 0 rfl) _ row_rmem (by exact rfl) _ (by dsimp only [cutL, List.drop, List.take]; first | done | exact rfl)) rfl ?_
      exact hK _ _ ⟨bA, bT, v', G, rfl, hRel, hG, hcM, hcX, hcS, hcA, hcT, hS⟩
    | 1, hi =>
      cases hi
      refine wpOp_step rfl (fun K hK => ?_)
      refine stp_val rfl (by exact yif_moveI rfl _ (.inl rfl) _ _ rfl) rfl ?_
      exact hK _ _ ⟨bA, bT, v', G, rfl, hRel, hG, hcM, hcX, hcS, hcA, hcT, hS⟩
    | 2, hi =>
      cases hi
      refine wpOp_step rfl (fun K hK => ?_)
      refine stp_val rfl (by exact yif_moveI rfl _ (.inl rfl) _ _ rfl) rfl ?_
      exact hK _ _ ⟨bA, bT, v', G, rfl, hRel, hG, hcM, hcX, hcS, hcA, hcT, hS⟩
    | 3, hi =>
      cases hi
      have d1 : D 1 = true := og_pre hpre (j := 1) (by kernel_rfl)
      have d2 : D 2 = true := og_pre hpre (j := 2) (by kernel_rfl)
      refine wpOp_step rfl (fun K hK => ?_)
      refine stp_call rfl _ _ _ rfl egSp _ (list2_eq (cond_at d1 rfl) (cond_at d2 rfl)) _ rfl ?_
      refine (rSpot_any _ _ _).mono ?_
      rintro e u ⟨rfl, hb⟩
      exact ⟨_, rfl, hK _ _ ⟨bA, bT, v', G, rfl, hRel, hG, hcM, hcX, hcS, hcA, hcT, hS.call hb⟩⟩
    | 4, hi =>
      cases hi
      refine wpOp_step rfl (fun K hK => ?_)
      refine stp_val rfl (by exact yif_moveI rfl _ (.inl rfl) _ _ rfl) rfl ?_
      exact hK _ _ ⟨bA, bT, v', G, rfl, hRel, hG, hcM, hcX, hcS, hcA, hcT, hS⟩
    | 5, hi =>
      cases hi
      have d0 : D 0 = true := og_pre hpre (j := 0) (by kernel_rfl)
      have d3 : D 3 = true := og_pre hpre (j := 3) (by kernel_rfl)
      have d4 : D 4 = true := og_pre hpre (j := 4) (by kernel_rfl)
      refine wpOp_step rfl (fun K hK => ?_)
      refine stp_call rfl _ _ _ rfl egTo _ (list5_eq (cond_at d0 rfl) rfl (cond_at d3 rfl) rfl (cond_at d4 rfl)) _ rfl ?_
      refine ((unhide HT) _ (((unhide HV).low.below hS.bel).is hS.bel.size)).mono ?_
      rintro e w4 ⟨vn, rfl, hI, hF, hb⟩
      obtain rfl := hG hD
      have m0 := og_not hcM hD
      have x0 := og_not hcX hD
      have z0 := og_not hcS hD
      refine ⟨_, rfl, ?_⟩
      rcases hF with rfl | ⟨g', cg, rfl, lg, hc1, hc2, hGb⟩
      · exact hK _ _ ⟨bA, bT, _, [], (by simp only [m0, x0]; rfl), (fun _ => .inl ⟨rfl, rfl, words_back (unhide HV) hI (hS.call hb).bel (Below.refl _ _)⟩), (fun _ => rfl), (fun _ => rfl), (fun _ => rfl), (fun _ => rfl), hcA, hcT, (by have h := hS.call hb; rw [z0] at h; show St w w4 (_ ++ _ ++ cond (D 9) [(bA, cond (D 11) _ _)] _ ++ _); rw [z0]; exact h)⟩
      · exact hK _ _ ⟨bA, bT, _, [(g', rowW M.ws c.n)], (by simp only [m0, x0]; rfl), (fun _ => .inr ⟨g', cg, rfl, hc1, hc2, rfl⟩), (fun h => by cases h), (fun _ => rfl), (fun _ => rfl), (fun _ => rfl), hcA, hcT, (by have h := hS.add hb hGb lg; rw [z0] at h; show St w w4 (_ ++ _ ++ cond (D 9) [(bA, cond (D 11) _ _)] _ ++ _); rw [z0]; exact h.perm (perm_last _))⟩
    | 6, hi =>
      cases hi
      have d5 : D 5 = true := og_pre hpre (j := 5) (by kernel_rfl)
      refine wpOp_step rfl (fun K hK => ?_)
      refine stp_val rfl (by exact yif_mv rfl (.tmp 17) rfl _ (cond_at d5 rfl)) rfl ?_
      exact hK _ _ ⟨bA, bT, v', G, rfl, hRel, hG, (fun _ => d5), hcX, hcS, hcA, hcT, hS⟩
    | 7, hi =>
      cases hi
      have d6 : D 6 = true := og_pre hpre (j := 6) (by kernel_rfl)
      refine wpOp_step rfl (fun K hK => ?_)
      refine stp_val rfl (by refine yif_extract rfl (.tmp 11) 0 rfl [.agg #[.int .i64 c.t, .int .i64 c.s, .int .i64 c.k, .int .i64 c.g, .int .u64 c.q, v', .int .i64 M.cnt, .int .i64 M.l.kind, .int .i64 M.l.a, .int .i64 M.l.b, .int .u64 (M.l.old : Nat), .int .u64 (M.l.new : Nat), .bool M.l.done], .agg #[.int .i64 M.l.kind, .int .i64 M.l.a, .int .i64 M.l.b, .int .u64 (M.l.old : Nat), .int .u64 (M.l.new : Nat), .bool M.l.done]] ?_ _ rfl; exact cond_at d6 rfl) rfl ?_
      exact hK _ _ ⟨bA, bT, v', G, rfl, hRel, hG, hcM, (fun _ => hcM d6), hcS, hcA, hcT, hS⟩
    | 8, hi =>
      cases hi
      have d6 : D 6 = true := og_pre hpre (j := 6) (by kernel_rfl)
      refine wpOp_step rfl (fun K hK => ?_)
      refine stp_val rfl (by refine yif_extract rfl (.tmp 11) 1 rfl [.agg #[.int .i64 c.t, .int .i64 c.s, .int .i64 c.k, .int .i64 c.g, .int .u64 c.q, v', .int .i64 M.cnt, .int .i64 M.l.kind, .int .i64 M.l.a, .int .i64 M.l.b, .int .u64 (M.l.old : Nat), .int .u64 (M.l.new : Nat), .bool M.l.done], .agg #[.int .i64 M.l.kind, .int .i64 M.l.a, .int .i64 M.l.b, .int .u64 (M.l.old : Nat), .int .u64 (M.l.new : Nat), .bool M.l.done]] ?_ _ rfl; exact cond_at d6 rfl) rfl ?_
      exact hK _ _ ⟨bA, bT, v', G, rfl, hRel, hG, hcM, hcX, hcS, hcA, hcT, hS⟩
    | 9, hi =>
      cases hi
      refine wpOp_step rfl (fun K hK => ?_)
      have e0 := og_not hcA hD
      refine stp_alloc hS rfl _ rfl _ zer_rmem _ rfl _ rfl _ (fun _ => rfl) ?_
      intro bn u hS'
      rw [hD] at hS'
      refine hK _ _ ⟨bn, bT, v', G, rfl, hRel, hG, hcM, hcX, hcS, (fun _ => rfl), hcT, ?_⟩
      show St w u (_ ++ G ++ [(bn, cond (D 11) _ _)] ++ _)
      rw [e0]
      exact hS'.perm (perm_mid _)
    | 10, hi =>
      cases hi
      refine wpOp_step rfl (fun K hK => ?_)
      have e0 := og_not hcT hD
      refine stp_alloc hS rfl _ rfl _ zer_rtch _ rfl _ rfl _ (fun _ => rfl) ?_
      intro bn u hS'
      rw [hD] at hS'
      refine hK _ _ ⟨bA, bn, v', G, rfl, hRel, hG, hcM, hcX, hcS, hcA, (fun _ => rfl), ?_⟩
      show St w u (_ ++ G ++ _ ++ [(bn, cond (D 12) _ _)])
      rw [e0]
      rw [cond_false, List.append_nil] at hS'
      exact hS'
    | 11, hi =>
      cases hi
      have d0 : D 0 = true := og_pre hpre (j := 0) (by kernel_rfl)
      have d1 : D 1 = true := og_pre hpre (j := 1) (by kernel_rfl)
      have d2 : D 2 = true := og_pre hpre (j := 2) (by kernel_rfl)
      have d3 : D 3 = true := og_pre hpre (j := 3) (by kernel_rfl)
      have d4 : D 4 = true := og_pre hpre (j := 4) (by kernel_rfl)
      have d5 : D 5 = true := og_pre hpre (j := 5) (by kernel_rfl)
      have d6 : D 6 = true := og_pre hpre (j := 6) (by kernel_rfl)
      have d7 : D 7 = true := og_pre hpre (j := 7) (by kernel_rfl)
      have d9 : D 9 = true := og_pre hpre (j := 9) (by kernel_rfl)
      have d10 : D 10 = true := og_pre hpre (j := 10) (by kernel_rfl)
      refine wpOp_step rfl (fun K hK => ?_)
      rw [d9, hD, cond_true, cond_false] at hS
      rcases hRel d5 with ⟨rfl, rfl, h3⟩ | ⟨g', cg, rfl, hc1, hc2, rfl⟩
      · refine stp_store hS 2 rfl _ _ _ rfl _ _ (cond_at d9 rfl) _ rfl _ (cond_at d7 rfl) _ siz_rmem (by exact rfl) (by exact rfl) (by exact rfl) rfl ?_
        intro u hS'
        refine hK _ _ ⟨bA, bT, _, _, rfl, (fun _ => .inl ⟨rfl, rfl, h3⟩), hG, hcM, hcX, (fun _ => d5), (fun _ => d9), hcT, ?_⟩
        show St w u (_ ++ _ ++ cond (D 9) _ _ ++ _)
        rw [d9]
        exact hS'
      · refine stp_store hS 3 rfl _ _ _ rfl _ _ (cond_at d9 rfl) _ rfl _ (cond_at d7 rfl) _ siz_rmem (by exact rfl) (by exact rfl) (by exact rfl) rfl ?_
        intro u hS'
        refine hK _ _ ⟨bA, bT, _, _, rfl, (fun _ => .inr ⟨g', cg, rfl, hc1, hc2, rfl⟩), hG, hcM, hcX, (fun _ => d5), (fun _ => d9), hcT, ?_⟩
        show St w u (_ ++ _ ++ cond (D 9) _ _ ++ _)
        rw [d9]
        exact hS'
    | 12, hi =>
      cases hi
      have d0 : D 0 = true := og_pre hpre (j := 0) (by kernel_rfl)
      have d1 : D 1 = true := og_pre hpre (j := 1) (by kernel_rfl)
      have d2 : D 2 = true := og_pre hpre (j := 2) (by kernel_rfl)
      have d3 : D 3 = true := og_pre hpre (j := 3) (by kernel_rfl)
      have d4 : D 4 = true := og_pre hpre (j := 4) (by kernel_rfl)
      have d5 : D 5 = true := og_pre hpre (j := 5) (by kernel_rfl)
      have d6 : D 6 = true := og_pre hpre (j := 6) (by kernel_rfl)
      have d7 : D 7 = true := og_pre hpre (j := 7) (by kernel_rfl)
      have d8 : D 8 = true := og_pre hpre (j := 8) (by kernel_rfl)
      have d9 : D 9 = true := og_pre hpre (j := 9) (by kernel_rfl)
      have d10 : D 10 = true := og_pre hpre (j := 10) (by kernel_rfl)
      have d11 : D 11 = true := og_pre hpre (j := 11) (by kernel_rfl)
      refine wpOp_step rfl (fun K hK => ?_)
      rw [d9, d11, d10, hD, cond_true, cond_true, cond_true, cond_false] at hS
      rcases hRel d5 with ⟨rfl, rfl, h3⟩ | ⟨g', cg, rfl, hc1, hc2, rfl⟩
      · refine stp_store hS 3 rfl _ _ _ rfl _ _ (cond_at d10 rfl) _ rfl _ (cond_at d8 rfl) _ siz_rtch (by exact rfl) (by exact rfl) (by exact rfl) rfl ?_
        intro u hS'
        refine hK _ _ ⟨bA, bT, _, _, rfl, (fun _ => .inl ⟨rfl, rfl, h3⟩), hG, hcM, hcX, hcS, hcA, (fun _ => d10), ?_⟩
        show St w u (_ ++ _ ++ cond (D 9) [(bA, cond (D 11) _ _)] _ ++ cond (D 10) _ _)
        rw [d9, d11, d10]
        exact hS'
      · refine stp_store hS 4 rfl _ _ _ rfl _ _ (cond_at d10 rfl) _ rfl _ (cond_at d8 rfl) _ siz_rtch (by exact rfl) (by exact rfl) (by exact rfl) rfl ?_
        intro u hS'
        refine hK _ _ ⟨bA, bT, _, _, rfl, (fun _ => .inr ⟨g', cg, rfl, hc1, hc2, rfl⟩), hG, hcM, hcX, hcS, hcA, (fun _ => d10), ?_⟩
        show St w u (_ ++ _ ++ cond (D 9) [(bA, cond (D 11) _ _)] _ ++ cond (D 10) _ _)
        rw [d9, d11, d10]
        exact hS'
    | i + 13, hi => simp at hi
  case ends =>
    intro D a' w' hall hI
    obtain ⟨bA, bT, v', G, rfl, hRel, _, _, _, _, _, _, hS⟩ := hI
    have d0 : D 0 = true := hall 0 (by decide)
    have d1 : D 1 = true := hall 1 (by decide)
    have d2 : D 2 = true := hall 2 (by decide)
    have d3 : D 3 = true := hall 3 (by decide)
    have d4 : D 4 = true := hall 4 (by decide)
    have d5 : D 5 = true := hall 5 (by decide)
    have d6 : D 6 = true := hall 6 (by decide)
    have d7 : D 7 = true := hall 7 (by decide)
    have d8 : D 8 = true := hall 8 (by decide)
    have d9 : D 9 = true := hall 9 (by decide)
    have d10 : D 10 = true := hall 10 (by decide)
    have d11 : D 11 = true := hall 11 (by decide)
    have d12 : D 12 = true := hall 12 (by decide)
    rw [d9, d11, d10, d12, cond_true, cond_true, cond_true, cond_true] at hS
    have hRl := hRel d5
    simp only [d0, d1, d2, d3, d4, d5, d6, d7, d8, d9, d10, cond_true]
    clear hRel hall d0 d1 d2 d3 d4 d5 d6 d7 d8 d9 d10 d11 d12
    rcases hRl with ⟨rfl, rfl, h3⟩ | ⟨g', cg, rfl, hc1, hc2, rfl⟩
    · dsimp only [List.cons_append, List.nil_append, List.append_nil] at hS
      go_wp2_with (first | (refine wpl_box hS rfl _ _ rfl _ rfl _ (by intro _; simp only [Act.put, List.setIfInBounds_toArray, List.set_cons_zero, List.set_cons_succ]; first | done | exact rfl) ?_; clear hS; intro _ _ hS; dsimp only [blit, List.set, List.cons_append, List.nil_append, Value.cells, List.toList_toArray] at hS) | (refine wpl_alloc hS rfl _ rfl _ (zer_any rfl) _ (by intro _; simp only [Act.put, List.setIfInBounds_toArray, List.set_cons_zero, List.set_cons_succ]; first | done | exact rfl) ?_; clear hS; intro _ _ hS; dsimp only [blit, List.set, List.cons_append, List.nil_append, Value.cells, List.toList_toArray] at hS) | (refine wpl_ld hS rfl _ _ rfl _ _ rfl ?_; (first | refine ⟨0, _, rfl, ?_⟩ | refine ⟨1, _, rfl, ?_⟩ | refine ⟨2, _, rfl, ?_⟩ | refine ⟨3, _, rfl, ?_⟩ | refine ⟨4, _, rfl, ?_⟩ | refine ⟨5, _, rfl, ?_⟩ | refine ⟨6, _, rfl, ?_⟩ | refine ⟨7, _, rfl, ?_⟩ | refine ⟨8, _, rfl, ?_⟩ | refine ⟨9, _, rfl, ?_⟩); first | refine .inl ⟨_, one_any rfl, rfl, _, (by simp only [Act.put, List.setIfInBounds_toArray, List.set_cons_zero, List.set_cons_succ]; first | done | exact rfl), ?_⟩ | refine .inr ⟨_, _, row_any rfl, rfl, (by dsimp only [cutL, List.drop, List.take]; first | done | exact rfl), _, (by simp only [Act.put, List.setIfInBounds_toArray, List.set_cons_zero, List.set_cons_succ]; first | done | exact rfl), ?_⟩) | (refine wpl_st hS rfl _ _ _ rfl rfl _ _ rfl ?_; (first | refine ⟨0, _, rfl, ?_⟩ | refine ⟨1, _, rfl, ?_⟩ | refine ⟨2, _, rfl, ?_⟩ | refine ⟨3, _, rfl, ?_⟩ | refine ⟨4, _, rfl, ?_⟩ | refine ⟨5, _, rfl, ?_⟩ | refine ⟨6, _, rfl, ?_⟩ | refine ⟨7, _, rfl, ?_⟩ | refine ⟨8, _, rfl, ?_⟩ | refine ⟨9, _, rfl, ?_⟩); refine ⟨_, (by first | exact shA rfl | exact shI rfl | exact shB rfl | exact shS rfl | exact shP rfl | exact shF rfl | exact shN rfl), _, siz_any rfl, (by exact rfl), (by exact rfl), (by exact rfl), ?_⟩; clear hS; intro _ hS; dsimp only [blit, List.set, List.cons_append, List.nil_append, Value.cells, List.toList_toArray] at hS))
      go_wp2
      have hZ := hS.get 1 rfl
      refine bodyPost_ret (v := .agg #[.int .i64 c.t, .int .i64 c.s, .int .i64 c.k, .int .i64 c.g, .int .u64 c.q, .slice sv c.n cap, .int .i64 M.cnt, .int .i64 M.l.kind, .int .i64 M.l.a, .int .i64 M.l.b, .int .u64 (M.l.old : Nat), .int .u64 (M.l.new : Nat), .bool M.l.done]) (by simp [results, Try.results15, go_sem, hZ.cell 0 _ rfl, hZ.cell 1 _ rfl, hZ.cell 2 _ rfl, hZ.cell 3 _ rfl, hZ.cell 4 _ rfl, hZ.cell 5 _ rfl, hZ.cell 6 _ rfl, hZ.cell 7 _ rfl, hZ.cell 8 _ rfl, hZ.cell 9 _ rfl, hZ.cell 10 _ rfl, hZ.cell 11 _ rfl, hZ.cell 12 _ rfl]) rfl ?_
      exact ⟨_, rfl, (h3.low.below hS.bel).is hS.bel.size, .inl rfl, hS.bel⟩
    · dsimp only [List.cons_append, List.nil_append, List.append_nil] at hS
      go_wp2_with (first | (refine wpl_box hS rfl _ _ rfl _ rfl _ (by intro _; simp only [Act.put, List.setIfInBounds_toArray, List.set_cons_zero, List.set_cons_succ]; first | done | exact rfl) ?_; clear hS; intro _ _ hS; dsimp only [blit, List.set, List.cons_append, List.nil_append, Value.cells, List.toList_toArray] at hS) | (refine wpl_alloc hS rfl _ rfl _ (zer_any rfl) _ (by intro _; simp only [Act.put, List.setIfInBounds_toArray, List.set_cons_zero, List.set_cons_succ]; first | done | exact rfl) ?_; clear hS; intro _ _ hS; dsimp only [blit, List.set, List.cons_append, List.nil_append, Value.cells, List.toList_toArray] at hS) | (refine wpl_ld hS rfl _ _ rfl _ _ rfl ?_; (first | refine ⟨0, _, rfl, ?_⟩ | refine ⟨1, _, rfl, ?_⟩ | refine ⟨2, _, rfl, ?_⟩ | refine ⟨3, _, rfl, ?_⟩ | refine ⟨4, _, rfl, ?_⟩ | refine ⟨5, _, rfl, ?_⟩ | refine ⟨6, _, rfl, ?_⟩ | refine ⟨7, _, rfl, ?_⟩ | refine ⟨8, _, rfl, ?_⟩ | refine ⟨9, _, rfl, ?_⟩); first | refine .inl ⟨_, one_any rfl, rfl, _, (by simp only [Act.put, List.setIfInBounds_toArray, List.set_cons_zero, List.set_cons_succ]; first | done | exact rfl), ?_⟩ | refine .inr ⟨_, _, row_any rfl, rfl, (by dsimp only [cutL, List.drop, List.take]; first | done | exact rfl), _, (by simp only [Act.put, List.setIfInBounds_toArray, List.set_cons_zero, List.set_cons_succ]; first | done | exact rfl), ?_⟩) | (refine wpl_st hS rfl _ _ _ rfl rfl _ _ rfl ?_; (first | refine ⟨0, _, rfl, ?_⟩ | refine ⟨1, _, rfl, ?_⟩ | refine ⟨2, _, rfl, ?_⟩ | refine ⟨3, _, rfl, ?_⟩ | refine ⟨4, _, rfl, ?_⟩ | refine ⟨5, _, rfl, ?_⟩ | refine ⟨6, _, rfl, ?_⟩ | refine ⟨7, _, rfl, ?_⟩ | refine ⟨8, _, rfl, ?_⟩ | refine ⟨9, _, rfl, ?_⟩); refine ⟨_, (by first | exact shA rfl | exact shI rfl | exact shB rfl | exact shS rfl | exact shP rfl | exact shF rfl | exact shN rfl), _, siz_any rfl, (by exact rfl), (by exact rfl), (by exact rfl), ?_⟩; clear hS; intro _ hS; dsimp only [blit, List.set, List.cons_append, List.nil_append, Value.cells, List.toList_toArray] at hS))
      go_wp2
      have hZ := hS.get 1 rfl
      refine bodyPost_ret (v := .agg #[.int .i64 c.t, .int .i64 c.s, .int .i64 c.k, .int .i64 c.g, .int .u64 c.q, .slice (some ⟨g', 0, none⟩) c.n cg, .int .i64 M.cnt, .int .i64 M.l.kind, .int .i64 M.l.a, .int .i64 M.l.b, .int .u64 (M.l.old : Nat), .int .u64 (M.l.new : Nat), .bool M.l.done]) (by simp [results, Try.results15, go_sem, hZ.cell 0 _ rfl, hZ.cell 1 _ rfl, hZ.cell 2 _ rfl, hZ.cell 3 _ rfl, hZ.cell 4 _ rfl, hZ.cell 5 _ rfl, hZ.cell 6 _ rfl, hZ.cell 7 _ rfl, hZ.cell 8 _ rfl, hZ.cell 9 _ rfl, hZ.cell 10 _ rfl, hZ.cell 11 _ rfl, hZ.cell 12 _ rfl]) rfl ?_
      exact ⟨_, rfl, .inr ⟨g', 0, cg, rfl, hn0, hc1, hc2, (hS.get 2 rfl).lt, fun j hj => ⟨by rw [Nat.zero_add]; exact (hS.get 2 rfl).cell j _ (rowW_get _ c.n j hj), (unhide HWD) j hj⟩⟩, .inr ⟨g', cg, rfl, hS.low (g', _) (List.mem_of_getElem? (i := 2) rfl), hc1, hc2, hS.get 2 rfl⟩, hS.bel⟩

end Go.Proofs.Ytjicfonpldobdaa

/-
  The walk of the document's own swap.
-/
namespace Go.Proofs.Ytjicfonpldobdaa
set_option maxRecDepth 100000
open Go.RowKit Go.Sort

set_option maxHeartbeats 8000000 in
theorem rSwap_any (c : Um.Cf) (v : Value) (m M : Um.Mm) (a b : Int) (o x : Nat) (w : World) (hr : c.r = true) (hv : IsWords w v c.n m.ws) (hx : Um.Word x) (hM : M = Um.mtouch c m 3 a b o x) :
    Calls Try.prog 17 #[.agg #[.int .i64 c.t, .int .i64 c.s, .int .i64 c.k, .int .i64 c.g, .int .u64 c.q, v, .int .i64 m.cnt, .int .i64 m.l.kind, .int .i64 m.l.a, .int .i64 m.l.b, .int .u64 (m.l.old : Nat), .int .u64 (m.l.new : Nat), .bool m.l.done], .int .i64 a, .int .i64 b, .int .u64 (o : Nat), .int .u64 (x : Nat)] w fun e W' =>
      ∃ v', e = .returned (.tuple #[.agg #[.int .i64 c.t, .int .i64 c.s, .int .i64 c.k, .int .i64 c.g, .int .u64 c.q, v', .int .i64 M.cnt, .int .i64 M.l.kind, .int .i64 M.l.a, .int .i64 M.l.b, .int .u64 (M.l.old : Nat), .int .u64 (M.l.new : Nat), .bool M.l.done], .bool M.l.done]) ∧ IsWords W' v' c.n M.ws ∧ (v' = v ∨ RFresh w W' v' c.n M.ws) ∧ Below w.heap.size w W' := by
  have hn0 : 0 < c.n := by have := Um.Cf.n_pos hr; omega
  have HWD := hide (show ∀ j, j < c.n → Um.Word (M.ws j) by rw [hM]; exact Um.word_touch (words_word hv) hx)
  have hT := fun w hv => rTouch_any c v m M 3 a b o x w hr hv hx (.inr (.inr (.inl rfl))) hM
  have HV := hide hv
  have HT := hide hT
  obtain ⟨sv, cap, rfl⟩ := words_len hv
  clear hv hT hM hx
  have hS := St.new w
  go_enter Try.func17, Try.ntmps17
  go_wp2_with (first | (refine wpl_box hS rfl _ _ rfl _ rfl _ (by intro _; simp only [Act.put, List.setIfInBounds_toArray, List.set_cons_zero, List.set_cons_succ]; first | done | exact rfl) ?_; clear hS; intro _ _ hS; dsimp only [blit, List.set, List.cons_append, List.nil_append, Value.cells, List.toList_toArray] at hS) | (refine wpl_alloc hS rfl _ rfl _ (zer_any rfl) _ (by intro _; simp only [Act.put, List.setIfInBounds_toArray, List.set_cons_zero, List.set_cons_succ]; first | done | exact rfl) ?_; clear hS; intro _ _ hS; dsimp only [blit, List.set, List.cons_append, List.nil_append, Value.cells, List.toList_toArray] at hS) | (refine wpl_ld hS rfl _ _ rfl _ _ rfl ?_; (first | refine ⟨0, _, rfl, ?_⟩ | refine ⟨1, _, rfl, ?_⟩ | refine ⟨2, _, rfl, ?_⟩ | refine ⟨3, _, rfl, ?_⟩ | refine ⟨4, _, rfl, ?_⟩ | refine ⟨5, _, rfl, ?_⟩ | refine ⟨6, _, rfl, ?_⟩ | refine ⟨7, _, rfl, ?_⟩ | refine ⟨8, _, rfl, ?_⟩ | refine ⟨9, _, rfl, ?_⟩); first | refine .inl ⟨_, one_any rfl, rfl, _, (by simp only [Act.put, List.setIfInBounds_toArray, List.set_cons_zero, List.set_cons_succ]; first | done | exact rfl), ?_⟩ | refine .inr ⟨_, _, row_any rfl, rfl, (by dsimp only [cutL, List.drop, List.take]; first | done | exact rfl), _, (by simp only [Act.put, List.setIfInBounds_toArray, List.set_cons_zero, List.set_cons_succ]; first | done | exact rfl), ?_⟩) | (refine wpl_st hS rfl _ _ _ rfl rfl _ _ rfl ?_; (first | refine ⟨0, _, rfl, ?_⟩ | refine ⟨1, _, rfl, ?_⟩ | refine ⟨2, _, rfl, ?_⟩ | refine ⟨3, _, rfl, ?_⟩ | refine ⟨4, _, rfl, ?_⟩ | refine ⟨5, _, rfl, ?_⟩ | refine ⟨6, _, rfl, ?_⟩ | refine ⟨7, _, rfl, ?_⟩ | refine ⟨8, _, rfl, ?_⟩ | refine ⟨9, _, rfl, ?_⟩); refine ⟨_, (by first | exact shA rfl | exact shI rfl | exact shB rfl | exact shS rfl | exact shP rfl | exact shF rfl | exact shN rfl), _, siz_any rfl, (by exact rfl), (by exact rfl), (by exact rfl), ?_⟩; clear hS; intro _ hS; dsimp only [blit, List.set, List.cons_append, List.nil_append, Value.cells, List.toList_toArray] at hS))
  rename_i B _ R X _ _
  refine wp_region_og (I := fun D a' w' => ∃ (bA bT : Nat) (v' : Value) (G : List (Nat × List Value)), a' = ⟨#[.agg #[.int .i64 c.t, .int .i64 c.s, .int .i64 c.k, .int .i64 c.g, .int .u64 c.q, .slice sv c.n cap, .int .i64 m.cnt, .int .i64 m.l.kind, .int .i64 m.l.a, .int .i64 m.l.b, .int .u64 (m.l.old : Nat), .int .u64 (m.l.new : Nat), .bool m.l.done], .int .i64 a, .int .i64 b, .int .u64 (o : Nat), .int .u64 (x : Nat), .pointer (some ⟨B, 0, none⟩), undef, undef, undef, undef, .pointer (some ⟨R, 0, none⟩), .bool false, (cond (D 10) (.pointer (some ⟨bA, 0, none⟩)) undef), (cond (D 11) (.pointer (some ⟨bT, 0, none⟩)) undef), (cond (D 7) (.tuple #[.agg #[.int .i64 c.t, .int .i64 c.s, .int .i64 c.k, .int .i64 c.g, .int .u64 c.q, v', .int .i64 M.cnt, .int .i64 M.l.kind, .int .i64 M.l.a, .int .i64 M.l.b, .int .u64 (M.l.old : Nat), .int .u64 (M.l.new : Nat), .bool M.l.done], .agg #[.int .i64 M.l.kind, .int .i64 M.l.a, .int .i64 M.l.b, .int .u64 (M.l.old : Nat), .int .u64 (M.l.new : Nat), .bool M.l.done]]) undef), (cond (D 0) (.agg #[.int .i64 c.t, .int .i64 c.s, .int .i64 c.k, .int .i64 c.g, .int .u64 c.q, .slice sv c.n cap, .int .i64 m.cnt, .int .i64 m.l.kind, .int .i64 m.l.a, .int .i64 m.l.b, .int .u64 (m.l.old : Nat), .int .u64 (m.l.new : Nat), .bool m.l.done]) undef), (cond (D 1) (.int .i64 a) undef), (cond (D 2) (.int .i64 b) undef), (cond (D 3) (.agg #[.int .i64 a, .int .i64 b]) undef), (cond (D 4) (.int .u64 (o : Nat)) undef), (cond (D 5) (.int .u64 (x : Nat)) undef), (cond (D 6) (.tuple #[.agg #[.int .i64 c.t, .int .i64 c.s, .int .i64 c.k, .int .i64 c.g, .int .u64 c.q, v', .int .i64 M.cnt, .int .i64 M.l.kind, .int .i64 M.l.a, .int .i64 M.l.b, .int .u64 (M.l.old : Nat), .int .u64 (M.l.new : Nat), .bool M.l.done], .agg #[.int .i64 M.l.kind, .int .i64 M.l.a, .int .i64 M.l.b, .int .u64 (M.l.old : Nat), .int .u64 (M.l.new : Nat), .bool M.l.done]]) undef), (cond (D 8) (.agg #[.int .i64 c.t, .int .i64 c.s, .int .i64 c.k, .int .i64 c.g, .int .u64 c.q, v', .int .i64 M.cnt, .int .i64 M.l.kind, .int .i64 M.l.a, .int .i64 M.l.b, .int .u64 (M.l.old : Nat), .int .u64 (M.l.new : Nat), .bool M.l.done]) undef), (cond (D 9) (.agg #[.int .i64 M.l.kind, .int .i64 M.l.a, .int .i64 M.l.b, .int .u64 (M.l.old : Nat), .int .u64 (M.l.new : Nat), .bool M.l.done]) undef), undef, undef, undef], []⟩ ∧ (D 6 = true → ((v' = .slice sv c.n cap ∧ G = [] ∧ IsWords w (.slice sv c.n cap) c.n M.ws) ∨ ∃ g' cg, v' = .slice (some ⟨g', 0, none⟩) c.n cg ∧ c.n ≤ cg ∧ cg ≤ maxLen ∧ G = [(g', rowW M.ws c.n)])) ∧ (D 6 = false → G = []) ∧ (D 7 = true → D 6 = true) ∧ (D 8 = true → D 6 = true) ∧ (D 12 = true → D 6 = true) ∧ (D 12 = true → D 10 = true) ∧ (D 13 = true → D 11 = true) ∧ St w w' ([(B, [.int .i64 c.t, .int .i64 c.s, .int .i64 c.k, .int .i64 c.g, .int .u64 c.q, .slice sv c.n cap, .int .i64 m.cnt, .int .i64 m.l.kind, .int .i64 m.l.a, .int .i64 m.l.b, .int .u64 (m.l.old : Nat), .int .u64 (m.l.new : Nat), .bool m.l.done]), (R, [.int .i64 0, .int .i64 0, .int .i64 0, .int .i64 0, .int .u64 0, .slice none 0 0, .int .i64 0, .int .i64 0, .int .i64 0, .int .i64 0, .int .u64 0, .int .u64 0, .bool false])] ++ G ++ cond (D 10) [(bA, cond (D 12) [.int .i64 c.t, .int .i64 c.s, .int .i64 c.k, .int .i64 c.g, .int .u64 c.q, v', .int .i64 M.cnt, .int .i64 M.l.kind, .int .i64 M.l.a, .int .i64 M.l.b, .int .u64 (M.l.old : Nat), .int .u64 (M.l.new : Nat), .bool M.l.done] [.int .i64 0, .int .i64 0, .int .i64 0, .int .i64 0, .int .u64 0, .slice none 0 0, .int .i64 0, .int .i64 0, .int .i64 0, .int .i64 0, .int .u64 0, .int .u64 0, .bool false])] [] ++ cond (D 11) [(bT, cond (D 13) [.int .i64 M.l.kind, .int .i64 M.l.a, .int .i64 M.l.b, .int .u64 (M.l.old : Nat), .int .u64 (M.l.new : Nat), .bool M.l.done] [.int .i64 0, .int .i64 0, .int .i64 0, .int .u64 0, .int .u64 0, .bool false])] [])) (by kernel_rfl) ?acyc ?start ?steps ?ends
  case acyc =>
    intro i o hi e he hb
    exact og_acyc (by kernel_rfl) hi he hb
  case start => exact ⟨0, 0, .nilIface, [], rfl, (fun h => by cases h), (fun _ => rfl), (fun h => by cases h), (fun h => by cases h), (fun h => by cases h), (fun h => by cases h), (fun h => by cases h), hS.drew⟩
  case steps =>
    intro i o hi D a' w' hD hpre hI
    obtain ⟨bA, bT, v', G, rfl, hRel, hG, hcM, hcX, hcS, hcA, hcT, hS⟩ := hI
    match i, hi with
    | 0, hi =>
      cases hi
      refine wpOp_step rfl (fun K hK => ?_)
      refine stp_val rfl (yif_load (S := fun q => q = w') rfl _ _ rfl _ _ rfl _ (fun _ h => h ▸ hS.get 0 rfl) _ row_rmem (by exact rfl) _ (by dsimp only [cutL, List.drop, List.take]; first | done | exact rfl)) rfl ?_
      exact hK _ _ ⟨bA, bT, v', G, rfl, hRel, hG, hcM, hcX, hcS, hcA, hcT, hS⟩
    | 1, hi =>
      cases hi
      refine wpOp_step rfl (fun K hK => ?_)
      refine stp_val rfl (by exact yif_moveI rfl _ (.inl rfl) _ _ rfl) rfl ?_
      exact hK _ _ ⟨bA, bT, v', G, rfl, hRel, hG, hcM, hcX, hcS, hcA, hcT, hS⟩
    | 2, hi =>
      cases hi
      refine wpOp_step rfl (fun K hK => ?_)
      refine stp_val rfl (by exact yif_moveI rfl _ (.inl rfl) _ _ rfl) rfl ?_
      exact hK _ _ ⟨bA, bT, v', G, rfl, hRel, hG, hcM, hcX, hcS, hcA, hcT, hS⟩
    | 3, hi =>
      cases hi
      have d1 : D 1 = true := og_pre hpre (j := 1) (by kernel_rfl)
      have d2 : D 2 = true := og_pre hpre (j := 2) (by kernel_rfl)
      refine wpOp_step rfl (fun K hK => ?_)
      refine stp_call rfl _ _ _ rfl egSp _ (list2_eq (cond_at d1 rfl) (cond_at d2 rfl)) _ rfl ?_
      refine (rSpot_any _ _ _).mono ?_
      rintro e u ⟨rfl, hb⟩
      exact ⟨_, rfl, hK _ _ ⟨bA, bT, v', G, rfl, hRel, hG, hcM, hcX, hcS, hcA, hcT, hS.call hb⟩⟩
    | 4, hi =>
      cases hi
      refine wpOp_step rfl (fun K hK => ?_)
      refine stp_val rfl (by exact yif_moveI rfl _ (.inl rfl) _ _ rfl) rfl ?_
      exact hK _ _ ⟨bA, bT, v', G, rfl, hRel, hG, hcM, hcX, hcS, hcA, hcT, hS⟩
    | 5, hi =>
      cases hi
      refine wpOp_step rfl (fun K hK => ?_)
      refine stp_val rfl (by exact yif_moveI rfl _ (.inl rfl) _ _ rfl) rfl ?_
      exact hK _ _ ⟨bA, bT, v', G, rfl, hRel, hG, hcM, hcX, hcS, hcA, hcT, hS⟩
    | 6, hi =>
      cases hi
      have d0 : D 0 = true := og_pre hpre (j := 0) (by kernel_rfl)
      have d3 : D 3 = true := og_pre hpre (j := 3) (by kernel_rfl)
      have d4 : D 4 = true := og_pre hpre (j := 4) (by kernel_rfl)
      have d5 : D 5 = true := og_pre hpre (j := 5) (by kernel_rfl)
      refine wpOp_step rfl (fun K hK => ?_)
      refine stp_call rfl _ _ _ rfl egTo _ (list5_eq (cond_at d0 rfl) rfl (cond_at d3 rfl) (cond_at d4 rfl) (cond_at d5 rfl)) _ rfl ?_
      refine ((unhide HT) _ (((unhide HV).low.below hS.bel).is hS.bel.size)).mono ?_
      rintro e w4 ⟨vn, rfl, hI, hF, hb⟩
      obtain rfl := hG hD
      have m0 := og_not hcM hD
      have x0 := og_not hcX hD
      have z0 := og_not hcS hD
      refine ⟨_, rfl, ?_⟩
      rcases hF with rfl | ⟨g', cg, rfl, lg, hc1, hc2, hGb⟩
      · exact hK _ _ ⟨bA, bT, _, [], (by simp only [m0, x0]; rfl), (fun _ => .inl ⟨rfl, rfl, words_back (unhide HV) hI (hS.call hb).bel (Below.refl _ _)⟩), (fun _ => rfl), (fun _ => rfl), (fun _ => rfl), (fun _ => rfl), hcA, hcT, (by have h := hS.call hb; rw [z0] at h; show St w w4 (_ ++ _ ++ cond (D 10) [(bA, cond (D 12) _ _)] _ ++ _); rw [z0]; exact h)⟩
      · exact hK _ _ ⟨bA, bT, _, [(g', rowW M.ws c.n)], (by simp only [m0, x0]; rfl), (fun _ => .inr ⟨g', cg, rfl, hc1, hc2, rfl⟩), (fun h => by cases h), (fun _ => rfl), (fun _ => rfl), (fun _ => rfl), hcA, hcT, (by have h := hS.add hb hGb lg; rw [z0] at h; show St w w4 (_ ++ _ ++ cond (D 10) [(bA, cond (D 12) _ _)] _ ++ _); rw [z0]; exact h.perm (perm_last _))⟩
    | 7, hi =>
      cases hi
      have d6 : D 6 = true := og_pre hpre (j := 6) (by kernel_rfl)
      refine wpOp_step rfl (fun K hK => ?_)
      refine stp_val rfl (by exact yif_mv rfl (.tmp 21) rfl _ (cond_at d6 rfl)) rfl ?_
      exact hK _ _ ⟨bA, bT, v', G, rfl, hRel, hG, (fun _ => d6), hcX, hcS, hcA, hcT, hS⟩
    | 8, hi =>
      cases hi
      have d7 : D 7 = true := og_pre hpre (j := 7) (by kernel_rfl)
      refine wpOp_step rfl (fun K hK => ?_)
      refine stp_val rfl (by refine yif_extract rfl (.tmp 14) 0 rfl [.agg #[.int .i64 c.t, .int .i64 c.s, .int .i64 c.k, .int .i64 c.g, .int .u64 c.q, v', .int .i64 M.cnt, .int .i64 M.l.kind, .int .i64 M.l.a, .int .i64 M.l.b, .int .u64 (M.l.old : Nat), .int .u64 (M.l.new : Nat), .bool M.l.done], .agg #[.int .i64 M.l.kind, .int .i64 M.l.a, .int .i64 M.l.b, .int .u64 (M.l.old : Nat), .int .u64 (M.l.new : Nat), .bool M.l.done]] ?_ _ rfl; exact cond_at d7 rfl) rfl ?_
      exact hK _ _ ⟨bA, bT, v', G, rfl, hRel, hG, hcM, (fun _ => hcM d7), hcS, hcA, hcT, hS⟩
    | 9, hi =>
      cases hi
      have d7 : D 7 = true := og_pre hpre (j := 7) (by kernel_rfl)
      refine wpOp_step rfl (fun K hK => ?_)
      refine stp_val rfl (by refine yif_extract rfl (.tmp 14) 1 rfl [.agg #[.int .i64 c.t, .int .i64 c.s, .int .i64 c.k, .int .i64 c.g, .int .u64 c.q, v', .int .i64 M.cnt, .int .i64 M.l.kind, .int .i64 M.l.a, .int .i64 M.l.b, .int .u64 (M.l.old : Nat), .int .u64 (M.l.new : Nat), .bool M.l.done], .agg #[.int .i64 M.l.kind, .int .i64 M.l.a, .int .i64 M.l.b, .int .u64 (M.l.old : Nat), .int .u64 (M.l.new : Nat), .bool M.l.done]] ?_ _ rfl; exact cond_at d7 rfl) rfl ?_
      exact hK _ _ ⟨bA, bT, v', G, rfl, hRel, hG, hcM, hcX, hcS, hcA, hcT, hS⟩
    | 10, hi =>
      cases hi
      refine wpOp_step rfl (fun K hK => ?_)
      have e0 := og_not hcA hD
      refine stp_alloc hS rfl _ rfl _ zer_rmem _ rfl _ rfl _ (fun _ => rfl) ?_
      intro bn u hS'
      rw [hD] at hS'
      refine hK _ _ ⟨bn, bT, v', G, rfl, hRel, hG, hcM, hcX, hcS, (fun _ => rfl), hcT, ?_⟩
      show St w u (_ ++ G ++ [(bn, cond (D 12) _ _)] ++ _)
      rw [e0]
      exact hS'.perm (perm_mid _)
    | 11, hi =>
      cases hi
      refine wpOp_step rfl (fun K hK => ?_)
      have e0 := og_not hcT hD
      refine stp_alloc hS rfl _ rfl _ zer_rtch _ rfl _ rfl _ (fun _ => rfl) ?_
      intro bn u hS'
      rw [hD] at hS'
      refine hK _ _ ⟨bA, bn, v', G, rfl, hRel, hG, hcM, hcX, hcS, hcA, (fun _ => rfl), ?_⟩
      show St w u (_ ++ G ++ _ ++ [(bn, cond (D 13) _ _)])
      rw [e0]
      rw [cond_false, List.append_nil] at hS'
      exact hS'
    | 12, hi =>
      cases hi
      have d0 : D 0 = true := og_pre hpre (j := 0) (by kernel_rfl)
      have d1 : D 1 = true := og_pre hpre (j := 1) (by kernel_rfl)
      have d2 : D 2 = true := og_pre hpre (j := 2) (by kernel_rfl)
      have d3 : D 3 = true := og_pre hpre (j := 3) (by kernel_rfl)
      have d4 : D 4 = true := og_pre hpre (j := 4) (by kernel_rfl)
      have d5 : D 5 = true := og_pre hpre (j := 5) (by kernel_rfl)
      have d6 : D 6 = true := og_pre hpre (j := 6) (by kernel_rfl)
      have d7 : D 7 = true := og_pre hpre (j := 7) (by kernel_rfl)
      have d8 : D 8 = true := og_pre hpre (j := 8) (by kernel_rfl)
      have d10 : D 10 = true := og_pre hpre (j := 10) (by kernel_rfl)
      have d11 : D 11 = true := og_pre hpre (j := 11) (by kernel_rfl)
      refine wpOp_step rfl (fun K hK => ?_)
      rw [d10, hD, cond_true, cond_false] at hS
      rcases hRel d6 with ⟨rfl, rfl, h3⟩ | ⟨g', cg, rfl, hc1, hc2, rfl⟩
      · refine stp_store hS 2 rfl _ _ _ rfl _ _ (cond_at d10 rfl) _ rfl _ (cond_at d8 rfl) _ siz_rmem (by exact rfl) (by exact rfl) (by exact rfl) rfl ?_
        intro u hS'
        refine hK _ _ ⟨bA, bT, _, _, rfl, (fun _ => .inl ⟨rfl, rfl, h3⟩), hG, hcM, hcX, (fun _ => d6), (fun _ => d10), hcT, ?_⟩
        show St w u (_ ++ _ ++ cond (D 10) _ _ ++ _)
        rw [d10]
        exact hS'
      · refine stp_store hS 3 rfl _ _ _ rfl _ _ (cond_at d10 rfl) _ rfl _ (cond_at d8 rfl) _ siz_rmem (by exact rfl) (by exact rfl) (by exact rfl) rfl ?_
        intro u hS'
        refine hK _ _ ⟨bA, bT, _, _, rfl, (fun _ => .inr ⟨g', cg, rfl, hc1, hc2, rfl⟩), hG, hcM, hcX, (fun _ => d6), (fun _ => d10), hcT, ?_⟩
        show St w u (_ ++ _ ++ cond (D 10) _ _ ++ _)
        rw [d10]
        exact hS'
    | 13, hi =>
      cases hi
      have d0 : D 0 = true := og_pre hpre (j := 0) (by kernel_rfl)
      have d1 : D 1 = true := og_pre hpre (j := 1) (by kernel_rfl)
      have d2 : D 2 = true := og_pre hpre (j := 2) (by kernel_rfl)
      have d3 : D 3 = true := og_pre hpre (j := 3) (by kernel_rfl)
      have d4 : D 4 = true := og_pre hpre (j := 4) (by kernel_rfl)
      have d5 : D 5 = true := og_pre hpre (j := 5) (by kernel_rfl)
      have d6 : D 6 = true := og_pre hpre (j := 6) (by kernel_rfl)
      have d7 : D 7 = true := og_pre hpre (j := 7) (by kernel_rfl)
      have d8 : D 8 = true := og_pre hpre (j := 8) (by kernel_rfl)
      have d9 : D 9 = true := og_pre hpre (j := 9) (by kernel_rfl)
      have d10 : D 10 = true := og_pre hpre (j := 10) (by kernel_rfl)
      have d11 : D 11 = true := og_pre hpre (j := 11) (by kernel_rfl)
      have d12 : D 12 = true := og_pre hpre (j := 12) (by kernel_rfl)
      refine wpOp_step rfl (fun K hK => ?_)
      rw [d10, d12, d11, hD, cond_true, cond_true, cond_true, cond_false] at hS
      rcases hRel d6 with ⟨rfl, rfl, h3⟩ | ⟨g', cg, rfl, hc1, hc2, rfl⟩
      · refine stp_store hS 3 rfl _ _ _ rfl _ _ (cond_at d11 rfl) _ rfl _ (cond_at d9 rfl) _ siz_rtch (by exact rfl) (by exact rfl) (by exact rfl) rfl ?_
        intro u hS'
        refine hK _ _ ⟨bA, bT, _, _, rfl, (fun _ => .inl ⟨rfl, rfl, h3⟩), hG, hcM, hcX, hcS, hcA, (fun _ => d11), ?_⟩
        show St w u (_ ++ _ ++ cond (D 10) [(bA, cond (D 12) _ _)] _ ++ cond (D 11) _ _)
        rw [d10, d12, d11]
        exact hS'
      · refine stp_store hS 4 rfl _ _ _ rfl _ _ (cond_at d11 rfl) _ rfl _ (cond_at d9 rfl) _ siz_rtch (by exact rfl) (by exact rfl) (by exact rfl) rfl ?_
        intro u hS'
        refine hK _ _ ⟨bA, bT, _, _, rfl, (fun _ => .inr ⟨g', cg, rfl, hc1, hc2, rfl⟩), hG, hcM, hcX, hcS, hcA, (fun _ => d11), ?_⟩
        show St w u (_ ++ _ ++ cond (D 10) [(bA, cond (D 12) _ _)] _ ++ cond (D 11) _ _)
        rw [d10, d12, d11]
        exact hS'
    | i + 14, hi => simp at hi
  case ends =>
    intro D a' w' hall hI
    obtain ⟨bA, bT, v', G, rfl, hRel, _, _, _, _, _, _, hS⟩ := hI
    have d0 : D 0 = true := hall 0 (by decide)
    have d1 : D 1 = true := hall 1 (by decide)
    have d2 : D 2 = true := hall 2 (by decide)
    have d3 : D 3 = true := hall 3 (by decide)
    have d4 : D 4 = true := hall 4 (by decide)
    have d5 : D 5 = true := hall 5 (by decide)
    have d6 : D 6 = true := hall 6 (by decide)
    have d7 : D 7 = true := hall 7 (by decide)
    have d8 : D 8 = true := hall 8 (by decide)
    have d9 : D 9 = true := hall 9 (by decide)
    have d10 : D 10 = true := hall 10 (by decide)
    have d11 : D 11 = true := hall 11 (by decide)
    have d12 : D 12 = true := hall 12 (by decide)
    have d13 : D 13 = true := hall 13 (by decide)
    rw [d10, d12, d11, d13, cond_true, cond_true, cond_true, cond_true] at hS
    have hRl := hRel d6
    simp only [d0, d1, d2, d3, d4, d5, d6, d7, d8, d9, d10, d11, cond_true]
    clear hRel hall d0 d1 d2 d3 d4 d5 d6 d7 d8 d9 d10 d11 d12 d13
    rcases hRl with ⟨rfl, rfl, h3⟩ | ⟨g', cg, rfl, hc1, hc2, rfl⟩
    · dsimp only [List.cons_append, List.nil_append, List.append_nil] at hS
      go_wp2_with fail
      refine wp_region_held (S := fun q => BlkAt q bA [.int .i64 c.t, .int .i64 c.s, .int .i64 c.k, .int .i64 c.g, .int .u64 c.q, .slice sv c.n cap, .int .i64 M.cnt, .int .i64 M.l.kind, .int .i64 M.l.a, .int .i64 M.l.b, .int .u64 (M.l.old : Nat), .int .u64 (M.l.new : Nat), .bool M.l.done] ∧ BlkAt q bT [.int .i64 M.l.kind, .int .i64 M.l.a, .int .i64 M.l.b, .int .u64 (M.l.old : Nat), .int .u64 (M.l.new : Nat), .bool M.l.done]) (by kernel_rfl) ?_
      show wpAnyH Try.prog .any _ _ _ 5 _ _ (World.drew w')
      replace hS := hS.drew
      have hM : BlkAt (World.drew w') bA [.int .i64 c.t, .int .i64 c.s, .int .i64 c.k, .int .i64 c.g, .int .u64 c.q, .slice sv c.n cap, .int .i64 M.cnt, .int .i64 M.l.kind, .int .i64 M.l.a, .int .i64 M.l.b, .int .u64 (M.l.old : Nat), .int .u64 (M.l.new : Nat), .bool M.l.done] ∧ BlkAt (World.drew w') bT [.int .i64 M.l.kind, .int .i64 M.l.a, .int .i64 M.l.b, .int .u64 (M.l.old : Nat), .int .u64 (M.l.new : Nat), .bool M.l.done] := ⟨hS.get 2 rfl, hS.get 3 rfl⟩
      refine held_take (i := 0) rfl (by kernel_rfl) (by kernel_rfl) (by kernel_rfl) (fun _ _ _ h => h) (yif_load rfl _ _ rfl _ _ rfl _ (fun _ h => h.1) _ row_rmem (by exact rfl) _ (by dsimp only [cutL, List.drop, List.take]; first | done | exact rfl)) hM (some 24) rfl _ (by simp only [Act.put, List.setIfInBounds_toArray, List.set_cons_zero, List.set_cons_succ]; first | done | exact rfl) ?_
      refine held_take (i := 1) rfl (by kernel_rfl) (by kernel_rfl) (by kernel_rfl) (fun _ _ _ h => h) (yif_by rfl _ (fun w => by go_simp; first | done | exact rfl)) hM (some 25) rfl _ (by simp only [Act.put, List.setIfInBounds_toArray, List.set_cons_zero, List.set_cons_succ]; first | done | exact rfl) ?_
      refine held_take (i := 2) rfl (by kernel_rfl) (by kernel_rfl) (by kernel_rfl) (fun _ _ _ h => h) (yif_load1 rfl _ _ rfl _ _ rfl _ (fun _ h => h.2) one_bool _ rfl) hM (some 26) rfl _ (by simp only [Act.put, List.setIfInBounds_toArray, List.set_cons_zero, List.set_cons_succ]; first | done | exact rfl) ?_
      refine wpAnyH_all (rs := [3]) (by kernel_rfl) (by simp) ?_
      refine AllReadyH.cons rfl (fun K hK => ?_) AllReadyH.nil
      · refine stp_store hS 1 rfl _ _ _ rfl _ _ rfl _ rfl _ rfl _ siz_rmem (by exact rfl) (by exact rfl) (by exact rfl) rfl ?_
        clear hS hM
        intro _ hS
        dsimp only [blit, List.set] at hS
        refine hK.out _ _ ⟨hS.get 2 rfl, hS.get 3 rfl⟩ (fun hM => ?_)
        clear hK
        refine held_take (i := 4) rfl (by kernel_rfl) (by kernel_rfl) (by kernel_rfl) (fun _ _ _ h => h) (yif_moveB rfl _ (.inr rfl) _ rfl) hM (some 11) rfl _ (by simp only [Act.put, List.setIfInBounds_toArray, List.set_cons_zero, List.set_cons_succ]; first | done | exact rfl) ?_
        refine wpAnyH_done (by kernel_rfl) ?_ _
        clear hM
        try simp only [Act.put, List.setIfInBounds_toArray, List.set_cons_zero, List.set_cons_succ]
        go_wp2
        have hZ := hS.get 1 rfl
        refine bodyPost_ret (v := .tuple #[.agg #[.int .i64 c.t, .int .i64 c.s, .int .i64 c.k, .int .i64 c.g, .int .u64 c.q, .slice sv c.n cap, .int .i64 M.cnt, .int .i64 M.l.kind, .int .i64 M.l.a, .int .i64 M.l.b, .int .u64 (M.l.old : Nat), .int .u64 (M.l.new : Nat), .bool M.l.done], .bool M.l.done]) (by simp [results, Try.results17, go_sem, hZ.cell 0 _ rfl, hZ.cell 1 _ rfl, hZ.cell 2 _ rfl, hZ.cell 3 _ rfl, hZ.cell 4 _ rfl, hZ.cell 5 _ rfl, hZ.cell 6 _ rfl, hZ.cell 7 _ rfl, hZ.cell 8 _ rfl, hZ.cell 9 _ rfl, hZ.cell 10 _ rfl, hZ.cell 11 _ rfl, hZ.cell 12 _ rfl]) rfl ?_
        exact ⟨_, rfl, (h3.low.below hS.bel).is hS.bel.size, .inl rfl, hS.bel⟩
    · dsimp only [List.cons_append, List.nil_append, List.append_nil] at hS
      go_wp2_with fail
      refine wp_region_held (S := fun q => BlkAt q bA [.int .i64 c.t, .int .i64 c.s, .int .i64 c.k, .int .i64 c.g, .int .u64 c.q, .slice (some ⟨g', 0, none⟩) c.n cg, .int .i64 M.cnt, .int .i64 M.l.kind, .int .i64 M.l.a, .int .i64 M.l.b, .int .u64 (M.l.old : Nat), .int .u64 (M.l.new : Nat), .bool M.l.done] ∧ BlkAt q bT [.int .i64 M.l.kind, .int .i64 M.l.a, .int .i64 M.l.b, .int .u64 (M.l.old : Nat), .int .u64 (M.l.new : Nat), .bool M.l.done]) (by kernel_rfl) ?_
      show wpAnyH Try.prog .any _ _ _ 5 _ _ (World.drew w')
      replace hS := hS.drew
      have hM : BlkAt (World.drew w') bA [.int .i64 c.t, .int .i64 c.s, .int .i64 c.k, .int .i64 c.g, .int .u64 c.q, .slice (some ⟨g', 0, none⟩) c.n cg, .int .i64 M.cnt, .int .i64 M.l.kind, .int .i64 M.l.a, .int .i64 M.l.b, .int .u64 (M.l.old : Nat), .int .u64 (M.l.new : Nat), .bool M.l.done] ∧ BlkAt (World.drew w') bT [.int .i64 M.l.kind, .int .i64 M.l.a, .int .i64 M.l.b, .int .u64 (M.l.old : Nat), .int .u64 (M.l.new : Nat), .bool M.l.done] := ⟨hS.get 3 rfl, hS.get 4 rfl⟩
      refine held_take (i := 0) rfl (by kernel_rfl) (by kernel_rfl) (by kernel_rfl) (fun _ _ _ h => h) (yif_load rfl _ _ rfl _ _ rfl _ (fun _ h => h.1) _ row_rmem (by exact rfl) _ (by dsimp only [cutL, List.drop, List.take]; first | done | exact rfl)) hM (some 24) rfl _ (by simp only [Act.put, List.setIfInBounds_toArray, List.set_cons_zero, List.set_cons_succ]; first | done | exact rfl) ?_
      refine held_take (i := 1) rfl (by kernel_rfl) (by kernel_rfl) (by kernel_rfl) (fun _ _ _ h => h) (yif_by rfl _ (fun w => by go_simp; first | done | exact rfl)) hM (some 25) rfl _ (by simp only [Act.put, List.setIfInBounds_toArray, List.set_cons_zero, List.set_cons_succ]; first | done | exact rfl) ?_
      refine held_take (i := 2) rfl (by kernel_rfl) (by kernel_rfl) (by kernel_rfl) (fun _ _ _ h => h) (yif_load1 rfl _ _ rfl _ _ rfl _ (fun _ h => h.2) one_bool _ rfl) hM (some 26) rfl _ (by simp only [Act.put, List.setIfInBounds_toArray, List.set_cons_zero, List.set_cons_succ]; first | done | exact rfl) ?_
      refine wpAnyH_all (rs := [3]) (by kernel_rfl) (by simp) ?_
      refine AllReadyH.cons rfl (fun K hK => ?_) AllReadyH.nil
      · refine stp_store hS 1 rfl _ _ _ rfl _ _ rfl _ rfl _ rfl _ siz_rmem (by exact rfl) (by exact rfl) (by exact rfl) rfl ?_
        clear hS hM
        intro _ hS
        dsimp only [blit, List.set] at hS
        refine hK.out _ _ ⟨hS.get 3 rfl, hS.get 4 rfl⟩ (fun hM => ?_)
        clear hK
        refine held_take (i := 4) rfl (by kernel_rfl) (by kernel_rfl) (by kernel_rfl) (fun _ _ _ h => h) (yif_moveB rfl _ (.inr rfl) _ rfl) hM (some 11) rfl _ (by simp only [Act.put, List.setIfInBounds_toArray, List.set_cons_zero, List.set_cons_succ]; first | done | exact rfl) ?_
        refine wpAnyH_done (by kernel_rfl) ?_ _
        clear hM
        try simp only [Act.put, List.setIfInBounds_toArray, List.set_cons_zero, List.set_cons_succ]
        go_wp2
        have hZ := hS.get 1 rfl
        refine bodyPost_ret (v := .tuple #[.agg #[.int .i64 c.t, .int .i64 c.s, .int .i64 c.k, .int .i64 c.g, .int .u64 c.q, .slice (some ⟨g', 0, none⟩) c.n cg, .int .i64 M.cnt, .int .i64 M.l.kind, .int .i64 M.l.a, .int .i64 M.l.b, .int .u64 (M.l.old : Nat), .int .u64 (M.l.new : Nat), .bool M.l.done], .bool M.l.done]) (by simp [results, Try.results17, go_sem, hZ.cell 0 _ rfl, hZ.cell 1 _ rfl, hZ.cell 2 _ rfl, hZ.cell 3 _ rfl, hZ.cell 4 _ rfl, hZ.cell 5 _ rfl, hZ.cell 6 _ rfl, hZ.cell 7 _ rfl, hZ.cell 8 _ rfl, hZ.cell 9 _ rfl, hZ.cell 10 _ rfl, hZ.cell 11 _ rfl, hZ.cell 12 _ rfl]) rfl ?_
        exact ⟨_, rfl, .inr ⟨g', 0, cg, rfl, hn0, hc1, hc2, (hS.get 2 rfl).lt, fun j hj => ⟨by rw [Nat.zero_add]; exact (hS.get 2 rfl).cell j _ (rowW_get _ c.n j hj), (unhide HWD) j hj⟩⟩, .inr ⟨g', cg, rfl, hS.low (g', _) (List.mem_of_getElem? (i := 2) rfl), hc1, hc2, hS.get 2 rfl⟩, hS.bel⟩

end Go.Proofs.Ytjicfonpldobdaa

/-
  The walk of the document's own add.
-/
namespace Go.Proofs.Ytjicfonpldobdaa
set_option maxRecDepth 100000
open Go.RowKit Go.Sort

set_option maxHeartbeats 8000000 in
theorem rAdd_any (c : Um.Cf) (v : Value) (m M : Um.Mm) (a b : Int) (x : Nat) (w : World) (hr : c.r = true) (hv : IsWords w v c.n m.ws) (hx : Um.Word x) (hM : M = Um.mtouch c m 4 a b 0 x) :
    Calls Try.prog 19 #[.agg #[.int .i64 c.t, .int .i64 c.s, .int .i64 c.k, .int .i64 c.g, .int .u64 c.q, v, .int .i64 m.cnt, .int .i64 m.l.kind, .int .i64 m.l.a, .int .i64 m.l.b, .int .u64 (m.l.old : Nat), .int .u64 (m.l.new : Nat), .bool m.l.done], .int .i64 a, .int .i64 b, .int .u64 (x : Nat)] w fun e W' =>
      ∃ v', e = .returned (.tuple #[.agg #[.int .i64 c.t, .int .i64 c.s, .int .i64 c.k, .int .i64 c.g, .int .u64 c.q, v', .int .i64 M.cnt, .int .i64 M.l.kind, .int .i64 M.l.a, .int .i64 M.l.b, .int .u64 (M.l.old : Nat), .int .u64 (M.l.new : Nat), .bool M.l.done], .int .u64 (M.l.old : Nat)]) ∧ IsWords W' v' c.n M.ws ∧ (v' = v ∨ RFresh w W' v' c.n M.ws) ∧ Below w.heap.size w W' := by
  have hn0 : 0 < c.n := by have := Um.Cf.n_pos hr; omega
  have HWD := hide (show ∀ j, j < c.n → Um.Word (M.ws j) by rw [hM]; exact Um.word_touch (words_word hv) hx)
  have hT := fun w hv => rTouch_any c v m M 4 a b 0 x w hr hv hx (.inr (.inr (.inr rfl))) hM
  have HV := hide hv
  have HT := hide hT
  obtain ⟨sv, cap, rfl⟩ := words_len hv
  clear hv hT hM hx
  have hS := St.new w
  go_enter Try.func19, Try.ntmps19
  go_wp2_with (first | (refine wpl_box hS rfl _ _ rfl _ rfl _ (by intro _; simp only [Act.put, List.setIfInBounds_toArray, List.set_cons_zero, List.set_cons_succ]; first | done | exact rfl) ?_; clear hS; intro _ _ hS; dsimp only [blit, List.set, List.cons_append, List.nil_append, Value.cells, List.toList_toArray] at hS) | (refine wpl_alloc hS rfl _ rfl _ (zer_any rfl) _ (by intro _; simp only [Act.put, List.setIfInBounds_toArray, List.set_cons_zero, List.set_cons_succ]; first | done | exact rfl) ?_; clear hS; intro _ _ hS; dsimp only [blit, List.set, List.cons_append, List.nil_append, Value.cells, List.toList_toArray] at hS) | (refine wpl_ld hS rfl _ _ rfl _ _ rfl ?_; (first | refine ⟨0, _, rfl, ?_⟩ | refine ⟨1, _, rfl, ?_⟩ | refine ⟨2, _, rfl, ?_⟩ | refine ⟨3, _, rfl, ?_⟩ | refine ⟨4, _, rfl, ?_⟩ | refine ⟨5, _, rfl, ?_⟩ | refine ⟨6, _, rfl, ?_⟩ | refine ⟨7, _, rfl, ?_⟩ | refine ⟨8, _, rfl, ?_⟩ | refine ⟨9, _, rfl, ?_⟩); first | refine .inl ⟨_, one_any rfl, rfl, _, (by simp only [Act.put, List.setIfInBounds_toArray, List.set_cons_zero, List.set_cons_succ]; first | done | exact rfl), ?_⟩ | refine .inr ⟨_, _, row_any rfl, rfl, (by dsimp only [cutL, List.drop, List.take]; first | done | exact rfl), _, (by simp only [Act.put, List.setIfInBounds_toArray, List.set_cons_zero, List.set_cons_succ]; first | done | exact rfl), ?_⟩) | (refine wpl_st hS rfl _ _ _ rfl rfl _ _ rfl ?_; (first | refine ⟨0, _, rfl, ?_⟩ | refine ⟨1, _, rfl, ?_⟩ | refine ⟨2, _, rfl, ?_⟩ | refine ⟨3, _, rfl, ?_⟩ | refine ⟨4, _, rfl, ?_⟩ | refine ⟨5, _, rfl, ?_⟩ | refine ⟨6, _, rfl, ?_⟩ | refine ⟨7, _, rfl, ?_⟩ | refine ⟨8, _, rfl, ?_⟩ | refine ⟨9, _, rfl, ?_⟩); refine ⟨_, (by first | exact shA rfl | exact shI rfl | exact shB rfl | exact shS rfl | exact shP rfl | exact shF rfl | exact shN rfl), _, siz_any rfl, (by exact rfl), (by exact rfl), (by exact rfl), ?_⟩; clear hS; intro _ hS; dsimp only [blit, List.set, List.cons_append, List.nil_append, Value.cells, List.toList_toArray] at hS))
  rename_i B _ R X _ _
  refine wp_region_og (I := fun D a' w' => ∃ (bA bT : Nat) (v' : Value) (G : List (Nat × List Value)), a' = ⟨#[.agg #[.int .i64 c.t, .int .i64 c.s, .int .i64 c.k, .int .i64 c.g, .int .u64 c.q, .slice sv c.n cap, .int .i64 m.cnt, .int .i64 m.l.kind, .int .i64 m.l.a, .int .i64 m.l.b, .int .u64 (m.l.old : Nat), .int .u64 (m.l.new : Nat), .bool m.l.done], .int .i64 a, .int .i64 b, .int .u64 (x : Nat), .pointer (some ⟨B, 0, none⟩), undef, undef, undef, .pointer (some ⟨R, 0, none⟩), .int .u64 0, (cond (D 9) (.pointer (some ⟨bA, 0, none⟩)) undef), (cond (D 10) (.pointer (some ⟨bT, 0, none⟩)) undef), (cond (D 6) (.tuple #[.agg #[.int .i64 c.t, .int .i64 c.s, .int .i64 c.k, .int .i64 c.g, .int .u64 c.q, v', .int .i64 M.cnt, .int .i64 M.l.kind, .int .i64 M.l.a, .int .i64 M.l.b, .int .u64 (M.l.old : Nat), .int .u64 (M.l.new : Nat), .bool M.l.done], .agg #[.int .i64 M.l.kind, .int .i64 M.l.a, .int .i64 M.l.b, .int .u64 (M.l.old : Nat), .int .u64 (M.l.new : Nat), .bool M.l.done]]) undef), (cond (D 0) (.agg #[.int .i64 c.t, .int .i64 c.s, .int .i64 c.k, .int .i64 c.g, .int .u64 c.q, .slice sv c.n cap, .int .i64 m.cnt, .int .i64 m.l.kind, .int .i64 m.l.a, .int .i64 m.l.b, .int .u64 (m.l.old : Nat), .int .u64 (m.l.new : Nat), .bool m.l.done]) undef), (cond (D 1) (.int .i64 a) undef), (cond (D 2) (.int .i64 b) undef), (cond (D 3) (.agg #[.int .i64 a, .int .i64 b]) undef), (cond (D 4) (.int .u64 (x : Nat)) undef), (cond (D 5) (.tuple #[.agg #[.int .i64 c.t, .int .i64 c.s, .int .i64 c.k, .int .i64 c.g, .int .u64 c.q, v', .int .i64 M.cnt, .int .i64 M.l.kind, .int .i64 M.l.a, .int .i64 M.l.b, .int .u64 (M.l.old : Nat), .int .u64 (M.l.new : Nat), .bool M.l.done], .agg #[.int .i64 M.l.kind, .int .i64 M.l.a, .int .i64 M.l.b, .int .u64 (M.l.old : Nat), .int .u64 (M.l.new : Nat), .bool M.l.done]]) undef), (cond (D 7) (.agg #[.int .i64 c.t, .int .i64 c.s, .int .i64 c.k, .int .i64 c.g, .int .u64 c.q, v', .int .i64 M.cnt, .int .i64 M.l.kind, .int .i64 M.l.a, .int .i64 M.l.b, .int .u64 (M.l.old : Nat), .int .u64 (M.l.new : Nat), .bool M.l.done]) undef), (cond (D 8) (.agg #[.int .i64 M.l.kind, .int .i64 M.l.a, .int .i64 M.l.b, .int .u64 (M.l.old : Nat), .int .u64 (M.l.new : Nat), .bool M.l.done]) undef), undef, undef, undef], []⟩ ∧ (D 5 = true → ((v' = .slice sv c.n cap ∧ G = [] ∧ IsWords w (.slice sv c.n cap) c.n M.ws) ∨ ∃ g' cg, v' = .slice (some ⟨g', 0, none⟩) c.n cg ∧ c.n ≤ cg ∧ cg ≤ maxLen ∧ G = [(g', rowW M.ws c.n)])) ∧ (D 5 = false → G = []) ∧ (D 6 = true → D 5 = true) ∧ (D 7 = true → D 5 = true) ∧ (D 11 = true → D 5 = true) ∧ (D 11 = true → D 9 = true) ∧ (D 12 = true → D 10 = true) ∧ St w w' ([(B, [.int .i64 c.t, .int .i64 c.s, .int .i64 c.k, .int .i64 c.g, .int .u64 c.q, .slice sv c.n cap, .int .i64 m.cnt, .int .i64 m.l.kind, .int .i64 m.l.a, .int .i64 m.l.b, .int .u64 (m.l.old : Nat), .int .u64 (m.l.new : Nat), .bool m.l.done]), (R, [.int .i64 0, .int .i64 0, .int .i64 0, .int .i64 0, .int .u64 0, .slice none 0 0, .int .i64 0, .int .i64 0, .int .i64 0, .int .i64 0, .int .u64 0, .int .u64 0, .bool false])] ++ G ++ cond (D 9) [(bA, cond (D 11) [.int .i64 c.t, .int .i64 c.s, .int .i64 c.k, .int .i64 c.g, .int .u64 c.q, v', .int .i64 M.cnt, .int .i64 M.l.kind, .int .i64 M.l.a, .int .i64 M.l.b, .int .u64 (M.l.old : Nat), .int .u64 (M.l.new : Nat), .bool M.l.done] [.int .i64 0, .int .i64 0, .int .i64 0, .int .i64 0, .int .u64 0, .slice none 0 0, .int .i64 0, .int .i64 0, .int .i64 0, .int .i64 0, .int .u64 0, .int .u64 0, .bool false])] [] ++ cond (D 10) [(bT, cond (D 12) [.int .i64 M.l.kind, .int .i64 M.l.a, .int .i64 M.l.b, .int .u64 (M.l.old : Nat), .int .u64 (M.l.new : Nat), .bool M.l.done] [.int .i64 0, .int .i64 0, .int .i64 0, .int .u64 0, .int .u64 0, .bool false])] [])) (by kernel_rfl) ?acyc ?start ?steps ?ends
  case acyc =>
    intro i o hi e he hb
    exact og_acyc (by kernel_rfl) hi he hb
  case start => exact ⟨0, 0, .nilIface, [], rfl, (fun h => by cases h), (fun _ => rfl), (fun h => by cases h), (fun h => by cases h), (fun h => by cases h), (fun h => by cases h), (fun h => by cases h), hS.drew⟩
  case steps =>
    intro i o hi D a' w' hD hpre hI
    obtain ⟨bA, bT, v', G, rfl, hRel, hG, hcM, hcX, hcS, hcA, hcT, hS⟩ := hI
    match i, hi with
    | 0, hi =>
      cases hi
      refine wpOp_step rfl (fun K hK => ?_)
      refine stp_val rfl (yif_load (S := fun q => q = w') rfl _ _ rfl _ _ rfl _ (fun _ h => h ▸ hS.get 0 rfl) _ row_rmem (by exact rfl) _ (by dsimp only [cutL, List.drop, List.take]; first | done | exact rfl)) rfl ?_
      exact hK _ _ ⟨bA, bT, v', G, rfl, hRel, hG, hcM, hcX, hcS, hcA, hcT, hS⟩
    | 1, hi =>
      cases hi
      refine wpOp_step rfl (fun K hK => ?_)
      refine stp_val rfl (by exact yif_moveI rfl _ (.inl rfl) _ _ rfl) rfl ?_
      exact hK _ _ ⟨bA, bT, v', G, rfl, hRel, hG, hcM, hcX, hcS, hcA, hcT, hS⟩
    | 2, hi =>
      cases hi
      refine wpOp_step rfl (fun K hK => ?_)
      refine stp_val rfl (by exact yif_moveI rfl _ (.inl rfl) _ _ rfl) rfl ?_
      exact hK _ _ ⟨bA, bT, v', G, rfl, hRel, hG, hcM, hcX, hcS, hcA, hcT, hS⟩
    | 3, hi =>
      cases hi
      have d1 : D 1 = true := og_pre hpre (j := 1) (by kernel_rfl)
      have d2 : D 2 = true := og_pre hpre (j := 2) (by kernel_rfl)
      refine wpOp_step rfl (fun K hK => ?_)
      refine stp_call rfl _ _ _ rfl egSp _ (list2_eq (cond_at d1 rfl) (cond_at d2 rfl)) _ rfl ?_
      refine (rSpot_any _ _ _).mono ?_
      rintro e u ⟨rfl, hb⟩
      exact ⟨_, rfl, hK _ _ ⟨bA, bT, v', G, rfl, hRel, hG, hcM, hcX, hcS, hcA, hcT, hS.call hb⟩⟩
    | 4, hi =>
      cases hi
      refine wpOp_step rfl (fun K hK => ?_)
      refine stp_val rfl (by exact yif_moveI rfl _ (.inl rfl) _ _ rfl) rfl ?_
      exact hK _ _ ⟨bA, bT, v', G, rfl, hRel, hG, hcM, hcX, hcS, hcA, hcT, hS⟩
    | 5, hi =>
      cases hi
      have d0 : D 0 = true := og_pre hpre (j := 0) (by kernel_rfl)
      have d3 : D 3 = true := og_pre hpre (j := 3) (by kernel_rfl)
      have d4 : D 4 = true := og_pre hpre (j := 4) (by kernel_rfl)
      refine wpOp_step rfl (fun K hK => ?_)
      refine stp_call rfl _ _ _ rfl egTo _ (list5_eq (cond_at d0 rfl) rfl (cond_at d3 rfl) rfl (cond_at d4 rfl)) _ rfl ?_
      refine ((unhide HT) _ (((unhide HV).low.below hS.bel).is hS.bel.size)).mono ?_
      rintro e w4 ⟨vn, rfl, hI, hF, hb⟩
      obtain rfl := hG hD
      have m0 := og_not hcM hD
      have x0 := og_not hcX hD
      have z0 := og_not hcS hD
      refine ⟨_, rfl, ?_⟩
      rcases hF with rfl | ⟨g', cg, rfl, lg, hc1, hc2, hGb⟩
      · exact hK _ _ ⟨bA, bT, _, [], (by simp only [m0, x0]; rfl), (fun _ => .inl ⟨rfl, rfl, words_back (unhide HV) hI (hS.call hb).bel (Below.refl _ _)⟩), (fun _ => rfl), (fun _ => rfl), (fun _ => rfl), (fun _ => rfl), hcA, hcT, (by have h := hS.call hb; rw [z0] at h; show St w w4 (_ ++ _ ++ cond (D 9) [(bA, cond (D 11) _ _)] _ ++ _); rw [z0]; exact h)⟩
      · exact hK _ _ ⟨bA, bT, _, [(g', rowW M.ws c.n)], (by simp only [m0, x0]; rfl), (fun _ => .inr ⟨g', cg, rfl, hc1, hc2, rfl⟩), (fun h => by cases h), (fun _ => rfl), (fun _ => rfl), (fun _ => rfl), hcA, hcT, (by have h := hS.add hb hGb lg; rw [z0] at h; show St w w4 (_ ++ _ ++ cond (D 9) [(bA, cond (D 11) _ _)] _ ++ _); rw [z0]; exact h.perm (perm_last _))⟩
    | 6, hi =>
      cases hi
      have d5 : D 5 = true := og_pre hpre (j := 5) (by kernel_rfl)
      refine wpOp_step rfl (fun K hK => ?_)
      refine stp_val rfl (by exact yif_mv rfl (.tmp 18) rfl _ (cond_at d5 rfl)) rfl ?_
      exact hK _ _ ⟨bA, bT, v', G, rfl, hRel, hG, (fun _ => d5), hcX, hcS, hcA, hcT, hS⟩
    | 7, hi =>
      cases hi
      have d6 : D 6 = true := og_pre hpre (j := 6) (by kernel_rfl)
      refine wpOp_step rfl (fun K hK => ?_)
      refine stp_val rfl (by refine yif_extract rfl (.tmp 12) 0 rfl [.agg #[.int .i64 c.t, .int .i64 c.s, .int .i64 c.k, .int .i64 c.g, .int .u64 c.q, v', .int .i64 M.cnt, .int .i64 M.l.kind, .int .i64 M.l.a, .int .i64 M.l.b, .int .u64 (M.l.old : Nat), .int .u64 (M.l.new : Nat), .bool M.l.done], .agg #[.int .i64 M.l.kind, .int .i64 M.l.a, .int .i64 M.l.b, .int .u64 (M.l.old : Nat), .int .u64 (M.l.new : Nat), .bool M.l.done]] ?_ _ rfl; exact cond_at d6 rfl) rfl ?_
      exact hK _ _ ⟨bA, bT, v', G, rfl, hRel, hG, hcM, (fun _ => hcM d6), hcS, hcA, hcT, hS⟩
    | 8, hi =>
      cases hi
      have d6 : D 6 = true := og_pre hpre (j := 6) (by kernel_rfl)
      refine wpOp_step rfl (fun K hK => ?_)
      refine stp_val rfl (by refine yif_extract rfl (.tmp 12) 1 rfl [.agg #[.int .i64 c.t, .int .i64 c.s, .int .i64 c.k, .int .i64 c.g, .int .u64 c.q, v', .int .i64 M.cnt, .int .i64 M.l.kind, .int .i64 M.l.a, .int .i64 M.l.b, .int .u64 (M.l.old : Nat), .int .u64 (M.l.new : Nat), .bool M.l.done], .agg #[.int .i64 M.l.kind, .int .i64 M.l.a, .int .i64 M.l.b, .int .u64 (M.l.old : Nat), .int .u64 (M.l.new : Nat), .bool M.l.done]] ?_ _ rfl; exact cond_at d6 rfl) rfl ?_
      exact hK _ _ ⟨bA, bT, v', G, rfl, hRel, hG, hcM, hcX, hcS, hcA, hcT, hS⟩
    | 9, hi =>
      cases hi
      refine wpOp_step rfl (fun K hK => ?_)
      have e0 := og_not hcA hD
      refine stp_alloc hS rfl _ rfl _ zer_rmem _ rfl _ rfl _ (fun _ => rfl) ?_
      intro bn u hS'
      rw [hD] at hS'
      refine hK _ _ ⟨bn, bT, v', G, rfl, hRel, hG, hcM, hcX, hcS, (fun _ => rfl), hcT, ?_⟩
      show St w u (_ ++ G ++ [(bn, cond (D 11) _ _)] ++ _)
      rw [e0]
      exact hS'.perm (perm_mid _)
    | 10, hi =>
      cases hi
      refine wpOp_step rfl (fun K hK => ?_)
      have e0 := og_not hcT hD
      refine stp_alloc hS rfl _ rfl _ zer_rtch _ rfl _ rfl _ (fun _ => rfl) ?_
      intro bn u hS'
      rw [hD] at hS'
      refine hK _ _ ⟨bA, bn, v', G, rfl, hRel, hG, hcM, hcX, hcS, hcA, (fun _ => rfl), ?_⟩
      show St w u (_ ++ G ++ _ ++ [(bn, cond (D 12) _ _)])
      rw [e0]
      rw [cond_false, List.append_nil] at hS'
      exact hS'
    | 11, hi =>
      cases hi
      have d0 : D 0 = true := og_pre hpre (j := 0) (by kernel_rfl)
      have d1 : D 1 = true := og_pre hpre (j := 1) (by kernel_rfl)
      have d2 : D 2 = true := og_pre hpre (j := 2) (by kernel_rfl)
      have d3 : D 3 = true := og_pre hpre (j := 3) (by kernel_rfl)
      have d4 : D 4 = true := og_pre hpre (j := 4) (by kernel_rfl)
      have d5 : D 5 = true := og_pre hpre (j := 5) (by kernel_rfl)
      have d6 : D 6 = true := og_pre hpre (j := 6) (by kernel_rfl)
      have d7 : D 7 = true := og_pre hpre (j := 7) (by kernel_rfl)
      have d9 : D 9 = true := og_pre hpre (j := 9) (by kernel_rfl)
      have d10 : D 10 = true := og_pre hpre (j := 10) (by kernel_rfl)
      refine wpOp_step rfl (fun K hK => ?_)
      rw [d9, hD, cond_true, cond_false] at hS
      rcases hRel d5 with ⟨rfl, rfl, h3⟩ | ⟨g', cg, rfl, hc1, hc2, rfl⟩
      · refine stp_store hS 2 rfl _ _ _ rfl _ _ (cond_at d9 rfl) _ rfl _ (cond_at d7 rfl) _ siz_rmem (by exact rfl) (by exact rfl) (by exact rfl) rfl ?_
        intro u hS'
        refine hK _ _ ⟨bA, bT, _, _, rfl, (fun _ => .inl ⟨rfl, rfl, h3⟩), hG, hcM, hcX, (fun _ => d5), (fun _ => d9), hcT, ?_⟩
        show St w u (_ ++ _ ++ cond (D 9) _ _ ++ _)
        rw [d9]
        exact hS'
      · refine stp_store hS 3 rfl _ _ _ rfl _ _ (cond_at d9 rfl) _ rfl _ (cond_at d7 rfl) _ siz_rmem (by exact rfl) (by exact rfl) (by exact rfl) rfl ?_
        intro u hS'
        refine hK _ _ ⟨bA, bT, _, _, rfl, (fun _ => .inr ⟨g', cg, rfl, hc1, hc2, rfl⟩), hG, hcM, hcX, (fun _ => d5), (fun _ => d9), hcT, ?_⟩
        show St w u (_ ++ _ ++ cond (D 9) _ _ ++ _)
        rw [d9]
        exact hS'
    | 12, hi =>
      cases hi
      have d0 : D 0 = true := og_pre hpre (j := 0) (by kernel_rfl)
      have d1 : D 1 = true := og_pre hpre (j := 1) (by kernel_rfl)
      have d2 : D 2 = true := og_pre hpre (j := 2) (by kernel_rfl)
      have d3 : D 3 = true := og_pre hpre (j := 3) (by kernel_rfl)
      have d4 : D 4 = true := og_pre hpre (j := 4) (by kernel_rfl)
      have d5 : D 5 = true := og_pre hpre (j := 5) (by kernel_rfl)
      have d6 : D 6 = true := og_pre hpre (j := 6) (by kernel_rfl)
      have d7 : D 7 = true := og_pre hpre (j := 7) (by kernel_rfl)
      have d8 : D 8 = true := og_pre hpre (j := 8) (by kernel_rfl)
      have d9 : D 9 = true := og_pre hpre (j := 9) (by kernel_rfl)
      have d10 : D 10 = true := og_pre hpre (j := 10) (by kernel_rfl)
      have d11 : D 11 = true := og_pre hpre (j := 11) (by kernel_rfl)
      refine wpOp_step rfl (fun K hK => ?_)
      rw [d9, d11, d10, hD, cond_true, cond_true, cond_true, cond_false] at hS
      rcases hRel d5 with ⟨rfl, rfl, h3⟩ | ⟨g', cg, rfl, hc1, hc2, rfl⟩
      · refine stp_store hS 3 rfl _ _ _ rfl _ _ (cond_at d10 rfl) _ rfl _ (cond_at d8 rfl) _ siz_rtch (by exact rfl) (by exact rfl) (by exact rfl) rfl ?_
        intro u hS'
        refine hK _ _ ⟨bA, bT, _, _, rfl, (fun _ => .inl ⟨rfl, rfl, h3⟩), hG, hcM, hcX, hcS, hcA, (fun _ => d10), ?_⟩
        show St w u (_ ++ _ ++ cond (D 9) [(bA, cond (D 11) _ _)] _ ++ cond (D 10) _ _)
        rw [d9, d11, d10]
        exact hS'
      · refine stp_store hS 4 rfl _ _ _ rfl _ _ (cond_at d10 rfl) _ rfl _ (cond_at d8 rfl) _ siz_rtch (by exact rfl) (by exact rfl) (by exact rfl) rfl ?_
        intro u hS'
        refine hK _ _ ⟨bA, bT, _, _, rfl, (fun _ => .inr ⟨g', cg, rfl, hc1, hc2, rfl⟩), hG, hcM, hcX, hcS, hcA, (fun _ => d10), ?_⟩
        show St w u (_ ++ _ ++ cond (D 9) [(bA, cond (D 11) _ _)] _ ++ cond (D 10) _ _)
        rw [d9, d11, d10]
        exact hS'
    | i + 13, hi => simp at hi
  case ends =>
    intro D a' w' hall hI
    obtain ⟨bA, bT, v', G, rfl, hRel, _, _, _, _, _, _, hS⟩ := hI
    have d0 : D 0 = true := hall 0 (by decide)
    have d1 : D 1 = true := hall 1 (by decide)
    have d2 : D 2 = true := hall 2 (by decide)
    have d3 : D 3 = true := hall 3 (by decide)
    have d4 : D 4 = true := hall 4 (by decide)
    have d5 : D 5 = true := hall 5 (by decide)
    have d6 : D 6 = true := hall 6 (by decide)
    have d7 : D 7 = true := hall 7 (by decide)
    have d8 : D 8 = true := hall 8 (by decide)
    have d9 : D 9 = true := hall 9 (by decide)
    have d10 : D 10 = true := hall 10 (by decide)
    have d11 : D 11 = true := hall 11 (by decide)
    have d12 : D 12 = true := hall 12 (by decide)
    rw [d9, d11, d10, d12, cond_true, cond_true, cond_true, cond_true] at hS
    have hRl := hRel d5
    simp only [d0, d1, d2, d3, d4, d5, d6, d7, d8, d9, d10, cond_true]
    clear hRel hall d0 d1 d2 d3 d4 d5 d6 d7 d8 d9 d10 d11 d12
    rcases hRl with ⟨rfl, rfl, h3⟩ | ⟨g', cg, rfl, hc1, hc2, rfl⟩
    · dsimp only [List.cons_append, List.nil_append, List.append_nil] at hS
      go_wp2_with fail
      refine wp_region_held (S := fun q => BlkAt q bA [.int .i64 c.t, .int .i64 c.s, .int .i64 c.k, .int .i64 c.g, .int .u64 c.q, .slice sv c.n cap, .int .i64 M.cnt, .int .i64 M.l.kind, .int .i64 M.l.a, .int .i64 M.l.b, .int .u64 (M.l.old : Nat), .int .u64 (M.l.new : Nat), .bool M.l.done] ∧ BlkAt q bT [.int .i64 M.l.kind, .int .i64 M.l.a, .int .i64 M.l.b, .int .u64 (M.l.old : Nat), .int .u64 (M.l.new : Nat), .bool M.l.done]) (by kernel_rfl) ?_
      show wpAnyH Try.prog .any _ _ _ 5 _ _ (World.drew w')
      replace hS := hS.drew
      have hM : BlkAt (World.drew w') bA [.int .i64 c.t, .int .i64 c.s, .int .i64 c.k, .int .i64 c.g, .int .u64 c.q, .slice sv c.n cap, .int .i64 M.cnt, .int .i64 M.l.kind, .int .i64 M.l.a, .int .i64 M.l.b, .int .u64 (M.l.old : Nat), .int .u64 (M.l.new : Nat), .bool M.l.done] ∧ BlkAt (World.drew w') bT [.int .i64 M.l.kind, .int .i64 M.l.a, .int .i64 M.l.b, .int .u64 (M.l.old : Nat), .int .u64 (M.l.new : Nat), .bool M.l.done] := ⟨hS.get 2 rfl, hS.get 3 rfl⟩
      refine held_take (i := 0) rfl (by kernel_rfl) (by kernel_rfl) (by kernel_rfl) (fun _ _ _ h => h) (yif_load rfl _ _ rfl _ _ rfl _ (fun _ h => h.1) _ row_rmem (by exact rfl) _ (by dsimp only [cutL, List.drop, List.take]; first | done | exact rfl)) hM (some 21) rfl _ (by simp only [Act.put, List.setIfInBounds_toArray, List.set_cons_zero, List.set_cons_succ]; first | done | exact rfl) ?_
      refine held_take (i := 1) rfl (by kernel_rfl) (by kernel_rfl) (by kernel_rfl) (fun _ _ _ h => h) (yif_by rfl _ (fun w => by go_simp; first | done | exact rfl)) hM (some 22) rfl _ (by simp only [Act.put, List.setIfInBounds_toArray, List.set_cons_zero, List.set_cons_succ]; first | done | exact rfl) ?_
      refine held_take (i := 2) rfl (by kernel_rfl) (by kernel_rfl) (by kernel_rfl) (fun _ _ _ h => h) (yif_load1 rfl _ _ rfl _ _ rfl _ (fun _ h => h.2) one_u64 _ rfl) hM (some 23) rfl _ (by simp only [Act.put, List.setIfInBounds_toArray, List.set_cons_zero, List.set_cons_succ]; first | done | exact rfl) ?_
      refine wpAnyH_all (rs := [3]) (by kernel_rfl) (by simp) ?_
      refine AllReadyH.cons rfl (fun K hK => ?_) AllReadyH.nil
      · refine stp_store hS 1 rfl _ _ _ rfl _ _ rfl _ rfl _ rfl _ siz_rmem (by exact rfl) (by exact rfl) (by exact rfl) rfl ?_
        clear hS hM
        intro _ hS
        dsimp only [blit, List.set] at hS
        refine hK.out _ _ ⟨hS.get 2 rfl, hS.get 3 rfl⟩ (fun hM => ?_)
        clear hK
        refine held_take (i := 4) rfl (by kernel_rfl) (by kernel_rfl) (by kernel_rfl) (fun _ _ _ h => h) (yif_moveI rfl _ (.inr rfl) _ _ rfl) hM (some 9) rfl _ (by simp only [Act.put, List.setIfInBounds_toArray, List.set_cons_zero, List.set_cons_succ]; first | done | exact rfl) ?_
        refine wpAnyH_done (by kernel_rfl) ?_ _
        clear hM
        try simp only [Act.put, List.setIfInBounds_toArray, List.set_cons_zero, List.set_cons_succ]
        go_wp2
        have hZ := hS.get 1 rfl
        refine bodyPost_ret (v := .tuple #[.agg #[.int .i64 c.t, .int .i64 c.s, .int .i64 c.k, .int .i64 c.g, .int .u64 c.q, .slice sv c.n cap, .int .i64 M.cnt, .int .i64 M.l.kind, .int .i64 M.l.a, .int .i64 M.l.b, .int .u64 (M.l.old : Nat), .int .u64 (M.l.new : Nat), .bool M.l.done], .int .u64 (M.l.old : Nat)]) (by simp [results, Try.results19, go_sem, hZ.cell 0 _ rfl, hZ.cell 1 _ rfl, hZ.cell 2 _ rfl, hZ.cell 3 _ rfl, hZ.cell 4 _ rfl, hZ.cell 5 _ rfl, hZ.cell 6 _ rfl, hZ.cell 7 _ rfl, hZ.cell 8 _ rfl, hZ.cell 9 _ rfl, hZ.cell 10 _ rfl, hZ.cell 11 _ rfl, hZ.cell 12 _ rfl]) rfl ?_
        exact ⟨_, rfl, (h3.low.below hS.bel).is hS.bel.size, .inl rfl, hS.bel⟩
    · dsimp only [List.cons_append, List.nil_append, List.append_nil] at hS
      go_wp2_with fail
      refine wp_region_held (S := fun q => BlkAt q bA [.int .i64 c.t, .int .i64 c.s, .int .i64 c.k, .int .i64 c.g, .int .u64 c.q, .slice (some ⟨g', 0, none⟩) c.n cg, .int .i64 M.cnt, .int .i64 M.l.kind, .int .i64 M.l.a, .int .i64 M.l.b, .int .u64 (M.l.old : Nat), .int .u64 (M.l.new : Nat), .bool M.l.done] ∧ BlkAt q bT [.int .i64 M.l.kind, .int .i64 M.l.a, .int .i64 M.l.b, .int .u64 (M.l.old : Nat), .int .u64 (M.l.new : Nat), .bool M.l.done]) (by kernel_rfl) ?_
      show wpAnyH Try.prog .any _ _ _ 5 _ _ (World.drew w')
      replace hS := hS.drew
      have hM : BlkAt (World.drew w') bA [.int .i64 c.t, .int .i64 c.s, .int .i64 c.k, .int .i64 c.g, .int .u64 c.q, .slice (some ⟨g', 0, none⟩) c.n cg, .int .i64 M.cnt, .int .i64 M.l.kind, .int .i64 M.l.a, .int .i64 M.l.b, .int .u64 (M.l.old : Nat), .int .u64 (M.l.new : Nat), .bool M.l.done] ∧ BlkAt (World.drew w') bT [.int .i64 M.l.kind, .int .i64 M.l.a, .int .i64 M.l.b, .int .u64 (M.l.old : Nat), .int .u64 (M.l.new : Nat), .bool M.l.done] := ⟨hS.get 3 rfl, hS.get 4 rfl⟩
      refine held_take (i := 0) rfl (by kernel_rfl) (by kernel_rfl) (by kernel_rfl) (fun _ _ _ h => h) (yif_load rfl _ _ rfl _ _ rfl _ (fun _ h => h.1) _ row_rmem (by exact rfl) _ (by dsimp only [cutL, List.drop, List.take]; first | done | exact rfl)) hM (some 21) rfl _ (by simp only [Act.put, List.setIfInBounds_toArray, List.set_cons_zero, List.set_cons_succ]; first | done | exact rfl) ?_
      refine held_take (i := 1) rfl (by kernel_rfl) (by kernel_rfl) (by kernel_rfl) (fun _ _ _ h => h) (yif_by rfl _ (fun w => by go_simp; first | done | exact rfl)) hM (some 22) rfl _ (by simp only [Act.put, List.setIfInBounds_toArray, List.set_cons_zero, List.set_cons_succ]; first | done | exact rfl) ?_
      refine held_take (i := 2) rfl (by kernel_rfl) (by kernel_rfl) (by kernel_rfl) (fun _ _ _ h => h) (yif_load1 rfl _ _ rfl _ _ rfl _ (fun _ h => h.2) one_u64 _ rfl) hM (some 23) rfl _ (by simp only [Act.put, List.setIfInBounds_toArray, List.set_cons_zero, List.set_cons_succ]; first | done | exact rfl) ?_
      refine wpAnyH_all (rs := [3]) (by kernel_rfl) (by simp) ?_
      refine AllReadyH.cons rfl (fun K hK => ?_) AllReadyH.nil
      · refine stp_store hS 1 rfl _ _ _ rfl _ _ rfl _ rfl _ rfl _ siz_rmem (by exact rfl) (by exact rfl) (by exact rfl) rfl ?_
        clear hS hM
        intro _ hS
        dsimp only [blit, List.set] at hS
        refine hK.out _ _ ⟨hS.get 3 rfl, hS.get 4 rfl⟩ (fun hM => ?_)
        clear hK
        refine held_take (i := 4) rfl (by kernel_rfl) (by kernel_rfl) (by kernel_rfl) (fun _ _ _ h => h) (yif_moveI rfl _ (.inr rfl) _ _ rfl) hM (some 9) rfl _ (by simp only [Act.put, List.setIfInBounds_toArray, List.set_cons_zero, List.set_cons_succ]; first | done | exact rfl) ?_
        refine wpAnyH_done (by kernel_rfl) ?_ _
        clear hM
        try simp only [Act.put, List.setIfInBounds_toArray, List.set_cons_zero, List.set_cons_succ]
        go_wp2
        have hZ := hS.get 1 rfl
        refine bodyPost_ret (v := .tuple #[.agg #[.int .i64 c.t, .int .i64 c.s, .int .i64 c.k, .int .i64 c.g, .int .u64 c.q, .slice (some ⟨g', 0, none⟩) c.n cg, .int .i64 M.cnt, .int .i64 M.l.kind, .int .i64 M.l.a, .int .i64 M.l.b, .int .u64 (M.l.old : Nat), .int .u64 (M.l.new : Nat), .bool M.l.done], .int .u64 (M.l.old : Nat)]) (by simp [results, Try.results19, go_sem, hZ.cell 0 _ rfl, hZ.cell 1 _ rfl, hZ.cell 2 _ rfl, hZ.cell 3 _ rfl, hZ.cell 4 _ rfl, hZ.cell 5 _ rfl, hZ.cell 6 _ rfl, hZ.cell 7 _ rfl, hZ.cell 8 _ rfl, hZ.cell 9 _ rfl, hZ.cell 10 _ rfl, hZ.cell 11 _ rfl, hZ.cell 12 _ rfl]) rfl ?_
        exact ⟨_, rfl, .inr ⟨g', 0, cg, rfl, hn0, hc1, hc2, (hS.get 2 rfl).lt, fun j hj => ⟨by rw [Nat.zero_add]; exact (hS.get 2 rfl).cell j _ (rowW_get _ c.n j hj), (unhide HWD) j hj⟩⟩, .inr ⟨g', cg, rfl, hS.low (g', _) (List.mem_of_getElem? (i := 2) rfl), hc1, hc2, hS.get 2 rfl⟩, hS.bel⟩

end Go.Proofs.Ytjicfonpldobdaa

/-
  Layer 6's contracts over blocks of two lists: the program's accesses, the document's, are they alike, a new pair.
-/
namespace Go.Proofs.Ytjicfonpldobdaa
set_option maxRecDepth 100000
open Go.RowKit Go.Sort

/-- the words of one memory -/
def WordsOk (c : Um.Cf) (m : Um.Mm) : Prop := ∀ q, q < c.n → Um.Word (m.ws q)

/-- an elder block, or a new one -/
def Fr (w : World) (g g' : Nat) : Prop := g' = g ∨ w.heap.size ≤ g'

theorem Fr.refl (w : World) (g : Nat) : Fr w g g := .inl rfl

theorem Fr.trans {w u : World} {g g1 g2 : Nat} (h : Fr w g g1) (k : Fr u g1 g2) (hs : w.heap.size ≤ u.heap.size) : Fr w g g2 := by
  rcases k with rfl | k
  · exact h
  · exact .inr (Nat.le_trans hs k)

section
variable {bs : List Nat} {w0 w : World} {l e : List (Nat × List Value)} {B C g cg : Nat} {c : Um.Cf} {m : Um.Mm}

theorem Sx.mem (hS : Sx bs w0 w l e) (i j : Nat) (hi : l[i]? = some (B, memL c C m)) (hj : l[j]? = some (C, rowW m.ws c.n)) (hij : i ≠ j) (hr : c.r = true) (hw : WordsOk c m) : MemAt w B C c m :=
  memAt_of (hS.get i hi) (hS.get j hj) (hS.ne i j hi hj hij) hr hw

theorem Sx.memd {w' : World} {M : Um.Mm} (hS : Sx bs w0 w l e) (i j : Nat) (hi : l[i]? = some (B, memL c C m)) (hj : l[j]? = some (C, rowW m.ws c.n)) (hM : MemAt w' B C c M) (hO : Off B C w w') : Sx bs w0 w' (putL l [(i, B, memL c C M), (j, C, rowW M.ws c.n)]) e := by
  refine hS.sets _ (fun u hu => ?_) (Turn.of_off hO) (fun u hu => ?_)
  · rcases (by simpa using hu : u = (i, B, memL c C M) ∨ u = (j, C, rowW M.ws c.n)) with rfl | rfl
    · exact ⟨_, hi⟩
    · exact ⟨_, hj⟩
  · rcases (by simpa using hu : u = (i, B, memL c C M) ∨ u = (j, C, rowW M.ws c.n)) with rfl | rfl
    · exact hM.blkB
    · exact hM.blkC

theorem Sx.words (hS : Sx bs w0 w l e) (k : Nat) (hk : e[k]? = some (g, rowW m.ws c.n)) (hr : c.r = true) (hw : WordsOk c m) (h1 : c.n ≤ cg) (h2 : cg ≤ maxLen) : IsWords w (.slice (some ⟨g, 0, none⟩) c.n cg) c.n m.ws :=
  .inr ⟨g, 0, cg, rfl, by have := Um.Cf.n_pos hr; omega, h1, h2, (hS.getE k hk).lt, fun q hq => ⟨by rw [Nat.zero_add]; exact (hS.getE k hk).cell q _ (rowW_get _ c.n q hq), hw q hq⟩⟩

theorem blk_of_words {w' : World} {ws ws' : Nat → Nat} {n : Nat} (hB : BlkAt w' g (rowW ws n)) (hI : IsWords w' (.slice (some ⟨g, 0, none⟩) n cg) n ws') : BlkAt w' g (rowW ws' n) := by
  refine ⟨hB.lt, fun j v hv => ?_, hB.fz⟩
  have hj : j < n := by have := (List.getElem?_eq_some_iff.1 hv).1; rwa [rowW_len] at this
  rw [rowW_get ws' n j hj] at hv
  cases hv
  rcases hI with ⟨_, _, e, h0⟩ | ⟨b, off, cap, e, _, _, _, _, hc⟩
  · omega
  · simp only [Value.slice.injEq, Option.some.injEq, Addr.mk.injEq] at e
    obtain ⟨⟨rfl, rfl, _⟩, _, _⟩ := e
    have := (hc j hj).1
    rwa [Nat.zero_add] at this

/-- what the document's access leaves -/
theorem Sx.handed {w' : World} {v' : Value} {M : Um.Mm} (hS : Sx bs w0 w l e) (k : Nat) (hk : e[k]? = some (g, rowW m.ws c.n)) (h1 : c.n ≤ cg) (h2 : cg ≤ maxLen) (hI : IsWords w' v' c.n M.ws) (hF : v' = (.slice (some ⟨g, 0, none⟩) c.n cg) ∨ RFresh w w' v' c.n M.ws) (hb : Below w.heap.size w w') :
    ∃ g' cg', v' = (.slice (some ⟨g', 0, none⟩) c.n cg') ∧ c.n ≤ cg' ∧ cg' ≤ maxLen ∧ Fr w g g' ∧ Sx bs w0 w' l (e.set k (g', rowW M.ws c.n)) := by
  rcases hF with rfl | ⟨g', cg', rfl, lg, hc1, hc2, hG⟩
  · exact ⟨g, cg, rfl, h1, h2, .inl rfl, hS.ref hb k hk (.inl rfl) (blk_of_words ((hS.getE k hk).below hb) hI)⟩
  · exact ⟨g', cg', rfl, hc1, hc2, .inr lg, hS.ref hb k hk (.inr lg) hG⟩

theorem mLoad_x (hS : Sx bs w0 w l e) (i j : Nat) (hi : l[i]? = some (B, memL c C m)) (hj : l[j]? = some (C, rowW m.ws c.n)) (hij : i ≠ j) (hr : c.r = true) (hw : WordsOk c m) (a b : Int) (hb0 : -9223372036854775808 ≤ b) (hb1 : b ≤ 9223372036854775807) (M : Um.Mm) (hM : M = Um.mtouch c m 1 a b 0 0) :
    Calls Try.prog 12 #[.pointer (some ⟨B, 0, none⟩), (.agg #[.int .i64 a, .int .i64 b])] w fun r w' => r = .returned (.int .u64 (M.l.old : Nat)) ∧ WordsOk c M ∧ Sx bs w0 w' (putL l [(i, B, memL c C M), (j, C, rowW M.ws c.n)]) e := by
  refine (mLoad_any (hS.mem i j hi hj hij hr hw) a b hb0 hb1 M hM).mono ?_
  rintro r w' ⟨rfl, h1, h2⟩
  exact ⟨rfl, h1.wd, hS.memd i j hi hj h1 h2⟩

theorem rLoad_x (hS : Sx bs w0 w l e) (k : Nat) (hk : e[k]? = some (g, rowW m.ws c.n)) (hr : c.r = true) (hw : WordsOk c m) (h1 : c.n ≤ cg) (h2 : cg ≤ maxLen) (a b : Int) (M : Um.Mm) (hM : M = Um.mtouch c m 1 a b 0 0) :
    Calls Try.prog 13 #[(.agg #[.int .i64 c.t, .int .i64 c.s, .int .i64 c.k, .int .i64 c.g, .int .u64 c.q, (.slice (some ⟨g, 0, none⟩) c.n cg), .int .i64 m.cnt, .int .i64 m.l.kind, .int .i64 m.l.a, .int .i64 m.l.b, .int .u64 (m.l.old : Nat), .int .u64 (m.l.new : Nat), .bool m.l.done]), .int .i64 a, .int .i64 b] w fun r w' => ∃ g' cg', r = .returned (.tuple #[(.agg #[.int .i64 c.t, .int .i64 c.s, .int .i64 c.k, .int .i64 c.g, .int .u64 c.q, (.slice (some ⟨g', 0, none⟩) c.n cg'), .int .i64 M.cnt, .int .i64 M.l.kind, .int .i64 M.l.a, .int .i64 M.l.b, .int .u64 (M.l.old : Nat), .int .u64 (M.l.new : Nat), .bool M.l.done]), .int .u64 (M.l.old : Nat)]) ∧ c.n ≤ cg' ∧ cg' ≤ maxLen ∧ Fr w g g' ∧ WordsOk c M ∧ Sx bs w0 w' l (e.set k (g', rowW M.ws c.n)) := by
  refine (rLoad_any c (.slice (some ⟨g, 0, none⟩) c.n cg) m M a b w hr (hS.words k hk hr hw h1 h2) hM).mono ?_
  rintro r w' ⟨v', rfl, hI, hF, hb⟩
  obtain ⟨g', cg', rfl, q1, q2, q3, q4⟩ := hS.handed k hk h1 h2 hI hF hb
  exact ⟨g', cg', rfl, q1, q2, q3, by rw [hM]; exact Um.word_touch hw (by unfold Um.Word; omega), q4⟩

theorem mStore_x (hS : Sx bs w0 w l e) (i j : Nat) (hi : l[i]? = some (B, memL c C m)) (hj : l[j]? = some (C, rowW m.ws c.n)) (hij : i ≠ j) (hr : c.r = true) (hw : WordsOk c m) (a b : Int) (x : Nat) (hx : Um.Word x) (hb0 : -9223372036854775808 ≤ b) (hb1 : b ≤ 9223372036854775807) (M : Um.Mm) (hM : M = Um.mtouch c m 2 a b 0 x) :
    Calls Try.prog 14 #[.pointer (some ⟨B, 0, none⟩), (.agg #[.int .i64 a, .int .i64 b]), .int .u64 (x : Nat)] w fun r w' => r = .returned (.tuple #[]) ∧ WordsOk c M ∧ Sx bs w0 w' (putL l [(i, B, memL c C M), (j, C, rowW M.ws c.n)]) e := by
  refine (mStore_any (hS.mem i j hi hj hij hr hw) a b x hx hb0 hb1 M hM).mono ?_
  rintro r w' ⟨rfl, h1, h2⟩
  exact ⟨rfl, h1.wd, hS.memd i j hi hj h1 h2⟩

theorem rStore_x (hS : Sx bs w0 w l e) (k : Nat) (hk : e[k]? = some (g, rowW m.ws c.n)) (hr : c.r = true) (hw : WordsOk c m) (h1 : c.n ≤ cg) (h2 : cg ≤ maxLen) (a b : Int) (x : Nat) (hx : Um.Word x) (M : Um.Mm) (hM : M = Um.mtouch c m 2 a b 0 x) :
    Calls Try.prog 15 #[(.agg #[.int .i64 c.t, .int .i64 c.s, .int .i64 c.k, .int .i64 c.g, .int .u64 c.q, (.slice (some ⟨g, 0, none⟩) c.n cg), .int .i64 m.cnt, .int .i64 m.l.kind, .int .i64 m.l.a, .int .i64 m.l.b, .int .u64 (m.l.old : Nat), .int .u64 (m.l.new : Nat), .bool m.l.done]), .int .i64 a, .int .i64 b, .int .u64 (x : Nat)] w fun r w' => ∃ g' cg', r = .returned ((.agg #[.int .i64 c.t, .int .i64 c.s, .int .i64 c.k, .int .i64 c.g, .int .u64 c.q, (.slice (some ⟨g', 0, none⟩) c.n cg'), .int .i64 M.cnt, .int .i64 M.l.kind, .int .i64 M.l.a, .int .i64 M.l.b, .int .u64 (M.l.old : Nat), .int .u64 (M.l.new : Nat), .bool M.l.done])) ∧ c.n ≤ cg' ∧ cg' ≤ maxLen ∧ Fr w g g' ∧ WordsOk c M ∧ Sx bs w0 w' l (e.set k (g', rowW M.ws c.n)) := by
  refine (rStore_any c (.slice (some ⟨g, 0, none⟩) c.n cg) m M a b x w hr (hS.words k hk hr hw h1 h2) hx hM).mono ?_
  rintro r w' ⟨v', rfl, hI, hF, hb⟩
  obtain ⟨g', cg', rfl, q1, q2, q3, q4⟩ := hS.handed k hk h1 h2 hI hF hb
  exact ⟨g', cg', rfl, q1, q2, q3, by rw [hM]; exact Um.word_touch hw hx, q4⟩

theorem mSwap_x (hS : Sx bs w0 w l e) (i j : Nat) (hi : l[i]? = some (B, memL c C m)) (hj : l[j]? = some (C, rowW m.ws c.n)) (hij : i ≠ j) (hr : c.r = true) (hw : WordsOk c m) (a b : Int) (o x : Nat) (hx : Um.Word x) (hb0 : -9223372036854775808 ≤ b) (hb1 : b ≤ 9223372036854775807) (M : Um.Mm) (hM : M = Um.mtouch c m 3 a b o x) :
    Calls Try.prog 16 #[.pointer (some ⟨B, 0, none⟩), (.agg #[.int .i64 a, .int .i64 b]), .int .u64 (o : Nat), .int .u64 (x : Nat)] w fun r w' => r = .returned (.bool M.l.done) ∧ WordsOk c M ∧ Sx bs w0 w' (putL l [(i, B, memL c C M), (j, C, rowW M.ws c.n)]) e := by
  refine (mSwap_any (hS.mem i j hi hj hij hr hw) a b o x hx hb0 hb1 M hM).mono ?_
  rintro r w' ⟨rfl, h1, h2⟩
  exact ⟨rfl, h1.wd, hS.memd i j hi hj h1 h2⟩

theorem rSwap_x (hS : Sx bs w0 w l e) (k : Nat) (hk : e[k]? = some (g, rowW m.ws c.n)) (hr : c.r = true) (hw : WordsOk c m) (h1 : c.n ≤ cg) (h2 : cg ≤ maxLen) (a b : Int) (o x : Nat) (hx : Um.Word x) (M : Um.Mm) (hM : M = Um.mtouch c m 3 a b o x) :
    Calls Try.prog 17 #[(.agg #[.int .i64 c.t, .int .i64 c.s, .int .i64 c.k, .int .i64 c.g, .int .u64 c.q, (.slice (some ⟨g, 0, none⟩) c.n cg), .int .i64 m.cnt, .int .i64 m.l.kind, .int .i64 m.l.a, .int .i64 m.l.b, .int .u64 (m.l.old : Nat), .int .u64 (m.l.new : Nat), .bool m.l.done]), .int .i64 a, .int .i64 b, .int .u64 (o : Nat), .int .u64 (x : Nat)] w fun r w' => ∃ g' cg', r = .returned (.tuple #[(.agg #[.int .i64 c.t, .int .i64 c.s, .int .i64 c.k, .int .i64 c.g, .int .u64 c.q, (.slice (some ⟨g', 0, none⟩) c.n cg'), .int .i64 M.cnt, .int .i64 M.l.kind, .int .i64 M.l.a, .int .i64 M.l.b, .int .u64 (M.l.old : Nat), .int .u64 (M.l.new : Nat), .bool M.l.done]), .bool M.l.done]) ∧ c.n ≤ cg' ∧ cg' ≤ maxLen ∧ Fr w g g' ∧ WordsOk c M ∧ Sx bs w0 w' l (e.set k (g', rowW M.ws c.n)) := by
  refine (rSwap_any c (.slice (some ⟨g, 0, none⟩) c.n cg) m M a b o x w hr (hS.words k hk hr hw h1 h2) hx hM).mono ?_
  rintro r w' ⟨v', rfl, hI, hF, hb⟩
  obtain ⟨g', cg', rfl, q1, q2, q3, q4⟩ := hS.handed k hk h1 h2 hI hF hb
  exact ⟨g', cg', rfl, q1, q2, q3, by rw [hM]; exact Um.word_touch hw hx, q4⟩

theorem mAdd_x (hS : Sx bs w0 w l e) (i j : Nat) (hi : l[i]? = some (B, memL c C m)) (hj : l[j]? = some (C, rowW m.ws c.n)) (hij : i ≠ j) (hr : c.r = true) (hw : WordsOk c m) (a b : Int) (x : Nat) (hx : Um.Word x) (hb0 : -9223372036854775808 ≤ b) (hb1 : b ≤ 9223372036854775807) (M : Um.Mm) (hM : M = Um.mtouch c m 4 a b 0 x) :
    Calls Try.prog 18 #[.pointer (some ⟨B, 0, none⟩), (.agg #[.int .i64 a, .int .i64 b]), .int .u64 (x : Nat)] w fun r w' => r = .returned (.int .u64 (M.l.old : Nat)) ∧ WordsOk c M ∧ Sx bs w0 w' (putL l [(i, B, memL c C M), (j, C, rowW M.ws c.n)]) e := by
  refine (mAdd_any (hS.mem i j hi hj hij hr hw) a b x hx hb0 hb1 M hM).mono ?_
  rintro r w' ⟨rfl, h1, h2⟩
  exact ⟨rfl, h1.wd, hS.memd i j hi hj h1 h2⟩

theorem rAdd_x (hS : Sx bs w0 w l e) (k : Nat) (hk : e[k]? = some (g, rowW m.ws c.n)) (hr : c.r = true) (hw : WordsOk c m) (h1 : c.n ≤ cg) (h2 : cg ≤ maxLen) (a b : Int) (x : Nat) (hx : Um.Word x) (M : Um.Mm) (hM : M = Um.mtouch c m 4 a b 0 x) :
    Calls Try.prog 19 #[(.agg #[.int .i64 c.t, .int .i64 c.s, .int .i64 c.k, .int .i64 c.g, .int .u64 c.q, (.slice (some ⟨g, 0, none⟩) c.n cg), .int .i64 m.cnt, .int .i64 m.l.kind, .int .i64 m.l.a, .int .i64 m.l.b, .int .u64 (m.l.old : Nat), .int .u64 (m.l.new : Nat), .bool m.l.done]), .int .i64 a, .int .i64 b, .int .u64 (x : Nat)] w fun r w' => ∃ g' cg', r = .returned (.tuple #[(.agg #[.int .i64 c.t, .int .i64 c.s, .int .i64 c.k, .int .i64 c.g, .int .u64 c.q, (.slice (some ⟨g', 0, none⟩) c.n cg'), .int .i64 M.cnt, .int .i64 M.l.kind, .int .i64 M.l.a, .int .i64 M.l.b, .int .u64 (M.l.old : Nat), .int .u64 (M.l.new : Nat), .bool M.l.done]), .int .u64 (M.l.old : Nat)]) ∧ c.n ≤ cg' ∧ cg' ≤ maxLen ∧ Fr w g g' ∧ WordsOk c M ∧ Sx bs w0 w' l (e.set k (g', rowW M.ws c.n)) := by
  refine (rAdd_any c (.slice (some ⟨g, 0, none⟩) c.n cg) m M a b x w hr (hS.words k hk hr hw h1 h2) hx hM).mono ?_
  rintro r w' ⟨v', rfl, hI, hF, hb⟩
  obtain ⟨g', cg', rfl, q1, q2, q3, q4⟩ := hS.handed k hk h1 h2 hI hF hb
  exact ⟨g', cg', rfl, q1, q2, q3, by rw [hM]; exact Um.word_touch hw hx, q4⟩

theorem lAlike_x (hS : Sx bs w0 w l e) (i j : Nat) (hi : l[i]? = some (B, memL c C m)) (hj : l[j]? = some (C, rowW m.ws c.n)) (hij : i ≠ j) (k : Nat) (hk : e[k]? = some (g, rowW m.ws c.n)) (hr : c.r = true) (hw : WordsOk c m) (h1 : c.n ≤ cg) (h2 : cg ≤ maxLen) :
    Calls Try.prog 20 #[.pointer (some ⟨B, 0, none⟩), (.agg #[.int .i64 c.t, .int .i64 c.s, .int .i64 c.k, .int .i64 c.g, .int .u64 c.q, (.slice (some ⟨g, 0, none⟩) c.n cg), .int .i64 m.cnt, .int .i64 m.l.kind, .int .i64 m.l.a, .int .i64 m.l.b, .int .u64 (m.l.old : Nat), .int .u64 (m.l.new : Nat), .bool m.l.done])] w fun r w' => r = .returned (.bool true) ∧ Below w.heap.size w w' :=
  lAlike_true (hS.mem i j hi hj hij hr hw) (.slice (some ⟨g, 0, none⟩) c.n cg) (hS.words k hk hr hw h1 h2)

theorem lOf_x (hS : Sx bs w0 w l e) (c : Um.Cf) (v : Value) (ws : Nat → Nat) (hr : c.r = true) (hv : IsWords w v c.n ws) :
    Calls Try.prog 10 #[(.agg #[.int .i64 (c.t), .int .i64 (c.s), .int .i64 (c.k), .int .i64 (c.g), .int .u64 (c.q : Int)]), v] w fun r w' => ∃ B C g cg, r = .returned (.tuple #[.pointer (some ⟨B, 0, none⟩), (.agg #[.int .i64 (c.t), .int .i64 (c.s), .int .i64 (c.k), .int .i64 (c.g), .int .u64 (c.q : Int), .slice (some ⟨g, 0, none⟩) c.n cg, .int .i64 0, .int .i64 0, .int .i64 0, .int .i64 0, .int .u64 0, .int .u64 0, .bool false]), .bool true]) ∧
      c.n ≤ cg ∧ cg ≤ maxLen ∧ WordsOk c ⟨ws, 0, Um.noT⟩ ∧ Sx bs w0 w' (l ++ [(B, memL c C ⟨ws, 0, Um.noT⟩), (C, rowW ws c.n)]) (e ++ [(g, rowW ws c.n)]) := by
  refine (lOf_own c v ws w hr hv).mono ?_
  rintro r w' ⟨B, C, g, cg, rfl, h1, h2, h3, h4, hM, h5, h6, hG, hb⟩
  refine ⟨B, C, g, cg, rfl, h5, h6, hM.wd, Sx.shelve ?_⟩
  rw [List.append_assoc]
  refine hS.adds hb _ (fun p hp => ?_) (fun p hp => ?_) ?_
  · rcases (by simpa using hp : p = (B, memL c C ⟨ws, 0, Um.noT⟩) ∨ p = (C, rowW ws c.n) ∨ p = (g, rowW ws c.n)) with rfl | rfl | rfl
    · exact hM.blkB
    · exact hM.blkC
    · exact hG
  · rcases (by simpa using hp : p = (B, memL c C ⟨ws, 0, Um.noT⟩) ∨ p = (C, rowW ws c.n) ∨ p = (g, rowW ws c.n)) with rfl | rfl | rfl
    · exact h1
    · exact h2
    · show w.heap.size ≤ g
      omega
  · have := hM.ne
    simp only [List.cons_append, List.nil_append, List.pairwise_cons, List.mem_cons, List.not_mem_nil, or_false, List.Pairwise.nil, and_true]
    refine ⟨?_, ?_, ?_⟩
    · rintro p (rfl | rfl)
      · exact this
      · show B ≠ g
        omega
    · rintro p rfl
      show C ≠ g
      omega
    · simp

end

end Go.Proofs.Ytjicfonpldobdaa
