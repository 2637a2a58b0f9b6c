/-
  Texts that the laws stand on, merged (StoreX2, StoreX3, StoreX4, StoreZ, HelpA).
-/
import Derived.Test.YtkiaogbddfjkkaaM10
import Derived.Test.YtkiaogbddfjkkaaM3
import Derived.Test.YtkiaogbddfjkkaaM5
import Derived.Test.YtkiaogbddfjkkaaM6
import Derived.Test.YtkiaogbddfjkkaaM7
import Derived.Deep.RegionHeld3

/-
  The walk of the document's own store.
-/
namespace Go.Proofs.Ytkiaogbddfjkkaa
set_option maxRecDepth 100000
open Go.RowKit Go.Sort

set_option maxHeartbeats 8000000 in
theorem rStore_any (c : Um.Cf) (v : Value) (m M : Um.Mm) (a b : Int) (x : Nat) (w : World) (hr : c.r = true) (hv : IsWords w v c.n m.ws) (hx : Um.Word x) (hM : M = Um.mtouch c m 2 a b 0 x) :
    Calls Try.prog 38 #[.agg #[.int .i64 c.t, .int .i64 c.s, .int .i64 c.k, .int .i64 c.g, .int .u64 c.q, v, .int .i64 m.cnt, .int .i64 m.l.kind, .int .i64 m.l.a, .int .i64 m.l.b, .int .u64 (m.l.old : Nat), .int .u64 (m.l.new : Nat), .bool m.l.done], .int .i64 a, .int .i64 b, .int .u64 (x : Nat)] w fun e W' =>
      ∃ v', e = .returned (.agg #[.int .i64 c.t, .int .i64 c.s, .int .i64 c.k, .int .i64 c.g, .int .u64 c.q, v', .int .i64 M.cnt, .int .i64 M.l.kind, .int .i64 M.l.a, .int .i64 M.l.b, .int .u64 (M.l.old : Nat), .int .u64 (M.l.new : Nat), .bool M.l.done]) ∧ IsWords W' v' c.n M.ws ∧ (v' = v ∨ RFresh w W' v' c.n M.ws) ∧ Below w.heap.size w W' := by
  have hn0 : 0 < c.n := by have := Um.Cf.n_pos hr; omega
  have HWD := hide (show ∀ j, j < c.n → Um.Word (M.ws j) by rw [hM]; exact Um.word_touch (words_word hv) hx)
  have hT := fun w hv => rTouch_any c v m M 2 a b 0 x w hr hv hx (.inr (.inl rfl)) hM
  have HV := hide hv
  have HT := hide hT
  obtain ⟨sv, cap, rfl⟩ := words_len hv
  clear hv hT hM hx
  have hS := St.new w
  go_enter Try.func38, Try.ntmps38
  go_wp2_with (first | (refine wpl_box hS rfl _ _ rfl _ rfl _ (by intro _; simp only [Act.put, List.setIfInBounds_toArray, List.set_cons_zero, List.set_cons_succ]; first | done | exact rfl) ?_; clear hS; intro _ _ hS; dsimp only [blit, List.set, List.cons_append, List.nil_append, Value.cells, List.toList_toArray] at hS) | (refine wpl_alloc hS rfl _ rfl _ (zer_any rfl) _ (by intro _; simp only [Act.put, List.setIfInBounds_toArray, List.set_cons_zero, List.set_cons_succ]; first | done | exact rfl) ?_; clear hS; intro _ _ hS; dsimp only [blit, List.set, List.cons_append, List.nil_append, Value.cells, List.toList_toArray] at hS) | (refine wpl_ld hS rfl _ _ rfl _ _ rfl ?_; (first | refine ⟨0, _, rfl, ?_⟩ | refine ⟨1, _, rfl, ?_⟩ | refine ⟨2, _, rfl, ?_⟩ | refine ⟨3, _, rfl, ?_⟩ | refine ⟨4, _, rfl, ?_⟩ | refine ⟨5, _, rfl, ?_⟩ | refine ⟨6, _, rfl, ?_⟩ | refine ⟨7, _, rfl, ?_⟩ | refine ⟨8, _, rfl, ?_⟩ | refine ⟨9, _, rfl, ?_⟩); first | refine .inl ⟨_, one_any rfl, rfl, _, (by simp only [Act.put, List.setIfInBounds_toArray, List.set_cons_zero, List.set_cons_succ]; first | done | exact rfl), ?_⟩ | refine .inr ⟨_, _, row_any rfl, rfl, (by dsimp only [cutL, List.drop, List.take]; first | done | exact rfl), _, (by simp only [Act.put, List.setIfInBounds_toArray, List.set_cons_zero, List.set_cons_succ]; first | done | exact rfl), ?_⟩) | (refine wpl_st hS rfl _ _ _ rfl rfl _ _ rfl ?_; (first | refine ⟨0, _, rfl, ?_⟩ | refine ⟨1, _, rfl, ?_⟩ | refine ⟨2, _, rfl, ?_⟩ | refine ⟨3, _, rfl, ?_⟩ | refine ⟨4, _, rfl, ?_⟩ | refine ⟨5, _, rfl, ?_⟩ | refine ⟨6, _, rfl, ?_⟩ | refine ⟨7, _, rfl, ?_⟩ | refine ⟨8, _, rfl, ?_⟩ | refine ⟨9, _, rfl, ?_⟩); refine ⟨_, (by first | exact shA rfl | exact shI rfl | exact shB rfl | exact shS rfl | exact shP rfl | exact shF rfl | exact shN rfl), _, siz_any rfl, (by exact rfl), (by exact rfl), (by exact rfl), ?_⟩; clear hS; intro _ hS; dsimp only [blit, List.set, List.cons_append, List.nil_append, Value.cells, List.toList_toArray] at hS))
  rename_i B _ R X _ _
  refine wp_region_og (I := fun D a' w' => ∃ (bA bT : Nat) (v' : Value) (G : List (Nat × List Value)), a' = ⟨#[.agg #[.int .i64 c.t, .int .i64 c.s, .int .i64 c.k, .int .i64 c.g, .int .u64 c.q, .slice sv c.n cap, .int .i64 m.cnt, .int .i64 m.l.kind, .int .i64 m.l.a, .int .i64 m.l.b, .int .u64 (m.l.old : Nat), .int .u64 (m.l.new : Nat), .bool m.l.done], .int .i64 a, .int .i64 b, .int .u64 (x : Nat), .pointer (some ⟨B, 0, none⟩), undef, undef, undef, .pointer (some ⟨R, 0, none⟩), (cond (D 9) (.pointer (some ⟨bA, 0, none⟩)) undef), (cond (D 10) (.pointer (some ⟨bT, 0, none⟩)) undef), (cond (D 6) (.tuple #[.agg #[.int .i64 c.t, .int .i64 c.s, .int .i64 c.k, .int .i64 c.g, .int .u64 c.q, v', .int .i64 M.cnt, .int .i64 M.l.kind, .int .i64 M.l.a, .int .i64 M.l.b, .int .u64 (M.l.old : Nat), .int .u64 (M.l.new : Nat), .bool M.l.done], .agg #[.int .i64 M.l.kind, .int .i64 M.l.a, .int .i64 M.l.b, .int .u64 (M.l.old : Nat), .int .u64 (M.l.new : Nat), .bool M.l.done]]) undef), (cond (D 0) (.agg #[.int .i64 c.t, .int .i64 c.s, .int .i64 c.k, .int .i64 c.g, .int .u64 c.q, .slice sv c.n cap, .int .i64 m.cnt, .int .i64 m.l.kind, .int .i64 m.l.a, .int .i64 m.l.b, .int .u64 (m.l.old : Nat), .int .u64 (m.l.new : Nat), .bool m.l.done]) undef), (cond (D 1) (.int .i64 a) undef), (cond (D 2) (.int .i64 b) undef), (cond (D 3) (.agg #[.int .i64 a, .int .i64 b]) undef), (cond (D 4) (.int .u64 (x : Nat)) undef), (cond (D 5) (.tuple #[.agg #[.int .i64 c.t, .int .i64 c.s, .int .i64 c.k, .int .i64 c.g, .int .u64 c.q, v', .int .i64 M.cnt, .int .i64 M.l.kind, .int .i64 M.l.a, .int .i64 M.l.b, .int .u64 (M.l.old : Nat), .int .u64 (M.l.new : Nat), .bool M.l.done], .agg #[.int .i64 M.l.kind, .int .i64 M.l.a, .int .i64 M.l.b, .int .u64 (M.l.old : Nat), .int .u64 (M.l.new : Nat), .bool M.l.done]]) undef), (cond (D 7) (.agg #[.int .i64 c.t, .int .i64 c.s, .int .i64 c.k, .int .i64 c.g, .int .u64 c.q, v', .int .i64 M.cnt, .int .i64 M.l.kind, .int .i64 M.l.a, .int .i64 M.l.b, .int .u64 (M.l.old : Nat), .int .u64 (M.l.new : Nat), .bool M.l.done]) undef), (cond (D 8) (.agg #[.int .i64 M.l.kind, .int .i64 M.l.a, .int .i64 M.l.b, .int .u64 (M.l.old : Nat), .int .u64 (M.l.new : Nat), .bool M.l.done]) undef), undef], []⟩ ∧ (D 5 = true → ((v' = .slice sv c.n cap ∧ G = [] ∧ IsWords w (.slice sv c.n cap) c.n M.ws) ∨ ∃ g' cg, v' = .slice (some ⟨g', 0, none⟩) c.n cg ∧ c.n ≤ cg ∧ cg ≤ maxLen ∧ G = [(g', rowW M.ws c.n)])) ∧ (D 5 = false → G = []) ∧ (D 6 = true → D 5 = true) ∧ (D 7 = true → D 5 = true) ∧ (D 11 = true → D 5 = true) ∧ (D 11 = true → D 9 = true) ∧ (D 12 = true → D 10 = true) ∧ St w w' ([(B, [.int .i64 c.t, .int .i64 c.s, .int .i64 c.k, .int .i64 c.g, .int .u64 c.q, .slice sv c.n cap, .int .i64 m.cnt, .int .i64 m.l.kind, .int .i64 m.l.a, .int .i64 m.l.b, .int .u64 (m.l.old : Nat), .int .u64 (m.l.new : Nat), .bool m.l.done]), (R, [.int .i64 0, .int .i64 0, .int .i64 0, .int .i64 0, .int .u64 0, .slice none 0 0, .int .i64 0, .int .i64 0, .int .i64 0, .int .i64 0, .int .u64 0, .int .u64 0, .bool false])] ++ G ++ cond (D 9) [(bA, cond (D 11) [.int .i64 c.t, .int .i64 c.s, .int .i64 c.k, .int .i64 c.g, .int .u64 c.q, v', .int .i64 M.cnt, .int .i64 M.l.kind, .int .i64 M.l.a, .int .i64 M.l.b, .int .u64 (M.l.old : Nat), .int .u64 (M.l.new : Nat), .bool M.l.done] [.int .i64 0, .int .i64 0, .int .i64 0, .int .i64 0, .int .u64 0, .slice none 0 0, .int .i64 0, .int .i64 0, .int .i64 0, .int .i64 0, .int .u64 0, .int .u64 0, .bool false])] [] ++ cond (D 10) [(bT, cond (D 12) [.int .i64 M.l.kind, .int .i64 M.l.a, .int .i64 M.l.b, .int .u64 (M.l.old : Nat), .int .u64 (M.l.new : Nat), .bool M.l.done] [.int .i64 0, .int .i64 0, .int .i64 0, .int .u64 0, .int .u64 0, .bool false])] [])) (by kernel_rfl) ?acyc ?start ?steps ?ends
  case acyc =>
    intro i o hi e he hb
    exact og_acyc (by kernel_rfl) hi he hb
  case start => exact ⟨0, 0, .nilIface, [], rfl, (fun h => by cases h), (fun _ => rfl), (fun h => by cases h), (fun h => by cases h), (fun h => by cases h), (fun h => by cases h), (fun h => by cases h), hS.drew⟩
  case steps =>
    intro i o hi D a' w' hD hpre hI
    obtain ⟨bA, bT, v', G, rfl, hRel, hG, hcM, hcX, hcS, hcA, hcT, hS⟩ := hI
    match i, hi with
    | 0, hi =>
      cases hi
      refine wpOp_step rfl (fun K hK => ?_)
      refine stp_val rfl (yif_load (S := fun q => q = w') rfl _ _ rfl _ _ rfl _ (fun _ h => h ▸ hS.get 0 rfl) _ row_rmem (by exact rfl) _ (by dsimp only [cutL, List.drop, List.take]; first | done | exact rfl)) rfl ?_
      exact hK _ _ ⟨bA, bT, v', G, rfl, hRel, hG, hcM, hcX, hcS, hcA, hcT, hS⟩
    | 1, hi =>
      cases hi
      refine wpOp_step rfl (fun K hK => ?_)
      refine stp_val rfl (by exact yif_moveI rfl _ (.inl rfl) _ _ rfl) rfl ?_
      exact hK _ _ ⟨bA, bT, v', G, rfl, hRel, hG, hcM, hcX, hcS, hcA, hcT, hS⟩
    | 2, hi =>
      cases hi
      refine wpOp_step rfl (fun K hK => ?_)
      refine stp_val rfl (by exact yif_moveI rfl _ (.inl rfl) _ _ rfl) rfl ?_
      exact hK _ _ ⟨bA, bT, v', G, rfl, hRel, hG, hcM, hcX, hcS, hcA, hcT, hS⟩
    | 3, hi =>
      cases hi
      have d1 : D 1 = true := og_pre hpre (j := 1) (by kernel_rfl)
      have d2 : D 2 = true := og_pre hpre (j := 2) (by kernel_rfl)
      refine wpOp_step rfl (fun K hK => ?_)
      refine stp_call rfl _ _ _ rfl egSp _ (list2_eq (cond_at d1 rfl) (cond_at d2 rfl)) _ rfl ?_
      refine (rSpot_any _ _ _).mono ?_
      rintro e u ⟨rfl, hb⟩
      exact ⟨_, rfl, hK _ _ ⟨bA, bT, v', G, rfl, hRel, hG, hcM, hcX, hcS, hcA, hcT, hS.call hb⟩⟩
    | 4, hi =>
      cases hi
      refine wpOp_step rfl (fun K hK => ?_)
      refine stp_val rfl (by exact yif_moveI rfl _ (.inl rfl) _ _ rfl) rfl ?_
      exact hK _ _ ⟨bA, bT, v', G, rfl, hRel, hG, hcM, hcX, hcS, hcA, hcT, hS⟩
    | 5, hi =>
      cases hi
      have d0 : D 0 = true := og_pre hpre (j := 0) (by kernel_rfl)
      have d3 : D 3 = true := og_pre hpre (j := 3) (by kernel_rfl)
      have d4 : D 4 = true := og_pre hpre (j := 4) (by kernel_rfl)
      refine wpOp_step rfl (fun K hK => ?_)
      refine stp_call rfl _ _ _ rfl egTo _ (list5_eq (cond_at d0 rfl) rfl (cond_at d3 rfl) rfl (cond_at d4 rfl)) _ rfl ?_
      refine ((unhide HT) _ (((unhide HV).low.below hS.bel).is hS.bel.size)).mono ?_
      rintro e w4 ⟨vn, rfl, hI, hF, hb⟩
      obtain rfl := hG hD
      have m0 := og_not hcM hD
      have x0 := og_not hcX hD
      have z0 := og_not hcS hD
      refine ⟨_, rfl, ?_⟩
      rcases hF with rfl | ⟨g', cg, rfl, lg, hc1, hc2, hGb⟩
      · exact hK _ _ ⟨bA, bT, _, [], (by simp only [m0, x0]; rfl), (fun _ => .inl ⟨rfl, rfl, words_back (unhide HV) hI (hS.call hb).bel (Below.refl _ _)⟩), (fun _ => rfl), (fun _ => rfl), (fun _ => rfl), (fun _ => rfl), hcA, hcT, (by have h := hS.call hb; rw [z0] at h; show St w w4 (_ ++ _ ++ cond (D 9) [(bA, cond (D 11) _ _)] _ ++ _); rw [z0]; exact h)⟩
      · exact hK _ _ ⟨bA, bT, _, [(g', rowW M.ws c.n)], (by simp only [m0, x0]; rfl), (fun _ => .inr ⟨g', cg, rfl, hc1, hc2, rfl⟩), (fun h => by cases h), (fun _ => rfl), (fun _ => rfl), (fun _ => rfl), hcA, hcT, (by have h := hS.add hb hGb lg; rw [z0] at h; show St w w4 (_ ++ _ ++ cond (D 9) [(bA, cond (D 11) _ _)] _ ++ _); rw [z0]; exact h.perm (perm_last _))⟩
    | 6, hi =>
      cases hi
      have d5 : D 5 = true := og_pre hpre (j := 5) (by kernel_rfl)
      refine wpOp_step rfl (fun K hK => ?_)
      refine stp_val rfl (by exact yif_mv rfl (.tmp 17) rfl _ (cond_at d5 rfl)) rfl ?_
      exact hK _ _ ⟨bA, bT, v', G, rfl, hRel, hG, (fun _ => d5), hcX, hcS, hcA, hcT, hS⟩
    | 7, hi =>
      cases hi
      have d6 : D 6 = true := og_pre hpre (j := 6) (by kernel_rfl)
      refine wpOp_step rfl (fun K hK => ?_)
      refine stp_val rfl (by refine yif_extract rfl (.tmp 11) 0 rfl [.agg #[.int .i64 c.t, .int .i64 c.s, .int .i64 c.k, .int .i64 c.g, .int .u64 c.q, v', .int .i64 M.cnt, .int .i64 M.l.kind, .int .i64 M.l.a, .int .i64 M.l.b, .int .u64 (M.l.old : Nat), .int .u64 (M.l.new : Nat), .bool M.l.done], .agg #[.int .i64 M.l.kind, .int .i64 M.l.a, .int .i64 M.l.b, .int .u64 (M.l.old : Nat), .int .u64 (M.l.new : Nat), .bool M.l.done]] ?_ _ rfl; exact cond_at d6 rfl) rfl ?_
      exact hK _ _ ⟨bA, bT, v', G, rfl, hRel, hG, hcM, (fun _ => hcM d6), hcS, hcA, hcT, hS⟩
    | 8, hi =>
      cases hi
      have d6 : D 6 = true := og_pre hpre (j := 6) (by kernel_rfl)
      refine wpOp_step rfl (fun K hK => ?_)
      refine stp_val rfl (by refine yif_extract rfl (.tmp 11) 1 rfl [.agg #[.int .i64 c.t, .int .i64 c.s, .int .i64 c.k, .int .i64 c.g, .int .u64 c.q, v', .int .i64 M.cnt, .int .i64 M.l.kind, .int .i64 M.l.a, .int .i64 M.l.b, .int .u64 (M.l.old : Nat), .int .u64 (M.l.new : Nat), .bool M.l.done], .agg #[.int .i64 M.l.kind, .int .i64 M.l.a, .int .i64 M.l.b, .int .u64 (M.l.old : Nat), .int .u64 (M.l.new : Nat), .bool M.l.done]] ?_ _ rfl; exact cond_at d6 rfl) rfl ?_
      exact hK _ _ ⟨bA, bT, v', G, rfl, hRel, hG, hcM, hcX, hcS, hcA, hcT, hS⟩
    | 9, hi =>
      cases hi
      refine wpOp_step rfl (fun K hK => ?_)
      have e0 := og_not hcA hD
      refine stp_alloc hS rfl _ rfl _ zer_rmem _ rfl _ rfl _ (fun _ => rfl) ?_
      intro bn u hS'
      rw [hD] at hS'
      refine hK _ _ ⟨bn, bT, v', G, rfl, hRel, hG, hcM, hcX, hcS, (fun _ => rfl), hcT, ?_⟩
      show St w u (_ ++ G ++ [(bn, cond (D 11) _ _)] ++ _)
      rw [e0]
      exact hS'.perm (perm_mid _)
    | 10, hi =>
      cases hi
      refine wpOp_step rfl (fun K hK => ?_)
      have e0 := og_not hcT hD
      refine stp_alloc hS rfl _ rfl _ zer_rtch _ rfl _ rfl _ (fun _ => rfl) ?_
      intro bn u hS'
      rw [hD] at hS'
      refine hK _ _ ⟨bA, bn, v', G, rfl, hRel, hG, hcM, hcX, hcS, hcA, (fun _ => rfl), ?_⟩
      show St w u (_ ++ G ++ _ ++ [(bn, cond (D 12) _ _)])
      rw [e0]
      rw [cond_false, List.append_nil] at hS'
      exact hS'
    | 11, hi =>
      cases hi
      have d0 : D 0 = true := og_pre hpre (j := 0) (by kernel_rfl)
      have d1 : D 1 = true := og_pre hpre (j := 1) (by kernel_rfl)
      have d2 : D 2 = true := og_pre hpre (j := 2) (by kernel_rfl)
      have d3 : D 3 = true := og_pre hpre (j := 3) (by kernel_rfl)
      have d4 : D 4 = true := og_pre hpre (j := 4) (by kernel_rfl)
      have d5 : D 5 = true := og_pre hpre (j := 5) (by kernel_rfl)
      have d6 : D 6 = true := og_pre hpre (j := 6) (by kernel_rfl)
      have d7 : D 7 = true := og_pre hpre (j := 7) (by kernel_rfl)
      have d9 : D 9 = true := og_pre hpre (j := 9) (by kernel_rfl)
      have d10 : D 10 = true := og_pre hpre (j := 10) (by kernel_rfl)
      refine wpOp_step rfl (fun K hK => ?_)
      rw [d9, hD, cond_true, cond_false] at hS
      rcases hRel d5 with ⟨rfl, rfl, h3⟩ | ⟨g', cg, rfl, hc1, hc2, rfl⟩
      · refine stp_store hS 2 rfl _ _ _ rfl _ _ (cond_at d9 rfl) _ rfl _ (cond_at d7 rfl) _ siz_rmem (by exact rfl) (by exact rfl) (by exact rfl) rfl ?_
        intro u hS'
        refine hK _ _ ⟨bA, bT, _, _, rfl, (fun _ => .inl ⟨rfl, rfl, h3⟩), hG, hcM, hcX, (fun _ => d5), (fun _ => d9), hcT, ?_⟩
        show St w u (_ ++ _ ++ cond (D 9) _ _ ++ _)
        rw [d9]
        exact hS'
      · refine stp_store hS 3 rfl _ _ _ rfl _ _ (cond_at d9 rfl) _ rfl _ (cond_at d7 rfl) _ siz_rmem (by exact rfl) (by exact rfl) (by exact rfl) rfl ?_
        intro u hS'
        refine hK _ _ ⟨bA, bT, _, _, rfl, (fun _ => .inr ⟨g', cg, rfl, hc1, hc2, rfl⟩), hG, hcM, hcX, (fun _ => d5), (fun _ => d9), hcT, ?_⟩
        show St w u (_ ++ _ ++ cond (D 9) _ _ ++ _)
        rw [d9]
        exact hS'
    | 12, hi =>
      cases hi
      have d0 : D 0 = true := og_pre hpre (j := 0) (by kernel_rfl)
      have d1 : D 1 = true := og_pre hpre (j := 1) (by kernel_rfl)
      have d2 : D 2 = true := og_pre hpre (j := 2) (by kernel_rfl)
      have d3 : D 3 = true := og_pre hpre (j := 3) (by kernel_rfl)
      have d4 : D 4 = true := og_pre hpre (j := 4) (by kernel_rfl)
      have d5 : D 5 = true := og_pre hpre (j := 5) (by kernel_rfl)
      have d6 : D 6 = true := og_pre hpre (j := 6) (by kernel_rfl)
      have d7 : D 7 = true := og_pre hpre (j := 7) (by kernel_rfl)
      have d8 : D 8 = true := og_pre hpre (j := 8) (by kernel_rfl)
      have d9 : D 9 = true := og_pre hpre (j := 9) (by kernel_rfl)
      have d10 : D 10 = true := og_pre hpre (j := 10) (by kernel_rfl)
      have d11 : D 11 = true := og_pre hpre (j := 11) (by kernel_rfl)
      refine wpOp_step rfl (fun K hK => ?_)
      rw [d9, d11, d10, hD, cond_true, cond_true, cond_true, cond_false] at hS
      rcases hRel d5 with ⟨rfl, rfl, h3⟩ | ⟨g', cg, rfl, hc1, hc2, rfl⟩
      · refine stp_store hS 3 rfl _ _ _ rfl _ _ (cond_at d10 rfl) _ rfl _ (cond_at d8 rfl) _ siz_rtch (by exact rfl) (by exact rfl) (by exact rfl) rfl ?_
        intro u hS'
        refine hK _ _ ⟨bA, bT, _, _, rfl, (fun _ => .inl ⟨rfl, rfl, h3⟩), hG, hcM, hcX, hcS, hcA, (fun _ => d10), ?_⟩
        show St w u (_ ++ _ ++ cond (D 9) [(bA, cond (D 11) _ _)] _ ++ cond (D 10) _ _)
        rw [d9, d11, d10]
        exact hS'
      · refine stp_store hS 4 rfl _ _ _ rfl _ _ (cond_at d10 rfl) _ rfl _ (cond_at d8 rfl) _ siz_rtch (by exact rfl) (by exact rfl) (by exact rfl) rfl ?_
        intro u hS'
        refine hK _ _ ⟨bA, bT, _, _, rfl, (fun _ => .inr ⟨g', cg, rfl, hc1, hc2, rfl⟩), hG, hcM, hcX, hcS, hcA, (fun _ => d10), ?_⟩
        show St w u (_ ++ _ ++ cond (D 9) [(bA, cond (D 11) _ _)] _ ++ cond (D 10) _ _)
        rw [d9, d11, d10]
        exact hS'
    | i + 13, hi => simp at hi
  case ends =>
    intro D a' w' hall hI
    obtain ⟨bA, bT, v', G, rfl, hRel, _, _, _, _, _, _, hS⟩ := hI
    have d0 : D 0 = true := hall 0 (by decide)
    have d1 : D 1 = true := hall 1 (by decide)
    have d2 : D 2 = true := hall 2 (by decide)
    have d3 : D 3 = true := hall 3 (by decide)
    have d4 : D 4 = true := hall 4 (by decide)
    have d5 : D 5 = true := hall 5 (by decide)
    have d6 : D 6 = true := hall 6 (by decide)
    have d7 : D 7 = true := hall 7 (by decide)
    have d8 : D 8 = true := hall 8 (by decide)
    have d9 : D 9 = true := hall 9 (by decide)
    have d10 : D 10 = true := hall 10 (by decide)
    have d11 : D 11 = true := hall 11 (by decide)
    have d12 : D 12 = true := hall 12 (by decide)
    rw [d9, d11, d10, d12, cond_true, cond_true, cond_true, cond_true] at hS
    have hRl := hRel d5
    simp only [d0, d1, d2, d3, d4, d5, d6, d7, d8, d9, d10, cond_true]
    clear hRel hall d0 d1 d2 d3 d4 d5 d6 d7 d8 d9 d10 d11 d12
    rcases hRl with ⟨rfl, rfl, h3⟩ | ⟨g', cg, rfl, hc1, hc2, rfl⟩
    · dsimp only [List.cons_append, List.nil_append, List.append_nil] at hS
      go_wp2_with (first | (refine wpl_box hS rfl _ _ rfl _ rfl _ (by intro _; simp only [Act.put, List.setIfInBounds_toArray, List.set_cons_zero, List.set_cons_succ]; first | done | exact rfl) ?_; clear hS; intro _ _ hS; dsimp only [blit, List.set, List.cons_append, List.nil_append, Value.cells, List.toList_toArray] at hS) | (refine wpl_alloc hS rfl _ rfl _ (zer_any rfl) _ (by intro _; simp only [Act.put, List.setIfInBounds_toArray, List.set_cons_zero, List.set_cons_succ]; first | done | exact rfl) ?_; clear hS; intro _ _ hS; dsimp only [blit, List.set, List.cons_append, List.nil_append, Value.cells, List.toList_toArray] at hS) | (refine wpl_ld hS rfl _ _ rfl _ _ rfl ?_; (first | refine ⟨0, _, rfl, ?_⟩ | refine ⟨1, _, rfl, ?_⟩ | refine ⟨2, _, rfl, ?_⟩ | refine ⟨3, _, rfl, ?_⟩ | refine ⟨4, _, rfl, ?_⟩ | refine ⟨5, _, rfl, ?_⟩ | refine ⟨6, _, rfl, ?_⟩ | refine ⟨7, _, rfl, ?_⟩ | refine ⟨8, _, rfl, ?_⟩ | refine ⟨9, _, rfl, ?_⟩); first | refine .inl ⟨_, one_any rfl, rfl, _, (by simp only [Act.put, List.setIfInBounds_toArray, List.set_cons_zero, List.set_cons_succ]; first | done | exact rfl), ?_⟩ | refine .inr ⟨_, _, row_any rfl, rfl, (by dsimp only [cutL, List.drop, List.take]; first | done | exact rfl), _, (by simp only [Act.put, List.setIfInBounds_toArray, List.set_cons_zero, List.set_cons_succ]; first | done | exact rfl), ?_⟩) | (refine wpl_st hS rfl _ _ _ rfl rfl _ _ rfl ?_; (first | refine ⟨0, _, rfl, ?_⟩ | refine ⟨1, _, rfl, ?_⟩ | refine ⟨2, _, rfl, ?_⟩ | refine ⟨3, _, rfl, ?_⟩ | refine ⟨4, _, rfl, ?_⟩ | refine ⟨5, _, rfl, ?_⟩ | refine ⟨6, _, rfl, ?_⟩ | refine ⟨7, _, rfl, ?_⟩ | refine ⟨8, _, rfl, ?_⟩ | refine ⟨9, _, rfl, ?_⟩); refine ⟨_, (by first | exact shA rfl | exact shI rfl | exact shB rfl | exact shS rfl | exact shP rfl | exact shF rfl | exact shN rfl), _, siz_any rfl, (by exact rfl), (by exact rfl), (by exact rfl), ?_⟩; clear hS; intro _ hS; dsimp only [blit, List.set, List.cons_append, List.nil_append, Value.cells, List.toList_toArray] at hS))
      go_wp2
      have hZ := hS.get 1 rfl
      refine bodyPost_ret (v := .agg #[.int .i64 c.t, .int .i64 c.s, .int .i64 c.k, .int .i64 c.g, .int .u64 c.q, .slice sv c.n cap, .int .i64 M.cnt, .int .i64 M.l.kind, .int .i64 M.l.a, .int .i64 M.l.b, .int .u64 (M.l.old : Nat), .int .u64 (M.l.new : Nat), .bool M.l.done]) (by simp [results, Try.results38, go_sem, hZ.cell 0 _ rfl, hZ.cell 1 _ rfl, hZ.cell 2 _ rfl, hZ.cell 3 _ rfl, hZ.cell 4 _ rfl, hZ.cell 5 _ rfl, hZ.cell 6 _ rfl, hZ.cell 7 _ rfl, hZ.cell 8 _ rfl, hZ.cell 9 _ rfl, hZ.cell 10 _ rfl, hZ.cell 11 _ rfl, hZ.cell 12 _ rfl]) rfl ?_
      exact ⟨_, rfl, (h3.low.below hS.bel).is hS.bel.size, .inl rfl, hS.bel⟩
    · dsimp only [List.cons_append, List.nil_append, List.append_nil] at hS
      go_wp2_with (first | (refine wpl_box hS rfl _ _ rfl _ rfl _ (by intro _; simp only [Act.put, List.setIfInBounds_toArray, List.set_cons_zero, List.set_cons_succ]; first | done | exact rfl) ?_; clear hS; intro _ _ hS; dsimp only [blit, List.set, List.cons_append, List.nil_append, Value.cells, List.toList_toArray] at hS) | (refine wpl_alloc hS rfl _ rfl _ (zer_any rfl) _ (by intro _; simp only [Act.put, List.setIfInBounds_toArray, List.set_cons_zero, List.set_cons_succ]; first | done | exact rfl) ?_; clear hS; intro _ _ hS; dsimp only [blit, List.set, List.cons_append, List.nil_append, Value.cells, List.toList_toArray] at hS) | (refine wpl_ld hS rfl _ _ rfl _ _ rfl ?_; (first | refine ⟨0, _, rfl, ?_⟩ | refine ⟨1, _, rfl, ?_⟩ | refine ⟨2, _, rfl, ?_⟩ | refine ⟨3, _, rfl, ?_⟩ | refine ⟨4, _, rfl, ?_⟩ | refine ⟨5, _, rfl, ?_⟩ | refine ⟨6, _, rfl, ?_⟩ | refine ⟨7, _, rfl, ?_⟩ | refine ⟨8, _, rfl, ?_⟩ | refine ⟨9, _, rfl, ?_⟩); first | refine .inl ⟨_, one_any rfl, rfl, _, (by simp only [Act.put, List.setIfInBounds_toArray, List.set_cons_zero, List.set_cons_succ]; first | done | exact rfl), ?_⟩ | refine .inr ⟨_, _, row_any rfl, rfl, (by dsimp only [cutL, List.drop, List.take]; first | done | exact rfl), _, (by simp only [Act.put, List.setIfInBounds_toArray, List.set_cons_zero, List.set_cons_succ]; first | done | exact rfl), ?_⟩) | (refine wpl_st hS rfl _ _ _ rfl rfl _ _ rfl ?_; (first | refine ⟨0, _, rfl, ?_⟩ | refine ⟨1, _, rfl, ?_⟩ | refine ⟨2, _, rfl, ?_⟩ | refine ⟨3, _, rfl, ?_⟩ | refine ⟨4, _, rfl, ?_⟩ | refine ⟨5, _, rfl, ?_⟩ | refine ⟨6, _, rfl, ?_⟩ | refine ⟨7, _, rfl, ?_⟩ | refine ⟨8, _, rfl, ?_⟩ | refine ⟨9, _, rfl, ?_⟩); refine ⟨_, (by first | exact shA rfl | exact shI rfl | exact shB rfl | exact shS rfl | exact shP rfl | exact shF rfl | exact shN rfl), _, siz_any rfl, (by exact rfl), (by exact rfl), (by exact rfl), ?_⟩; clear hS; intro _ hS; dsimp only [blit, List.set, List.cons_append, List.nil_append, Value.cells, List.toList_toArray] at hS))
      go_wp2
      have hZ := hS.get 1 rfl
      refine bodyPost_ret (v := .agg #[.int .i64 c.t, .int .i64 c.s, .int .i64 c.k, .int .i64 c.g, .int .u64 c.q, .slice (some ⟨g', 0, none⟩) c.n cg, .int .i64 M.cnt, .int .i64 M.l.kind, .int .i64 M.l.a, .int .i64 M.l.b, .int .u64 (M.l.old : Nat), .int .u64 (M.l.new : Nat), .bool M.l.done]) (by simp [results, Try.results38, go_sem, hZ.cell 0 _ rfl, hZ.cell 1 _ rfl, hZ.cell 2 _ rfl, hZ.cell 3 _ rfl, hZ.cell 4 _ rfl, hZ.cell 5 _ rfl, hZ.cell 6 _ rfl, hZ.cell 7 _ rfl, hZ.cell 8 _ rfl, hZ.cell 9 _ rfl, hZ.cell 10 _ rfl, hZ.cell 11 _ rfl, hZ.cell 12 _ rfl]) rfl ?_
      exact ⟨_, rfl, .inr ⟨g', 0, cg, rfl, hn0, hc1, hc2, (hS.get 2 rfl).lt, fun j hj => ⟨by rw [Nat.zero_add]; exact (hS.get 2 rfl).cell j _ (rowW_get _ c.n j hj), (unhide HWD) j hj⟩⟩, .inr ⟨g', cg, rfl, hS.low (g', _) (List.mem_of_getElem? (i := 2) rfl), hc1, hc2, hS.get 2 rfl⟩, hS.bel⟩

end Go.Proofs.Ytkiaogbddfjkkaa

/-
  The walk of the document's own swap.
-/
namespace Go.Proofs.Ytkiaogbddfjkkaa
set_option maxRecDepth 100000
open Go.RowKit Go.Sort

set_option maxHeartbeats 8000000 in
theorem rSwap_any (c : Um.Cf) (v : Value) (m M : Um.Mm) (a b : Int) (o x : Nat) (w : World) (hr : c.r = true) (hv : IsWords w v c.n m.ws) (hx : Um.Word x) (hM : M = Um.mtouch c m 3 a b o x) :
    Calls Try.prog 41 #[.agg #[.int .i64 c.t, .int .i64 c.s, .int .i64 c.k, .int .i64 c.g, .int .u64 c.q, v, .int .i64 m.cnt, .int .i64 m.l.kind, .int .i64 m.l.a, .int .i64 m.l.b, .int .u64 (m.l.old : Nat), .int .u64 (m.l.new : Nat), .bool m.l.done], .int .i64 a, .int .i64 b, .int .u64 (o : Nat), .int .u64 (x : Nat)] w fun e W' =>
      ∃ v', e = .returned (.tuple #[.agg #[.int .i64 c.t, .int .i64 c.s, .int .i64 c.k, .int .i64 c.g, .int .u64 c.q, v', .int .i64 M.cnt, .int .i64 M.l.kind, .int .i64 M.l.a, .int .i64 M.l.b, .int .u64 (M.l.old : Nat), .int .u64 (M.l.new : Nat), .bool M.l.done], .bool M.l.done]) ∧ IsWords W' v' c.n M.ws ∧ (v' = v ∨ RFresh w W' v' c.n M.ws) ∧ Below w.heap.size w W' := by
  have hn0 : 0 < c.n := by have := Um.Cf.n_pos hr; omega
  have HWD := hide (show ∀ j, j < c.n → Um.Word (M.ws j) by rw [hM]; exact Um.word_touch (words_word hv) hx)
  have hT := fun w hv => rTouch_any c v m M 3 a b o x w hr hv hx (.inr (.inr (.inl rfl))) hM
  have HV := hide hv
  have HT := hide hT
  obtain ⟨sv, cap, rfl⟩ := words_len hv
  clear hv hT hM hx
  have hS := St.new w
  go_enter Try.func41, Try.ntmps41
  go_wp2_with (first | (refine wpl_box hS rfl _ _ rfl _ rfl _ (by intro _; simp only [Act.put, List.setIfInBounds_toArray, List.set_cons_zero, List.set_cons_succ]; first | done | exact rfl) ?_; clear hS; intro _ _ hS; dsimp only [blit, List.set, List.cons_append, List.nil_append, Value.cells, List.toList_toArray] at hS) | (refine wpl_alloc hS rfl _ rfl _ (zer_any rfl) _ (by intro _; simp only [Act.put, List.setIfInBounds_toArray, List.set_cons_zero, List.set_cons_succ]; first | done | exact rfl) ?_; clear hS; intro _ _ hS; dsimp only [blit, List.set, List.cons_append, List.nil_append, Value.cells, List.toList_toArray] at hS) | (refine wpl_ld hS rfl _ _ rfl _ _ rfl ?_; (first | refine ⟨0, _, rfl, ?_⟩ | refine ⟨1, _, rfl, ?_⟩ | refine ⟨2, _, rfl, ?_⟩ | refine ⟨3, _, rfl, ?_⟩ | refine ⟨4, _, rfl, ?_⟩ | refine ⟨5, _, rfl, ?_⟩ | refine ⟨6, _, rfl, ?_⟩ | refine ⟨7, _, rfl, ?_⟩ | refine ⟨8, _, rfl, ?_⟩ | refine ⟨9, _, rfl, ?_⟩); first | refine .inl ⟨_, one_any rfl, rfl, _, (by simp only [Act.put, List.setIfInBounds_toArray, List.set_cons_zero, List.set_cons_succ]; first | done | exact rfl), ?_⟩ | refine .inr ⟨_, _, row_any rfl, rfl, (by dsimp only [cutL, List.drop, List.take]; first | done | exact rfl), _, (by simp only [Act.put, List.setIfInBounds_toArray, List.set_cons_zero, List.set_cons_succ]; first | done | exact rfl), ?_⟩) | (refine wpl_st hS rfl _ _ _ rfl rfl _ _ rfl ?_; (first | refine ⟨0, _, rfl, ?_⟩ | refine ⟨1, _, rfl, ?_⟩ | refine ⟨2, _, rfl, ?_⟩ | refine ⟨3, _, rfl, ?_⟩ | refine ⟨4, _, rfl, ?_⟩ | refine ⟨5, _, rfl, ?_⟩ | refine ⟨6, _, rfl, ?_⟩ | refine ⟨7, _, rfl, ?_⟩ | refine ⟨8, _, rfl, ?_⟩ | refine ⟨9, _, rfl, ?_⟩); refine ⟨_, (by first | exact shA rfl | exact shI rfl | exact shB rfl | exact shS rfl | exact shP rfl | exact shF rfl | exact shN rfl), _, siz_any rfl, (by exact rfl), (by exact rfl), (by exact rfl), ?_⟩; clear hS; intro _ hS; dsimp only [blit, List.set, List.cons_append, List.nil_append, Value.cells, List.toList_toArray] at hS))
  rename_i B _ R X _ _
  refine wp_region_og (I := fun D a' w' => ∃ (bA bT : Nat) (v' : Value) (G : List (Nat × List Value)), a' = ⟨#[.agg #[.int .i64 c.t, .int .i64 c.s, .int .i64 c.k, .int .i64 c.g, .int .u64 c.q, .slice sv c.n cap, .int .i64 m.cnt, .int .i64 m.l.kind, .int .i64 m.l.a, .int .i64 m.l.b, .int .u64 (m.l.old : Nat), .int .u64 (m.l.new : Nat), .bool m.l.done], .int .i64 a, .int .i64 b, .int .u64 (o : Nat), .int .u64 (x : Nat), .pointer (some ⟨B, 0, none⟩), undef, undef, undef, undef, .pointer (some ⟨R, 0, none⟩), .bool false, (cond (D 10) (.pointer (some ⟨bA, 0, none⟩)) undef), (cond (D 11) (.pointer (some ⟨bT, 0, none⟩)) undef), (cond (D 7) (.tuple #[.agg #[.int .i64 c.t, .int .i64 c.s, .int .i64 c.k, .int .i64 c.g, .int .u64 c.q, v', .int .i64 M.cnt, .int .i64 M.l.kind, .int .i64 M.l.a, .int .i64 M.l.b, .int .u64 (M.l.old : Nat), .int .u64 (M.l.new : Nat), .bool M.l.done], .agg #[.int .i64 M.l.kind, .int .i64 M.l.a, .int .i64 M.l.b, .int .u64 (M.l.old : Nat), .int .u64 (M.l.new : Nat), .bool M.l.done]]) undef), (cond (D 0) (.agg #[.int .i64 c.t, .int .i64 c.s, .int .i64 c.k, .int .i64 c.g, .int .u64 c.q, .slice sv c.n cap, .int .i64 m.cnt, .int .i64 m.l.kind, .int .i64 m.l.a, .int .i64 m.l.b, .int .u64 (m.l.old : Nat), .int .u64 (m.l.new : Nat), .bool m.l.done]) undef), (cond (D 1) (.int .i64 a) undef), (cond (D 2) (.int .i64 b) undef), (cond (D 3) (.agg #[.int .i64 a, .int .i64 b]) undef), (cond (D 4) (.int .u64 (o : Nat)) undef), (cond (D 5) (.int .u64 (x : Nat)) undef), (cond (D 6) (.tuple #[.agg #[.int .i64 c.t, .int .i64 c.s, .int .i64 c.k, .int .i64 c.g, .int .u64 c.q, v', .int .i64 M.cnt, .int .i64 M.l.kind, .int .i64 M.l.a, .int .i64 M.l.b, .int .u64 (M.l.old : Nat), .int .u64 (M.l.new : Nat), .bool M.l.done], .agg #[.int .i64 M.l.kind, .int .i64 M.l.a, .int .i64 M.l.b, .int .u64 (M.l.old : Nat), .int .u64 (M.l.new : Nat), .bool M.l.done]]) undef), (cond (D 8) (.agg #[.int .i64 c.t, .int .i64 c.s, .int .i64 c.k, .int .i64 c.g, .int .u64 c.q, v', .int .i64 M.cnt, .int .i64 M.l.kind, .int .i64 M.l.a, .int .i64 M.l.b, .int .u64 (M.l.old : Nat), .int .u64 (M.l.new : Nat), .bool M.l.done]) undef), (cond (D 9) (.agg #[.int .i64 M.l.kind, .int .i64 M.l.a, .int .i64 M.l.b, .int .u64 (M.l.old : Nat), .int .u64 (M.l.new : Nat), .bool M.l.done]) undef), undef, undef, undef], []⟩ ∧ (D 6 = true → ((v' = .slice sv c.n cap ∧ G = [] ∧ IsWords w (.slice sv c.n cap) c.n M.ws) ∨ ∃ g' cg, v' = .slice (some ⟨g', 0, none⟩) c.n cg ∧ c.n ≤ cg ∧ cg ≤ maxLen ∧ G = [(g', rowW M.ws c.n)])) ∧ (D 6 = false → G = []) ∧ (D 7 = true → D 6 = true) ∧ (D 8 = true → D 6 = true) ∧ (D 12 = true → D 6 = true) ∧ (D 12 = true → D 10 = true) ∧ (D 13 = true → D 11 = true) ∧ St w w' ([(B, [.int .i64 c.t, .int .i64 c.s, .int .i64 c.k, .int .i64 c.g, .int .u64 c.q, .slice sv c.n cap, .int .i64 m.cnt, .int .i64 m.l.kind, .int .i64 m.l.a, .int .i64 m.l.b, .int .u64 (m.l.old : Nat), .int .u64 (m.l.new : Nat), .bool m.l.done]), (R, [.int .i64 0, .int .i64 0, .int .i64 0, .int .i64 0, .int .u64 0, .slice none 0 0, .int .i64 0, .int .i64 0, .int .i64 0, .int .i64 0, .int .u64 0, .int .u64 0, .bool false])] ++ G ++ cond (D 10) [(bA, cond (D 12) [.int .i64 c.t, .int .i64 c.s, .int .i64 c.k, .int .i64 c.g, .int .u64 c.q, v', .int .i64 M.cnt, .int .i64 M.l.kind, .int .i64 M.l.a, .int .i64 M.l.b, .int .u64 (M.l.old : Nat), .int .u64 (M.l.new : Nat), .bool M.l.done] [.int .i64 0, .int .i64 0, .int .i64 0, .int .i64 0, .int .u64 0, .slice none 0 0, .int .i64 0, .int .i64 0, .int .i64 0, .int .i64 0, .int .u64 0, .int .u64 0, .bool false])] [] ++ cond (D 11) [(bT, cond (D 13) [.int .i64 M.l.kind, .int .i64 M.l.a, .int .i64 M.l.b, .int .u64 (M.l.old : Nat), .int .u64 (M.l.new : Nat), .bool M.l.done] [.int .i64 0, .int .i64 0, .int .i64 0, .int .u64 0, .int .u64 0, .bool false])] [])) (by kernel_rfl) ?acyc ?start ?steps ?ends
  case acyc =>
    intro i o hi e he hb
    exact og_acyc (by kernel_rfl) hi he hb
  case start => exact ⟨0, 0, .nilIface, [], rfl, (fun h => by cases h), (fun _ => rfl), (fun h => by cases h), (fun h => by cases h), (fun h => by cases h), (fun h => by cases h), (fun h => by cases h), hS.drew⟩
  case steps =>
    intro i o hi D a' w' hD hpre hI
    obtain ⟨bA, bT, v', G, rfl, hRel, hG, hcM, hcX, hcS, hcA, hcT, hS⟩ := hI
    match i, hi with
    | 0, hi =>
      cases hi
      refine wpOp_step rfl (fun K hK => ?_)
      refine stp_val rfl (yif_load (S := fun q => q = w') rfl _ _ rfl _ _ rfl _ (fun _ h => h ▸ hS.get 0 rfl) _ row_rmem (by exact rfl) _ (by dsimp only [cutL, List.drop, List.take]; first | done | exact rfl)) rfl ?_
      exact hK _ _ ⟨bA, bT, v', G, rfl, hRel, hG, hcM, hcX, hcS, hcA, hcT, hS⟩
    | 1, hi =>
      cases hi
      refine wpOp_step rfl (fun K hK => ?_)
      refine stp_val rfl (by exact yif_moveI rfl _ (.inl rfl) _ _ rfl) rfl ?_
      exact hK _ _ ⟨bA, bT, v', G, rfl, hRel, hG, hcM, hcX, hcS, hcA, hcT, hS⟩
    | 2, hi =>
      cases hi
      refine wpOp_step rfl (fun K hK => ?_)
      refine stp_val rfl (by exact yif_moveI rfl _ (.inl rfl) _ _ rfl) rfl ?_
      exact hK _ _ ⟨bA, bT, v', G, rfl, hRel, hG, hcM, hcX, hcS, hcA, hcT, hS⟩
    | 3, hi =>
      cases hi
      have d1 : D 1 = true := og_pre hpre (j := 1) (by kernel_rfl)
      have d2 : D 2 = true := og_pre hpre (j := 2) (by kernel_rfl)
      refine wpOp_step rfl (fun K hK => ?_)
      refine stp_call rfl _ _ _ rfl egSp _ (list2_eq (cond_at d1 rfl) (cond_at d2 rfl)) _ rfl ?_
      refine (rSpot_any _ _ _).mono ?_
      rintro e u ⟨rfl, hb⟩
      exact ⟨_, rfl, hK _ _ ⟨bA, bT, v', G, rfl, hRel, hG, hcM, hcX, hcS, hcA, hcT, hS.call hb⟩⟩
    | 4, hi =>
      cases hi
      refine wpOp_step rfl (fun K hK => ?_)
      refine stp_val rfl (by exact yif_moveI rfl _ (.inl rfl) _ _ rfl) rfl ?_
      exact hK _ _ ⟨bA, bT, v', G, rfl, hRel, hG, hcM, hcX, hcS, hcA, hcT, hS⟩
    | 5, hi =>
      cases hi
      refine wpOp_step rfl (fun K hK => ?_)
      refine stp_val rfl (by exact yif_moveI rfl _ (.inl rfl) _ _ rfl) rfl ?_
      exact hK _ _ ⟨bA, bT, v', G, rfl, hRel, hG, hcM, hcX, hcS, hcA, hcT, hS⟩
    | 6, hi =>
      cases hi
      have d0 : D 0 = true := og_pre hpre (j := 0) (by kernel_rfl)
      have d3 : D 3 = true := og_pre hpre (j := 3) (by kernel_rfl)
      have d4 : D 4 = true := og_pre hpre (j := 4) (by kernel_rfl)
      have d5 : D 5 = true := og_pre hpre (j := 5) (by kernel_rfl)
      refine wpOp_step rfl (fun K hK => ?_)
      refine stp_call rfl _ _ _ rfl egTo _ (list5_eq (cond_at d0 rfl) rfl (cond_at d3 rfl) (cond_at d4 rfl) (cond_at d5 rfl)) _ rfl ?_
      refine ((unhide HT) _ (((unhide HV).low.below hS.bel).is hS.bel.size)).mono ?_
      rintro e w4 ⟨vn, rfl, hI, hF, hb⟩
      obtain rfl := hG hD
      have m0 := og_not hcM hD
      have x0 := og_not hcX hD
      have z0 := og_not hcS hD
      refine ⟨_, rfl, ?_⟩
      rcases hF with rfl | ⟨g', cg, rfl, lg, hc1, hc2, hGb⟩
      · exact hK _ _ ⟨bA, bT, _, [], (by simp only [m0, x0]; rfl), (fun _ => .inl ⟨rfl, rfl, words_back (unhide HV) hI (hS.call hb).bel (Below.refl _ _)⟩), (fun _ => rfl), (fun _ => rfl), (fun _ => rfl), (fun _ => rfl), hcA, hcT, (by have h := hS.call hb; rw [z0] at h; show St w w4 (_ ++ _ ++ cond (D 10) [(bA, cond (D 12) _ _)] _ ++ _); rw [z0]; exact h)⟩
      · exact hK _ _ ⟨bA, bT, _, [(g', rowW M.ws c.n)], (by simp only [m0, x0]; rfl), (fun _ => .inr ⟨g', cg, rfl, hc1, hc2, rfl⟩), (fun h => by cases h), (fun _ => rfl), (fun _ => rfl), (fun _ => rfl), hcA, hcT, (by have h := hS.add hb hGb lg; rw [z0] at h; show St w w4 (_ ++ _ ++ cond (D 10) [(bA, cond (D 12) _ _)] _ ++ _); rw [z0]; exact h.perm (perm_last _))⟩
    | 7, hi =>
      cases hi
      have d6 : D 6 = true := og_pre hpre (j := 6) (by kernel_rfl)
      refine wpOp_step rfl (fun K hK => ?_)
      refine stp_val rfl (by exact yif_mv rfl (.tmp 21) rfl _ (cond_at d6 rfl)) rfl ?_
      exact hK _ _ ⟨bA, bT, v', G, rfl, hRel, hG, (fun _ => d6), hcX, hcS, hcA, hcT, hS⟩
    | 8, hi =>
      cases hi
      have d7 : D 7 = true := og_pre hpre (j := 7) (by kernel_rfl)
      refine wpOp_step rfl (fun K hK => ?_)
      refine stp_val rfl (by refine yif_extract rfl (.tmp 14) 0 rfl [.agg #[.int .i64 c.t, .int .i64 c.s, .int .i64 c.k, .int .i64 c.g, .int .u64 c.q, v', .int .i64 M.cnt, .int .i64 M.l.kind, .int .i64 M.l.a, .int .i64 M.l.b, .int .u64 (M.l.old : Nat), .int .u64 (M.l.new : Nat), .bool M.l.done], .agg #[.int .i64 M.l.kind, .int .i64 M.l.a, .int .i64 M.l.b, .int .u64 (M.l.old : Nat), .int .u64 (M.l.new : Nat), .bool M.l.done]] ?_ _ rfl; exact cond_at d7 rfl) rfl ?_
      exact hK _ _ ⟨bA, bT, v', G, rfl, hRel, hG, hcM, (fun _ => hcM d7), hcS, hcA, hcT, hS⟩
    | 9, hi =>
      cases hi
      have d7 : D 7 = true := og_pre hpre (j := 7) (by kernel_rfl)
      refine wpOp_step rfl (fun K hK => ?_)
      refine stp_val rfl (by refine yif_extract rfl (.tmp 14) 1 rfl [.agg #[.int .i64 c.t, .int .i64 c.s, .int .i64 c.k, .int .i64 c.g, .int .u64 c.q, v', .int .i64 M.cnt, .int .i64 M.l.kind, .int .i64 M.l.a, .int .i64 M.l.b, .int .u64 (M.l.old : Nat), .int .u64 (M.l.new : Nat), .bool M.l.done], .agg #[.int .i64 M.l.kind, .int .i64 M.l.a, .int .i64 M.l.b, .int .u64 (M.l.old : Nat), .int .u64 (M.l.new : Nat), .bool M.l.done]] ?_ _ rfl; exact cond_at d7 rfl) rfl ?_
      exact hK _ _ ⟨bA, bT, v', G, rfl, hRel, hG, hcM, hcX, hcS, hcA, hcT, hS⟩
    | 10, hi =>
      cases hi
      refine wpOp_step rfl (fun K hK => ?_)
      have e0 := og_not hcA hD
      refine stp_alloc hS rfl _ rfl _ zer_rmem _ rfl _ rfl _ (fun _ => rfl) ?_
      intro bn u hS'
      rw [hD] at hS'
      refine hK _ _ ⟨bn, bT, v', G, rfl, hRel, hG, hcM, hcX, hcS, (fun _ => rfl), hcT, ?_⟩
      show St w u (_ ++ G ++ [(bn, cond (D 12) _ _)] ++ _)
      rw [e0]
      exact hS'.perm (perm_mid _)
    | 11, hi =>
      cases hi
      refine wpOp_step rfl (fun K hK => ?_)
      have e0 := og_not hcT hD
      refine stp_alloc hS rfl _ rfl _ zer_rtch _ rfl _ rfl _ (fun _ => rfl) ?_
      intro bn u hS'
      rw [hD] at hS'
      refine hK _ _ ⟨bA, bn, v', G, rfl, hRel, hG, hcM, hcX, hcS, hcA, (fun _ => rfl), ?_⟩
      show St w u (_ ++ G ++ _ ++ [(bn, cond (D 13) _ _)])
      rw [e0]
      rw [cond_false, List.append_nil] at hS'
      exact hS'
    | 12, hi =>
      cases hi
      have d0 : D 0 = true := og_pre hpre (j := 0) (by kernel_rfl)
      have d1 : D 1 = true := og_pre hpre (j := 1) (by kernel_rfl)
      have d2 : D 2 = true := og_pre hpre (j := 2) (by kernel_rfl)
      have d3 : D 3 = true := og_pre hpre (j := 3) (by kernel_rfl)
      have d4 : D 4 = true := og_pre hpre (j := 4) (by kernel_rfl)
      have d5 : D 5 = true := og_pre hpre (j := 5) (by kernel_rfl)
      have d6 : D 6 = true := og_pre hpre (j := 6) (by kernel_rfl)
      have d7 : D 7 = true := og_pre hpre (j := 7) (by kernel_rfl)
      have d8 : D 8 = true := og_pre hpre (j := 8) (by kernel_rfl)
      have d10 : D 10 = true := og_pre hpre (j := 10) (by kernel_rfl)
      have d11 : D 11 = true := og_pre hpre (j := 11) (by kernel_rfl)
      refine wpOp_step rfl (fun K hK => ?_)
      rw [d10, hD, cond_true, cond_false] at hS
      rcases hRel d6 with ⟨rfl, rfl, h3⟩ | ⟨g', cg, rfl, hc1, hc2, rfl⟩
      · refine stp_store hS 2 rfl _ _ _ rfl _ _ (cond_at d10 rfl) _ rfl _ (cond_at d8 rfl) _ siz_rmem (by exact rfl) (by exact rfl) (by exact rfl) rfl ?_
        intro u hS'
        refine hK _ _ ⟨bA, bT, _, _, rfl, (fun _ => .inl ⟨rfl, rfl, h3⟩), hG, hcM, hcX, (fun _ => d6), (fun _ => d10), hcT, ?_⟩
        show St w u (_ ++ _ ++ cond (D 10) _ _ ++ _)
        rw [d10]
        exact hS'
      · refine stp_store hS 3 rfl _ _ _ rfl _ _ (cond_at d10 rfl) _ rfl _ (cond_at d8 rfl) _ siz_rmem (by exact rfl) (by exact rfl) (by exact rfl) rfl ?_
        intro u hS'
        refine hK _ _ ⟨bA, bT, _, _, rfl, (fun _ => .inr ⟨g', cg, rfl, hc1, hc2, rfl⟩), hG, hcM, hcX, (fun _ => d6), (fun _ => d10), hcT, ?_⟩
        show St w u (_ ++ _ ++ cond (D 10) _ _ ++ _)
        rw [d10]
        exact hS'
    | 13, hi =>
      cases hi
      have d0 : D 0 = true := og_pre hpre (j := 0) (by kernel_rfl)
      have d1 : D 1 = true := og_pre hpre (j := 1) (by kernel_rfl)
      have d2 : D 2 = true := og_pre hpre (j := 2) (by kernel_rfl)
      have d3 : D 3 = true := og_pre hpre (j := 3) (by kernel_rfl)
      have d4 : D 4 = true := og_pre hpre (j := 4) (by kernel_rfl)
      have d5 : D 5 = true := og_pre hpre (j := 5) (by kernel_rfl)
      have d6 : D 6 = true := og_pre hpre (j := 6) (by kernel_rfl)
      have d7 : D 7 = true := og_pre hpre (j := 7) (by kernel_rfl)
      have d8 : D 8 = true := og_pre hpre (j := 8) (by kernel_rfl)
      have d9 : D 9 = true := og_pre hpre (j := 9) (by kernel_rfl)
      have d10 : D 10 = true := og_pre hpre (j := 10) (by kernel_rfl)
      have d11 : D 11 = true := og_pre hpre (j := 11) (by kernel_rfl)
      have d12 : D 12 = true := og_pre hpre (j := 12) (by kernel_rfl)
      refine wpOp_step rfl (fun K hK => ?_)
      rw [d10, d12, d11, hD, cond_true, cond_true, cond_true, cond_false] at hS
      rcases hRel d6 with ⟨rfl, rfl, h3⟩ | ⟨g', cg, rfl, hc1, hc2, rfl⟩
      · refine stp_store hS 3 rfl _ _ _ rfl _ _ (cond_at d11 rfl) _ rfl _ (cond_at d9 rfl) _ siz_rtch (by exact rfl) (by exact rfl) (by exact rfl) rfl ?_
        intro u hS'
        refine hK _ _ ⟨bA, bT, _, _, rfl, (fun _ => .inl ⟨rfl, rfl, h3⟩), hG, hcM, hcX, hcS, hcA, (fun _ => d11), ?_⟩
        show St w u (_ ++ _ ++ cond (D 10) [(bA, cond (D 12) _ _)] _ ++ cond (D 11) _ _)
        rw [d10, d12, d11]
        exact hS'
      · refine stp_store hS 4 rfl _ _ _ rfl _ _ (cond_at d11 rfl) _ rfl _ (cond_at d9 rfl) _ siz_rtch (by exact rfl) (by exact rfl) (by exact rfl) rfl ?_
        intro u hS'
        refine hK _ _ ⟨bA, bT, _, _, rfl, (fun _ => .inr ⟨g', cg, rfl, hc1, hc2, rfl⟩), hG, hcM, hcX, hcS, hcA, (fun _ => d11), ?_⟩
        show St w u (_ ++ _ ++ cond (D 10) [(bA, cond (D 12) _ _)] _ ++ cond (D 11) _ _)
        rw [d10, d12, d11]
        exact hS'
    | i + 14, hi => simp at hi
  case ends =>
    intro D a' w' hall hI
    obtain ⟨bA, bT, v', G, rfl, hRel, _, _, _, _, _, _, hS⟩ := hI
    have d0 : D 0 = true := hall 0 (by decide)
    have d1 : D 1 = true := hall 1 (by decide)
    have d2 : D 2 = true := hall 2 (by decide)
    have d3 : D 3 = true := hall 3 (by decide)
    have d4 : D 4 = true := hall 4 (by decide)
    have d5 : D 5 = true := hall 5 (by decide)
    have d6 : D 6 = true := hall 6 (by decide)
    have d7 : D 7 = true := hall 7 (by decide)
    have d8 : D 8 = true := hall 8 (by decide)
    have d9 : D 9 = true := hall 9 (by decide)
    have d10 : D 10 = true := hall 10 (by decide)
    have d11 : D 11 = true := hall 11 (by decide)
    have d12 : D 12 = true := hall 12 (by decide)
    have d13 : D 13 = true := hall 13 (by decide)
    rw [d10, d12, d11, d13, cond_true, cond_true, cond_true, cond_true] at hS
    have hRl := hRel d6
    simp only [d0, d1, d2, d3, d4, d5, d6, d7, d8, d9, d10, d11, cond_true]
    clear hRel hall d0 d1 d2 d3 d4 d5 d6 d7 d8 d9 d10 d11 d12 d13
    rcases hRl with ⟨rfl, rfl, h3⟩ | ⟨g', cg, rfl, hc1, hc2, rfl⟩
    · dsimp only [List.cons_append, List.nil_append, List.append_nil] at hS
      go_wp2_with fail
      refine wp_region_held (S := fun q => BlkAt q bA [.int .i64 c.t, .int .i64 c.s, .int .i64 c.k, .int .i64 c.g, .int .u64 c.q, .slice sv c.n cap, .int .i64 M.cnt, .int .i64 M.l.kind, .int .i64 M.l.a, .int .i64 M.l.b, .int .u64 (M.l.old : Nat), .int .u64 (M.l.new : Nat), .bool M.l.done] ∧ BlkAt q bT [.int .i64 M.l.kind, .int .i64 M.l.a, .int .i64 M.l.b, .int .u64 (M.l.old : Nat), .int .u64 (M.l.new : Nat), .bool M.l.done]) (by kernel_rfl) ?_
      show wpAnyH Try.prog .any _ _ _ 5 _ _ (World.drew w')
      replace hS := hS.drew
      have hM : BlkAt (World.drew w') bA [.int .i64 c.t, .int .i64 c.s, .int .i64 c.k, .int .i64 c.g, .int .u64 c.q, .slice sv c.n cap, .int .i64 M.cnt, .int .i64 M.l.kind, .int .i64 M.l.a, .int .i64 M.l.b, .int .u64 (M.l.old : Nat), .int .u64 (M.l.new : Nat), .bool M.l.done] ∧ BlkAt (World.drew w') bT [.int .i64 M.l.kind, .int .i64 M.l.a, .int .i64 M.l.b, .int .u64 (M.l.old : Nat), .int .u64 (M.l.new : Nat), .bool M.l.done] := ⟨hS.get 2 rfl, hS.get 3 rfl⟩
      refine held_take (i := 0) rfl (by kernel_rfl) (by kernel_rfl) (by kernel_rfl) (fun _ _ _ h => h) (yif_load rfl _ _ rfl _ _ rfl _ (fun _ h => h.1) _ row_rmem (by exact rfl) _ (by dsimp only [cutL, List.drop, List.take]; first | done | exact rfl)) hM (some 24) rfl _ (by simp only [Act.put, List.setIfInBounds_toArray, List.set_cons_zero, List.set_cons_succ]; first | done | exact rfl) ?_
      refine held_take (i := 1) rfl (by kernel_rfl) (by kernel_rfl) (by kernel_rfl) (fun _ _ _ h => h) (yif_by rfl _ (fun w => by go_simp; first | done | exact rfl)) hM (some 25) rfl _ (by simp only [Act.put, List.setIfInBounds_toArray, List.set_cons_zero, List.set_cons_succ]; first | done | exact rfl) ?_
      refine held_take (i := 2) rfl (by kernel_rfl) (by kernel_rfl) (by kernel_rfl) (fun _ _ _ h => h) (yif_load1 rfl _ _ rfl _ _ rfl _ (fun _ h => h.2) one_bool _ rfl) hM (some 26) rfl _ (by simp only [Act.put, List.setIfInBounds_toArray, List.set_cons_zero, List.set_cons_succ]; first | done | exact rfl) ?_
      refine wpAnyH_all (rs := [3]) (by kernel_rfl) (by simp) ?_
      refine AllReadyH.cons rfl (fun K hK => ?_) AllReadyH.nil
      · refine stp_store hS 1 rfl _ _ _ rfl _ _ rfl _ rfl _ rfl _ siz_rmem (by exact rfl) (by exact rfl) (by exact rfl) rfl ?_
        clear hS hM
        intro _ hS
        dsimp only [blit, List.set] at hS
        refine hK.out _ _ ⟨hS.get 2 rfl, hS.get 3 rfl⟩ (fun hM => ?_)
        clear hK
        refine held_take (i := 4) rfl (by kernel_rfl) (by kernel_rfl) (by kernel_rfl) (fun _ _ _ h => h) (yif_moveB rfl _ (.inr rfl) _ rfl) hM (some 11) rfl _ (by simp only [Act.put, List.setIfInBounds_toArray, List.set_cons_zero, List.set_cons_succ]; first | done | exact rfl) ?_
        refine wpAnyH_done (by kernel_rfl) ?_ _
        clear hM
        try simp only [Act.put, List.setIfInBounds_toArray, List.set_cons_zero, List.set_cons_succ]
        go_wp2
        have hZ := hS.get 1 rfl
        refine bodyPost_ret (v := .tuple #[.agg #[.int .i64 c.t, .int .i64 c.s, .int .i64 c.k, .int .i64 c.g, .int .u64 c.q, .slice sv c.n cap, .int .i64 M.cnt, .int .i64 M.l.kind, .int .i64 M.l.a, .int .i64 M.l.b, .int .u64 (M.l.old : Nat), .int .u64 (M.l.new : Nat), .bool M.l.done], .bool M.l.done]) (by simp [results, Try.results41, go_sem, hZ.cell 0 _ rfl, hZ.cell 1 _ rfl, hZ.cell 2 _ rfl, hZ.cell 3 _ rfl, hZ.cell 4 _ rfl, hZ.cell 5 _ rfl, hZ.cell 6 _ rfl, hZ.cell 7 _ rfl, hZ.cell 8 _ rfl, hZ.cell 9 _ rfl, hZ.cell 10 _ rfl, hZ.cell 11 _ rfl, hZ.cell 12 _ rfl]) rfl ?_
        exact ⟨_, rfl, (h3.low.below hS.bel).is hS.bel.size, .inl rfl, hS.bel⟩
    · dsimp only [List.cons_append, List.nil_append, List.append_nil] at hS
      go_wp2_with fail
      refine wp_region_held (S := fun q => BlkAt q bA [.int .i64 c.t, .int .i64 c.s, .int .i64 c.k, .int .i64 c.g, .int .u64 c.q, .slice (some ⟨g', 0, none⟩) c.n cg, .int .i64 M.cnt, .int .i64 M.l.kind, .int .i64 M.l.a, .int .i64 M.l.b, .int .u64 (M.l.old : Nat), .int .u64 (M.l.new : Nat), .bool M.l.done] ∧ BlkAt q bT [.int .i64 M.l.kind, .int .i64 M.l.a, .int .i64 M.l.b, .int .u64 (M.l.old : Nat), .int .u64 (M.l.new : Nat), .bool M.l.done]) (by kernel_rfl) ?_
      show wpAnyH Try.prog .any _ _ _ 5 _ _ (World.drew w')
      replace hS := hS.drew
      have hM : BlkAt (World.drew w') bA [.int .i64 c.t, .int .i64 c.s, .int .i64 c.k, .int .i64 c.g, .int .u64 c.q, .slice (some ⟨g', 0, none⟩) c.n cg, .int .i64 M.cnt, .int .i64 M.l.kind, .int .i64 M.l.a, .int .i64 M.l.b, .int .u64 (M.l.old : Nat), .int .u64 (M.l.new : Nat), .bool M.l.done] ∧ BlkAt (World.drew w') bT [.int .i64 M.l.kind, .int .i64 M.l.a, .int .i64 M.l.b, .int .u64 (M.l.old : Nat), .int .u64 (M.l.new : Nat), .bool M.l.done] := ⟨hS.get 3 rfl, hS.get 4 rfl⟩
      refine held_take (i := 0) rfl (by kernel_rfl) (by kernel_rfl) (by kernel_rfl) (fun _ _ _ h => h) (yif_load rfl _ _ rfl _ _ rfl _ (fun _ h => h.1) _ row_rmem (by exact rfl) _ (by dsimp only [cutL, List.drop, List.take]; first | done | exact rfl)) hM (some 24) rfl _ (by simp only [Act.put, List.setIfInBounds_toArray, List.set_cons_zero, List.set_cons_succ]; first | done | exact rfl) ?_
      refine held_take (i := 1) rfl (by kernel_rfl) (by kernel_rfl) (by kernel_rfl) (fun _ _ _ h => h) (yif_by rfl _ (fun w => by go_simp; first | done | exact rfl)) hM (some 25) rfl _ (by simp only [Act.put, List.setIfInBounds_toArray, List.set_cons_zero, List.set_cons_succ]; first | done | exact rfl) ?_
      refine held_take (i := 2) rfl (by kernel_rfl) (by kernel_rfl) (by kernel_rfl) (fun _ _ _ h => h) (yif_load1 rfl _ _ rfl _ _ rfl _ (fun _ h => h.2) one_bool _ rfl) hM (some 26) rfl _ (by simp only [Act.put, List.setIfInBounds_toArray, List.set_cons_zero, List.set_cons_succ]; first | done | exact rfl) ?_
      refine wpAnyH_all (rs := [3]) (by kernel_rfl) (by simp) ?_
      refine AllReadyH.cons rfl (fun K hK => ?_) AllReadyH.nil
      · refine stp_store hS 1 rfl _ _ _ rfl _ _ rfl _ rfl _ rfl _ siz_rmem (by exact rfl) (by exact rfl) (by exact rfl) rfl ?_
        clear hS hM
        intro _ hS
        dsimp only [blit, List.set] at hS
        refine hK.out _ _ ⟨hS.get 3 rfl, hS.get 4 rfl⟩ (fun hM => ?_)
        clear hK
        refine held_take (i := 4) rfl (by kernel_rfl) (by kernel_rfl) (by kernel_rfl) (fun _ _ _ h => h) (yif_moveB rfl _ (.inr rfl) _ rfl) hM (some 11) rfl _ (by simp only [Act.put, List.setIfInBounds_toArray, List.set_cons_zero, List.set_cons_succ]; first | done | exact rfl) ?_
        refine wpAnyH_done (by kernel_rfl) ?_ _
        clear hM
        try simp only [Act.put, List.setIfInBounds_toArray, List.set_cons_zero, List.set_cons_succ]
        go_wp2
        have hZ := hS.get 1 rfl
        refine bodyPost_ret (v := .tuple #[.agg #[.int .i64 c.t, .int .i64 c.s, .int .i64 c.k, .int .i64 c.g, .int .u64 c.q, .slice (some ⟨g', 0, none⟩) c.n cg, .int .i64 M.cnt, .int .i64 M.l.kind, .int .i64 M.l.a, .int .i64 M.l.b, .int .u64 (M.l.old : Nat), .int .u64 (M.l.new : Nat), .bool M.l.done], .bool M.l.done]) (by simp [results, Try.results41, go_sem, hZ.cell 0 _ rfl, hZ.cell 1 _ rfl, hZ.cell 2 _ rfl, hZ.cell 3 _ rfl, hZ.cell 4 _ rfl, hZ.cell 5 _ rfl, hZ.cell 6 _ rfl, hZ.cell 7 _ rfl, hZ.cell 8 _ rfl, hZ.cell 9 _ rfl, hZ.cell 10 _ rfl, hZ.cell 11 _ rfl, hZ.cell 12 _ rfl]) rfl ?_
        exact ⟨_, rfl, .inr ⟨g', 0, cg, rfl, hn0, hc1, hc2, (hS.get 2 rfl).lt, fun j hj => ⟨by rw [Nat.zero_add]; exact (hS.get 2 rfl).cell j _ (rowW_get _ c.n j hj), (unhide HWD) j hj⟩⟩, .inr ⟨g', cg, rfl, hS.low (g', _) (List.mem_of_getElem? (i := 2) rfl), hc1, hc2, hS.get 2 rfl⟩, hS.bel⟩

end Go.Proofs.Ytkiaogbddfjkkaa

/-
  The walk of the document's own add.
-/
namespace Go.Proofs.Ytkiaogbddfjkkaa
set_option maxRecDepth 100000
open Go.RowKit Go.Sort

end Go.Proofs.Ytkiaogbddfjkkaa

/-
  Layer 6's contracts over blocks of two lists: the program's accesses, the document's, are they alike, a new pair.
-/
namespace Go.Proofs.Ytkiaogbddfjkkaa
set_option maxRecDepth 100000
open Go.RowKit Go.Sort

/-- the words of one memory -/
def WordsOk (c : Um.Cf) (m : Um.Mm) : Prop := ∀ q, q < c.n → Um.Word (m.ws q)

/-- an elder block, or a new one -/
def Fr (w : World) (g g' : Nat) : Prop := g' = g ∨ w.heap.size ≤ g'

theorem Fr.refl (w : World) (g : Nat) : Fr w g g := .inl rfl

theorem Fr.trans {w u : World} {g g1 g2 : Nat} (h : Fr w g g1) (k : Fr u g1 g2) (hs : w.heap.size ≤ u.heap.size) : Fr w g g2 := by
  rcases k with rfl | k
  · exact h
  · exact .inr (Nat.le_trans hs k)

section
variable {bs : List Nat} {w0 w : World} {l e : List (Nat × List Value)} {B C g cg : Nat} {c : Um.Cf} {m : Um.Mm}

theorem Sx.mem (hS : Sx bs w0 w l e) (i j : Nat) (hi : l[i]? = some (B, memL c C m)) (hj : l[j]? = some (C, rowW m.ws c.n)) (hij : i ≠ j) (hr : c.r = true) (hw : WordsOk c m) : MemAt w B C c m :=
  memAt_of (hS.get i hi) (hS.get j hj) (hS.ne i j hi hj hij) hr hw

theorem Sx.memd {w' : World} {M : Um.Mm} (hS : Sx bs w0 w l e) (i j : Nat) (hi : l[i]? = some (B, memL c C m)) (hj : l[j]? = some (C, rowW m.ws c.n)) (hM : MemAt w' B C c M) (hO : Off B C w w') : Sx bs w0 w' (putL l [(i, B, memL c C M), (j, C, rowW M.ws c.n)]) e := by
  refine hS.sets _ (fun u hu => ?_) (Turn.of_off hO) (fun u hu => ?_)
  · rcases (by simpa using hu : u = (i, B, memL c C M) ∨ u = (j, C, rowW M.ws c.n)) with rfl | rfl
    · exact ⟨_, hi⟩
    · exact ⟨_, hj⟩
  · rcases (by simpa using hu : u = (i, B, memL c C M) ∨ u = (j, C, rowW M.ws c.n)) with rfl | rfl
    · exact hM.blkB
    · exact hM.blkC

theorem Sx.words (hS : Sx bs w0 w l e) (k : Nat) (hk : e[k]? = some (g, rowW m.ws c.n)) (hr : c.r = true) (hw : WordsOk c m) (h1 : c.n ≤ cg) (h2 : cg ≤ maxLen) : IsWords w (.slice (some ⟨g, 0, none⟩) c.n cg) c.n m.ws :=
  .inr ⟨g, 0, cg, rfl, by have := Um.Cf.n_pos hr; omega, h1, h2, (hS.getE k hk).lt, fun q hq => ⟨by rw [Nat.zero_add]; exact (hS.getE k hk).cell q _ (rowW_get _ c.n q hq), hw q hq⟩⟩

theorem blk_of_words {w' : World} {ws ws' : Nat → Nat} {n : Nat} (hB : BlkAt w' g (rowW ws n)) (hI : IsWords w' (.slice (some ⟨g, 0, none⟩) n cg) n ws') : BlkAt w' g (rowW ws' n) := by
  refine ⟨hB.lt, fun j v hv => ?_, hB.fz⟩
  have hj : j < n := by have := (List.getElem?_eq_some_iff.1 hv).1; rwa [rowW_len] at this
  rw [rowW_get ws' n j hj] at hv
  cases hv
  rcases hI with ⟨_, _, e, h0⟩ | ⟨b, off, cap, e, _, _, _, _, hc⟩
  · omega
  · simp only [Value.slice.injEq, Option.some.injEq, Addr.mk.injEq] at e
    obtain ⟨⟨rfl, rfl, _⟩, _, _⟩ := e
    have := (hc j hj).1
    rwa [Nat.zero_add] at this

/-- what the document's access leaves -/
theorem Sx.handed {w' : World} {v' : Value} {M : Um.Mm} (hS : Sx bs w0 w l e) (k : Nat) (hk : e[k]? = some (g, rowW m.ws c.n)) (h1 : c.n ≤ cg) (h2 : cg ≤ maxLen) (hI : IsWords w' v' c.n M.ws) (hF : v' = (.slice (some ⟨g, 0, none⟩) c.n cg) ∨ RFresh w w' v' c.n M.ws) (hb : Below w.heap.size w w') :
    ∃ g' cg', v' = (.slice (some ⟨g', 0, none⟩) c.n cg') ∧ c.n ≤ cg' ∧ cg' ≤ maxLen ∧ Fr w g g' ∧ Sx bs w0 w' l (e.set k (g', rowW M.ws c.n)) := by
  rcases hF with rfl | ⟨g', cg', rfl, lg, hc1, hc2, hG⟩
  · exact ⟨g, cg, rfl, h1, h2, .inl rfl, hS.ref hb k hk (.inl rfl) (blk_of_words ((hS.getE k hk).below hb) hI)⟩
  · exact ⟨g', cg', rfl, hc1, hc2, .inr lg, hS.ref hb k hk (.inr lg) hG⟩

theorem mLoad_x (hS : Sx bs w0 w l e) (i j : Nat) (hi : l[i]? = some (B, memL c C m)) (hj : l[j]? = some (C, rowW m.ws c.n)) (hij : i ≠ j) (hr : c.r = true) (hw : WordsOk c m) (a b : Int) (hb0 : -9223372036854775808 ≤ b) (hb1 : b ≤ 9223372036854775807) (M : Um.Mm) (hM : M = Um.mtouch c m 1 a b 0 0) :
    Calls Try.prog 25 #[.pointer (some ⟨B, 0, none⟩), (.agg #[.int .i64 a, .int .i64 b])] w fun r w' => r = .returned (.int .u64 (M.l.old : Nat)) ∧ WordsOk c M ∧ Sx bs w0 w' (putL l [(i, B, memL c C M), (j, C, rowW M.ws c.n)]) e := by
  refine (mLoad_any (hS.mem i j hi hj hij hr hw) a b hb0 hb1 M hM).mono ?_
  rintro r w' ⟨rfl, h1, h2⟩
  exact ⟨rfl, h1.wd, hS.memd i j hi hj h1 h2⟩

theorem rLoad_x (hS : Sx bs w0 w l e) (k : Nat) (hk : e[k]? = some (g, rowW m.ws c.n)) (hr : c.r = true) (hw : WordsOk c m) (h1 : c.n ≤ cg) (h2 : cg ≤ maxLen) (a b : Int) (M : Um.Mm) (hM : M = Um.mtouch c m 1 a b 0 0) :
    Calls Try.prog 39 #[(.agg #[.int .i64 c.t, .int .i64 c.s, .int .i64 c.k, .int .i64 c.g, .int .u64 c.q, (.slice (some ⟨g, 0, none⟩) c.n cg), .int .i64 m.cnt, .int .i64 m.l.kind, .int .i64 m.l.a, .int .i64 m.l.b, .int .u64 (m.l.old : Nat), .int .u64 (m.l.new : Nat), .bool m.l.done]), .int .i64 a, .int .i64 b] w fun r w' => ∃ g' cg', r = .returned (.tuple #[(.agg #[.int .i64 c.t, .int .i64 c.s, .int .i64 c.k, .int .i64 c.g, .int .u64 c.q, (.slice (some ⟨g', 0, none⟩) c.n cg'), .int .i64 M.cnt, .int .i64 M.l.kind, .int .i64 M.l.a, .int .i64 M.l.b, .int .u64 (M.l.old : Nat), .int .u64 (M.l.new : Nat), .bool M.l.done]), .int .u64 (M.l.old : Nat)]) ∧ c.n ≤ cg' ∧ cg' ≤ maxLen ∧ Fr w g g' ∧ WordsOk c M ∧ Sx bs w0 w' l (e.set k (g', rowW M.ws c.n)) := by
  refine (rLoad_any c (.slice (some ⟨g, 0, none⟩) c.n cg) m M a b w hr (hS.words k hk hr hw h1 h2) hM).mono ?_
  rintro r w' ⟨v', rfl, hI, hF, hb⟩
  obtain ⟨g', cg', rfl, q1, q2, q3, q4⟩ := hS.handed k hk h1 h2 hI hF hb
  exact ⟨g', cg', rfl, q1, q2, q3, by rw [hM]; exact Um.word_touch hw (by unfold Um.Word; omega), q4⟩

theorem mStore_x (hS : Sx bs w0 w l e) (i j : Nat) (hi : l[i]? = some (B, memL c C m)) (hj : l[j]? = some (C, rowW m.ws c.n)) (hij : i ≠ j) (hr : c.r = true) (hw : WordsOk c m) (a b : Int) (x : Nat) (hx : Um.Word x) (hb0 : -9223372036854775808 ≤ b) (hb1 : b ≤ 9223372036854775807) (M : Um.Mm) (hM : M = Um.mtouch c m 2 a b 0 x) :
    Calls Try.prog 28 #[.pointer (some ⟨B, 0, none⟩), (.agg #[.int .i64 a, .int .i64 b]), .int .u64 (x : Nat)] w fun r w' => r = .returned (.tuple #[]) ∧ WordsOk c M ∧ Sx bs w0 w' (putL l [(i, B, memL c C M), (j, C, rowW M.ws c.n)]) e := by
  refine (mStore_any (hS.mem i j hi hj hij hr hw) a b x hx hb0 hb1 M hM).mono ?_
  rintro r w' ⟨rfl, h1, h2⟩
  exact ⟨rfl, h1.wd, hS.memd i j hi hj h1 h2⟩

theorem rStore_x (hS : Sx bs w0 w l e) (k : Nat) (hk : e[k]? = some (g, rowW m.ws c.n)) (hr : c.r = true) (hw : WordsOk c m) (h1 : c.n ≤ cg) (h2 : cg ≤ maxLen) (a b : Int) (x : Nat) (hx : Um.Word x) (M : Um.Mm) (hM : M = Um.mtouch c m 2 a b 0 x) :
    Calls Try.prog 38 #[(.agg #[.int .i64 c.t, .int .i64 c.s, .int .i64 c.k, .int .i64 c.g, .int .u64 c.q, (.slice (some ⟨g, 0, none⟩) c.n cg), .int .i64 m.cnt, .int .i64 m.l.kind, .int .i64 m.l.a, .int .i64 m.l.b, .int .u64 (m.l.old : Nat), .int .u64 (m.l.new : Nat), .bool m.l.done]), .int .i64 a, .int .i64 b, .int .u64 (x : Nat)] w fun r w' => ∃ g' cg', r = .returned ((.agg #[.int .i64 c.t, .int .i64 c.s, .int .i64 c.k, .int .i64 c.g, .int .u64 c.q, (.slice (some ⟨g', 0, none⟩) c.n cg'), .int .i64 M.cnt, .int .i64 M.l.kind, .int .i64 M.l.a, .int .i64 M.l.b, .int .u64 (M.l.old : Nat), .int .u64 (M.l.new : Nat), .bool M.l.done])) ∧ c.n ≤ cg' ∧ cg' ≤ maxLen ∧ Fr w g g' ∧ WordsOk c M ∧ Sx bs w0 w' l (e.set k (g', rowW M.ws c.n)) := by
  refine (rStore_any c (.slice (some ⟨g, 0, none⟩) c.n cg) m M a b x w hr (hS.words k hk hr hw h1 h2) hx hM).mono ?_
  rintro r w' ⟨v', rfl, hI, hF, hb⟩
  obtain ⟨g', cg', rfl, q1, q2, q3, q4⟩ := hS.handed k hk h1 h2 hI hF hb
  exact ⟨g', cg', rfl, q1, q2, q3, by rw [hM]; exact Um.word_touch hw hx, q4⟩

theorem mSwap_x (hS : Sx bs w0 w l e) (i j : Nat) (hi : l[i]? = some (B, memL c C m)) (hj : l[j]? = some (C, rowW m.ws c.n)) (hij : i ≠ j) (hr : c.r = true) (hw : WordsOk c m) (a b : Int) (o x : Nat) (hx : Um.Word x) (hb0 : -9223372036854775808 ≤ b) (hb1 : b ≤ 9223372036854775807) (M : Um.Mm) (hM : M = Um.mtouch c m 3 a b o x) :
    Calls Try.prog 76 #[.pointer (some ⟨B, 0, none⟩), (.agg #[.int .i64 a, .int .i64 b]), .int .u64 (o : Nat), .int .u64 (x : Nat)] w fun r w' => r = .returned (.bool M.l.done) ∧ WordsOk c M ∧ Sx bs w0 w' (putL l [(i, B, memL c C M), (j, C, rowW M.ws c.n)]) e := by
  refine (mSwap_any (hS.mem i j hi hj hij hr hw) a b o x hx hb0 hb1 M hM).mono ?_
  rintro r w' ⟨rfl, h1, h2⟩
  exact ⟨rfl, h1.wd, hS.memd i j hi hj h1 h2⟩

theorem rSwap_x (hS : Sx bs w0 w l e) (k : Nat) (hk : e[k]? = some (g, rowW m.ws c.n)) (hr : c.r = true) (hw : WordsOk c m) (h1 : c.n ≤ cg) (h2 : cg ≤ maxLen) (a b : Int) (o x : Nat) (hx : Um.Word x) (M : Um.Mm) (hM : M = Um.mtouch c m 3 a b o x) :
    Calls Try.prog 41 #[(.agg #[.int .i64 c.t, .int .i64 c.s, .int .i64 c.k, .int .i64 c.g, .int .u64 c.q, (.slice (some ⟨g, 0, none⟩) c.n cg), .int .i64 m.cnt, .int .i64 m.l.kind, .int .i64 m.l.a, .int .i64 m.l.b, .int .u64 (m.l.old : Nat), .int .u64 (m.l.new : Nat), .bool m.l.done]), .int .i64 a, .int .i64 b, .int .u64 (o : Nat), .int .u64 (x : Nat)] w fun r w' => ∃ g' cg', r = .returned (.tuple #[(.agg #[.int .i64 c.t, .int .i64 c.s, .int .i64 c.k, .int .i64 c.g, .int .u64 c.q, (.slice (some ⟨g', 0, none⟩) c.n cg'), .int .i64 M.cnt, .int .i64 M.l.kind, .int .i64 M.l.a, .int .i64 M.l.b, .int .u64 (M.l.old : Nat), .int .u64 (M.l.new : Nat), .bool M.l.done]), .bool M.l.done]) ∧ c.n ≤ cg' ∧ cg' ≤ maxLen ∧ Fr w g g' ∧ WordsOk c M ∧ Sx bs w0 w' l (e.set k (g', rowW M.ws c.n)) := by
  refine (rSwap_any c (.slice (some ⟨g, 0, none⟩) c.n cg) m M a b o x w hr (hS.words k hk hr hw h1 h2) hx hM).mono ?_
  rintro r w' ⟨v', rfl, hI, hF, hb⟩
  obtain ⟨g', cg', rfl, q1, q2, q3, q4⟩ := hS.handed k hk h1 h2 hI hF hb
  exact ⟨g', cg', rfl, q1, q2, q3, by rw [hM]; exact Um.word_touch hw hx, q4⟩

theorem lAlike_x (hS : Sx bs w0 w l e) (i j : Nat) (hi : l[i]? = some (B, memL c C m)) (hj : l[j]? = some (C, rowW m.ws c.n)) (hij : i ≠ j) (k : Nat) (hk : e[k]? = some (g, rowW m.ws c.n)) (hr : c.r = true) (hw : WordsOk c m) (h1 : c.n ≤ cg) (h2 : cg ≤ maxLen) :
    Calls Try.prog 16 #[.pointer (some ⟨B, 0, none⟩), (.agg #[.int .i64 c.t, .int .i64 c.s, .int .i64 c.k, .int .i64 c.g, .int .u64 c.q, (.slice (some ⟨g, 0, none⟩) c.n cg), .int .i64 m.cnt, .int .i64 m.l.kind, .int .i64 m.l.a, .int .i64 m.l.b, .int .u64 (m.l.old : Nat), .int .u64 (m.l.new : Nat), .bool m.l.done])] w fun r w' => r = .returned (.bool true) ∧ Below w.heap.size w w' :=
  lAlike_true (hS.mem i j hi hj hij hr hw) (.slice (some ⟨g, 0, none⟩) c.n cg) (hS.words k hk hr hw h1 h2)

theorem lOf_x (hS : Sx bs w0 w l e) (c : Um.Cf) (v : Value) (ws : Nat → Nat) (hr : c.r = true) (hv : IsWords w v c.n ws) :
    Calls Try.prog 10 #[(.agg #[.int .i64 (c.t), .int .i64 (c.s), .int .i64 (c.k), .int .i64 (c.g), .int .u64 (c.q : Int)]), v] w fun r w' => ∃ B C g cg, r = .returned (.tuple #[.pointer (some ⟨B, 0, none⟩), (.agg #[.int .i64 (c.t), .int .i64 (c.s), .int .i64 (c.k), .int .i64 (c.g), .int .u64 (c.q : Int), .slice (some ⟨g, 0, none⟩) c.n cg, .int .i64 0, .int .i64 0, .int .i64 0, .int .i64 0, .int .u64 0, .int .u64 0, .bool false]), .bool true]) ∧
      c.n ≤ cg ∧ cg ≤ maxLen ∧ WordsOk c ⟨ws, 0, Um.noT⟩ ∧ Sx bs w0 w' (l ++ [(B, memL c C ⟨ws, 0, Um.noT⟩), (C, rowW ws c.n)]) (e ++ [(g, rowW ws c.n)]) := by
  refine (lOf_own c v ws w hr hv).mono ?_
  rintro r w' ⟨B, C, g, cg, rfl, h1, h2, h3, h4, hM, h5, h6, hG, hb⟩
  refine ⟨B, C, g, cg, rfl, h5, h6, hM.wd, Sx.shelve ?_⟩
  rw [List.append_assoc]
  refine hS.adds hb _ (fun p hp => ?_) (fun p hp => ?_) ?_
  · rcases (by simpa using hp : p = (B, memL c C ⟨ws, 0, Um.noT⟩) ∨ p = (C, rowW ws c.n) ∨ p = (g, rowW ws c.n)) with rfl | rfl | rfl
    · exact hM.blkB
    · exact hM.blkC
    · exact hG
  · rcases (by simpa using hp : p = (B, memL c C ⟨ws, 0, Um.noT⟩) ∨ p = (C, rowW ws c.n) ∨ p = (g, rowW ws c.n)) with rfl | rfl | rfl
    · exact h1
    · exact h2
    · show w.heap.size ≤ g
      omega
  · have := hM.ne
    simp only [List.cons_append, List.nil_append, List.pairwise_cons, List.mem_cons, List.not_mem_nil, or_false, List.Pairwise.nil, and_true]
    refine ⟨?_, ?_, ?_⟩
    · rintro p (rfl | rfl)
      · exact this
      · show B ≠ g
        omega
    · rintro p rfl
      show C ≠ g
      omega
    · simp

end

end Go.Proofs.Ytkiaogbddfjkkaa

/-
  The walks of the program's help: a new one, whether it is done, its four steps.
-/
namespace Go.Proofs.Ytkiaogbddfjkkaa
set_option maxRecDepth 100000
open Go.RowKit Go.Sort

theorem eqHFn (f : Fn) (x y : Array Value) (w : World) : (binOp .eql 143 (.func f x y) .nilFunc).run Try.prog w = .ok (.bool false) w := by kernel_rfl
theorem eqHNo (w : World) : (binOp .eql 143 .nilFunc .nilFunc).run Try.prog w = .ok (.bool true) w := by kernel_rfl

theorem field_talS (s p : Value) (w : World) : (Instr.field 140 (.agg #[s, p]) 0).run Try.prog w = .ok s w := by simp [Instr.field, go_sem, asAgg]
theorem field_talP (s p : Value) (w : World) : (Instr.field 140 (.agg #[s, p]) 1).run Try.prog w = .ok p w := by simp [Instr.field, go_sem, asAgg]
theorem field_stat1 (a b c d e f g : Value) (w : World) : (Instr.field 123 (.agg #[a, b, c, d, e, f, g]) 1).run Try.prog w = .ok b w := by simp [Instr.field, go_sem, asAgg]
theorem field_stat2 (a b c d e f g : Value) (w : World) : (Instr.field 123 (.agg #[a, b, c, d, e, f, g]) 2).run Try.prog w = .ok c w := by simp [Instr.field, go_sem, asAgg]

section
variable {P : Program} {ops : Array Oper} {rest : List Oper} {op : Oper} {a : Act} {bs : List Nat} {w w0 : World} {Q : Exit → Act → World → Prop} {l e : List (Nat × List Value)}

/-- a load from a block that is only read -/
theorem wpx_load1e (hS : Sx bs w0 w l e) (k : Nat) (hw : Region.wanted op (yielded ops a.tmps) = true) (ty : TypeId) (x : Operand) (ho : op.op = .load ty x) (b o : Nat) (hx : a.eval x = .pointer (some ⟨b, o, none⟩)) (cs : List Value) (hk : e[k]? = some (b, cs)) (hr : One P ty) (v : Value) (hv : cs[o]? = some v)
    (a' : Act) (ha : a.put op.dst v = a') (h : wpList P ops Q rest a' w) : wpList P ops Q (op :: rest) a w := by
  refine BigFrame.wpList_want hw fun K hK => ?_
  obtain ⟨d, hu, hd⟩ := hr
  subst ha
  have e : (execOp a.eval op).run P w = .ok (.value v) w := by
    unfold execOp
    rw [ho]
    simp [hx, run_load1_st (P := P) (hS.getE k hk) o ty v hv d hu hd]
  unfold Oper.wp
  rw [e]
  exact hK _ _ h

end

theorem Sx.read1 {w : World} {g : Nat} {cs : List Value} (hB : BlkAt w g cs) : Sx [] w w [] [(g, cs)] :=
  Sx.read w [(g, cs)] (fun p hp => by
    obtain rfl : p = _ := by simpa using hp
    exact hB)

section
variable {bs : List Nat} {w0 w : World} {l e : List (Nat × List Value)} {B C P : Nat} {c : Um.Cf} {m : Um.Mm} {x s : Nat}

set_option maxHeartbeats 1000000 in
theorem hSpot_any {nx : Value} (hB : BlkAt w P [.int .u64 (x : Nat), .int .u64 (s : Nat), nx]) (hx : Um.Word x) (kd : Int) : Calls Try.prog 93 #[.pointer (some ⟨P, 0, none⟩), .int .i64 kd] w fun r w' => r = .returned (.agg #[.int .i64 kd, .int .i64 (Um.penN x)]) ∧ Below w.heap.size w w' := by
  have hS := Sx.read1 hB
  have HX := hide hx
  have hf := field_talP
  clear hB hx
  go_enter Try.func93, Try.ntmps93
  go_wp2_with (first | (first | (refine wpx_box hS rfl _ _ rfl _ rfl _ (by intro _; simp only [Act.put, List.setIfInBounds_toArray, List.set_cons_zero, List.set_cons_succ]; first | done | exact rfl) ?_; clear hS; intro _ _ hS; dsimp only [blit, List.set, List.cons_append, List.nil_append, Value.cells, List.toList_toArray] at hS) | (refine wpx_alloc hS rfl _ rfl _ (zer_any2 rfl) _ (by intro _; simp only [Act.put, List.setIfInBounds_toArray, List.set_cons_zero, List.set_cons_succ]; first | done | exact rfl) ?_; clear hS; intro _ _ hS; dsimp only [blit, List.set, List.cons_append, List.nil_append, Value.cells, List.toList_toArray] at hS) | (refine wpx_ld hS rfl _ _ rfl _ _ rfl ?_; (first | refine ⟨0, _, rfl, ?_⟩ | refine ⟨1, _, rfl, ?_⟩ | refine ⟨2, _, rfl, ?_⟩ | refine ⟨3, _, rfl, ?_⟩ | refine ⟨4, _, rfl, ?_⟩ | refine ⟨5, _, rfl, ?_⟩ | refine ⟨6, _, rfl, ?_⟩ | refine ⟨7, _, rfl, ?_⟩ | refine ⟨8, _, rfl, ?_⟩ | refine ⟨9, _, rfl, ?_⟩); first | refine .inl ⟨_, one_any2 rfl, rfl, _, (by simp only [Act.put, List.setIfInBounds_toArray, List.set_cons_zero, List.set_cons_succ]; first | done | exact rfl), ?_⟩ | refine .inr ⟨_, _, row_any2 rfl, rfl, (by dsimp only [cutL, List.drop, List.take]; first | done | exact rfl), _, (by simp only [Act.put, List.setIfInBounds_toArray, List.set_cons_zero, List.set_cons_succ]; first | done | exact rfl), ?_⟩) | (refine wpx_st hS rfl _ _ _ rfl rfl _ _ rfl ?_; (first | refine ⟨0, _, rfl, ?_⟩ | refine ⟨1, _, rfl, ?_⟩ | refine ⟨2, _, rfl, ?_⟩ | refine ⟨3, _, rfl, ?_⟩ | refine ⟨4, _, rfl, ?_⟩ | refine ⟨5, _, rfl, ?_⟩ | refine ⟨6, _, rfl, ?_⟩ | refine ⟨7, _, rfl, ?_⟩ | refine ⟨8, _, rfl, ?_⟩ | refine ⟨9, _, rfl, ?_⟩); refine ⟨_, (by first | exact shA rfl | exact shI rfl | exact shB rfl | exact shS rfl | exact shP rfl | exact shF rfl | exact shN rfl), _, siz_any2 rfl, (by exact rfl), (by exact rfl), (by exact rfl), ?_⟩; clear hS; intro _ hS; dsimp only [blit, List.set, List.cons_append, List.nil_append, Value.cells, List.toList_toArray] at hS)) | (refine wpx_load1e hS 0 rfl _ _ rfl _ _ rfl _ rfl (one_any2 rfl) _ rfl _ (by simp only [Act.put, List.setIfInBounds_toArray, List.set_cons_zero, List.set_cons_succ]; first | done | exact rfl) ?_))
  refine (tUnpack_any x _ (unhide HX)).mono ?_
  rintro r u ⟨rfl, hb⟩
  replace hS := hS.call hb
  clear hb
  go_wp2_with (first | (refine wpx_box hS rfl _ _ rfl _ rfl _ (by intro _; simp only [Act.put, List.setIfInBounds_toArray, List.set_cons_zero, List.set_cons_succ]; first | done | exact rfl) ?_; clear hS; intro _ _ hS; dsimp only [blit, List.set, List.cons_append, List.nil_append, Value.cells, List.toList_toArray] at hS) | (refine wpx_alloc hS rfl _ rfl _ (zer_any2 rfl) _ (by intro _; simp only [Act.put, List.setIfInBounds_toArray, List.set_cons_zero, List.set_cons_succ]; first | done | exact rfl) ?_; clear hS; intro _ _ hS; dsimp only [blit, List.set, List.cons_append, List.nil_append, Value.cells, List.toList_toArray] at hS) | (refine wpx_ld hS rfl _ _ rfl _ _ rfl ?_; (first | refine ⟨0, _, rfl, ?_⟩ | refine ⟨1, _, rfl, ?_⟩ | refine ⟨2, _, rfl, ?_⟩ | refine ⟨3, _, rfl, ?_⟩ | refine ⟨4, _, rfl, ?_⟩ | refine ⟨5, _, rfl, ?_⟩ | refine ⟨6, _, rfl, ?_⟩ | refine ⟨7, _, rfl, ?_⟩ | refine ⟨8, _, rfl, ?_⟩ | refine ⟨9, _, rfl, ?_⟩); first | refine .inl ⟨_, one_any2 rfl, rfl, _, (by simp only [Act.put, List.setIfInBounds_toArray, List.set_cons_zero, List.set_cons_succ]; first | done | exact rfl), ?_⟩ | refine .inr ⟨_, _, row_any2 rfl, rfl, (by dsimp only [cutL, List.drop, List.take]; first | done | exact rfl), _, (by simp only [Act.put, List.setIfInBounds_toArray, List.set_cons_zero, List.set_cons_succ]; first | done | exact rfl), ?_⟩) | (refine wpx_st hS rfl _ _ _ rfl rfl _ _ rfl ?_; (first | refine ⟨0, _, rfl, ?_⟩ | refine ⟨1, _, rfl, ?_⟩ | refine ⟨2, _, rfl, ?_⟩ | refine ⟨3, _, rfl, ?_⟩ | refine ⟨4, _, rfl, ?_⟩ | refine ⟨5, _, rfl, ?_⟩ | refine ⟨6, _, rfl, ?_⟩ | refine ⟨7, _, rfl, ?_⟩ | refine ⟨8, _, rfl, ?_⟩ | refine ⟨9, _, rfl, ?_⟩); refine ⟨_, (by first | exact shA rfl | exact shI rfl | exact shB rfl | exact shS rfl | exact shP rfl | exact shF rfl | exact shN rfl), _, siz_any2 rfl, (by exact rfl), (by exact rfl), (by exact rfl), ?_⟩; clear hS; intro _ hS; dsimp only [blit, List.set, List.cons_append, List.nil_append, Value.cells, List.toList_toArray] at hS))
  have hZ := hS.get 0 rfl
  exact bodyPost_ret (v := (.agg #[.int .i64 kd, .int .i64 (Um.penN x)])) (by simp [results, Try.results93, go_sem, hZ.cell 0 _ rfl, hZ.cell 1 _ rfl]) rfl ⟨rfl, hS.bel⟩

set_option maxHeartbeats 1000000 in
theorem hNew_0 (hS : Sx bs w0 w l e) (hx : Um.Word x) (hp : 0 ≤ Um.penN x) : Calls Try.prog 85 #[.int .u64 (x : Nat)] w fun r w' => ∃ P, r = .returned (.pointer (some ⟨P, 0, none⟩)) ∧ Sx bs w0 w' (l ++ [(P, [.int .u64 (x : Nat), .int .u64 (0 : Nat), .func (.func 89) #[] #[]])]) e := by
  have HS := hide hS
  have HX := hide hx
  have hf := field_talP
  have hp2 : decide (0 ≤ Um.penN x) = true := decide_eq_true hp
  clear hS hx
  have hS := Sx.new w
  go_enter Try.func85, Try.ntmps85
  go_wp2_with (first | (refine wpx_box hS rfl _ _ rfl _ rfl _ (by intro _; simp only [Act.put, List.setIfInBounds_toArray, List.set_cons_zero, List.set_cons_succ]; first | done | exact rfl) ?_; clear hS; intro _ _ hS; dsimp only [blit, List.set, List.cons_append, List.nil_append, Value.cells, List.toList_toArray] at hS) | (refine wpx_alloc hS rfl _ rfl _ (zer_any2 rfl) _ (by intro _; simp only [Act.put, List.setIfInBounds_toArray, List.set_cons_zero, List.set_cons_succ]; first | done | exact rfl) ?_; clear hS; intro _ _ hS; dsimp only [blit, List.set, List.cons_append, List.nil_append, Value.cells, List.toList_toArray] at hS) | (refine wpx_ld hS rfl _ _ rfl _ _ rfl ?_; (first | refine ⟨0, _, rfl, ?_⟩ | refine ⟨1, _, rfl, ?_⟩ | refine ⟨2, _, rfl, ?_⟩ | refine ⟨3, _, rfl, ?_⟩ | refine ⟨4, _, rfl, ?_⟩ | refine ⟨5, _, rfl, ?_⟩ | refine ⟨6, _, rfl, ?_⟩ | refine ⟨7, _, rfl, ?_⟩ | refine ⟨8, _, rfl, ?_⟩ | refine ⟨9, _, rfl, ?_⟩); first | refine .inl ⟨_, one_any2 rfl, rfl, _, (by simp only [Act.put, List.setIfInBounds_toArray, List.set_cons_zero, List.set_cons_succ]; first | done | exact rfl), ?_⟩ | refine .inr ⟨_, _, row_any2 rfl, rfl, (by dsimp only [cutL, List.drop, List.take]; first | done | exact rfl), _, (by simp only [Act.put, List.setIfInBounds_toArray, List.set_cons_zero, List.set_cons_succ]; first | done | exact rfl), ?_⟩) | (refine wpx_st hS rfl _ _ _ rfl rfl _ _ rfl ?_; (first | refine ⟨0, _, rfl, ?_⟩ | refine ⟨1, _, rfl, ?_⟩ | refine ⟨2, _, rfl, ?_⟩ | refine ⟨3, _, rfl, ?_⟩ | refine ⟨4, _, rfl, ?_⟩ | refine ⟨5, _, rfl, ?_⟩ | refine ⟨6, _, rfl, ?_⟩ | refine ⟨7, _, rfl, ?_⟩ | refine ⟨8, _, rfl, ?_⟩ | refine ⟨9, _, rfl, ?_⟩); refine ⟨_, (by first | exact shA rfl | exact shI rfl | exact shB rfl | exact shS rfl | exact shP rfl | exact shF rfl | exact shN rfl), _, siz_any2 rfl, (by exact rfl), (by exact rfl), (by exact rfl), ?_⟩; clear hS; intro _ hS; dsimp only [blit, List.set, List.cons_append, List.nil_append, Value.cells, List.toList_toArray] at hS))
  refine (tUnpack_any x _ (unhide HX)).mono ?_
  rintro r u ⟨rfl, hb⟩
  replace hS := hS.call hb
  clear hb
  go_wp2_with (first | (refine wpx_box hS rfl _ _ rfl _ rfl _ (by intro _; simp only [Act.put, List.setIfInBounds_toArray, List.set_cons_zero, List.set_cons_succ]; first | done | exact rfl) ?_; clear hS; intro _ _ hS; dsimp only [blit, List.set, List.cons_append, List.nil_append, Value.cells, List.toList_toArray] at hS) | (refine wpx_alloc hS rfl _ rfl _ (zer_any2 rfl) _ (by intro _; simp only [Act.put, List.setIfInBounds_toArray, List.set_cons_zero, List.set_cons_succ]; first | done | exact rfl) ?_; clear hS; intro _ _ hS; dsimp only [blit, List.set, List.cons_append, List.nil_append, Value.cells, List.toList_toArray] at hS) | (refine wpx_ld hS rfl _ _ rfl _ _ rfl ?_; (first | refine ⟨0, _, rfl, ?_⟩ | refine ⟨1, _, rfl, ?_⟩ | refine ⟨2, _, rfl, ?_⟩ | refine ⟨3, _, rfl, ?_⟩ | refine ⟨4, _, rfl, ?_⟩ | refine ⟨5, _, rfl, ?_⟩ | refine ⟨6, _, rfl, ?_⟩ | refine ⟨7, _, rfl, ?_⟩ | refine ⟨8, _, rfl, ?_⟩ | refine ⟨9, _, rfl, ?_⟩); first | refine .inl ⟨_, one_any2 rfl, rfl, _, (by simp only [Act.put, List.setIfInBounds_toArray, List.set_cons_zero, List.set_cons_succ]; first | done | exact rfl), ?_⟩ | refine .inr ⟨_, _, row_any2 rfl, rfl, (by dsimp only [cutL, List.drop, List.take]; first | done | exact rfl), _, (by simp only [Act.put, List.setIfInBounds_toArray, List.set_cons_zero, List.set_cons_succ]; first | done | exact rfl), ?_⟩) | (refine wpx_st hS rfl _ _ _ rfl rfl _ _ rfl ?_; (first | refine ⟨0, _, rfl, ?_⟩ | refine ⟨1, _, rfl, ?_⟩ | refine ⟨2, _, rfl, ?_⟩ | refine ⟨3, _, rfl, ?_⟩ | refine ⟨4, _, rfl, ?_⟩ | refine ⟨5, _, rfl, ?_⟩ | refine ⟨6, _, rfl, ?_⟩ | refine ⟨7, _, rfl, ?_⟩ | refine ⟨8, _, rfl, ?_⟩ | refine ⟨9, _, rfl, ?_⟩); refine ⟨_, (by first | exact shA rfl | exact shI rfl | exact shB rfl | exact shS rfl | exact shP rfl | exact shF rfl | exact shN rfl), _, siz_any2 rfl, (by exact rfl), (by exact rfl), (by exact rfl), ?_⟩; clear hS; intro _ hS; dsimp only [blit, List.set, List.cons_append, List.nil_append, Value.cells, List.toList_toArray] at hS))
  go_ret
  obtain ⟨P, rfl⟩ := nameB hS 0 rfl
  exact ⟨P, rfl, (unhide HS).add hS.bel (hS.get 0 rfl) ((hS.low _ (List.mem_of_getElem? (i := 0) rfl)).resolve_left (by simp))⟩

set_option maxHeartbeats 1000000 in
theorem hNew_4 (hS : Sx bs w0 w l e) (hx : Um.Word x) (hp : Um.penN x < 0) : Calls Try.prog 85 #[.int .u64 (x : Nat)] w fun r w' => ∃ P, r = .returned (.pointer (some ⟨P, 0, none⟩)) ∧ Sx bs w0 w' (l ++ [(P, [.int .u64 (x : Nat), .int .u64 (0 : Nat), .nilFunc])]) e := by
  have HS := hide hS
  have HX := hide hx
  have hf := field_talP
  have hp2 : decide (0 ≤ Um.penN x) = false := decide_eq_false (by omega)
  have hp3 : ¬ (0 ≤ Um.penN x) := by omega
  clear hS hx
  have hS := Sx.new w
  go_enter Try.func85, Try.ntmps85
  go_wp2_with (first | (refine wpx_box hS rfl _ _ rfl _ rfl _ (by intro _; simp only [Act.put, List.setIfInBounds_toArray, List.set_cons_zero, List.set_cons_succ]; first | done | exact rfl) ?_; clear hS; intro _ _ hS; dsimp only [blit, List.set, List.cons_append, List.nil_append, Value.cells, List.toList_toArray] at hS) | (refine wpx_alloc hS rfl _ rfl _ (zer_any2 rfl) _ (by intro _; simp only [Act.put, List.setIfInBounds_toArray, List.set_cons_zero, List.set_cons_succ]; first | done | exact rfl) ?_; clear hS; intro _ _ hS; dsimp only [blit, List.set, List.cons_append, List.nil_append, Value.cells, List.toList_toArray] at hS) | (refine wpx_ld hS rfl _ _ rfl _ _ rfl ?_; (first | refine ⟨0, _, rfl, ?_⟩ | refine ⟨1, _, rfl, ?_⟩ | refine ⟨2, _, rfl, ?_⟩ | refine ⟨3, _, rfl, ?_⟩ | refine ⟨4, _, rfl, ?_⟩ | refine ⟨5, _, rfl, ?_⟩ | refine ⟨6, _, rfl, ?_⟩ | refine ⟨7, _, rfl, ?_⟩ | refine ⟨8, _, rfl, ?_⟩ | refine ⟨9, _, rfl, ?_⟩); first | refine .inl ⟨_, one_any2 rfl, rfl, _, (by simp only [Act.put, List.setIfInBounds_toArray, List.set_cons_zero, List.set_cons_succ]; first | done | exact rfl), ?_⟩ | refine .inr ⟨_, _, row_any2 rfl, rfl, (by dsimp only [cutL, List.drop, List.take]; first | done | exact rfl), _, (by simp only [Act.put, List.setIfInBounds_toArray, List.set_cons_zero, List.set_cons_succ]; first | done | exact rfl), ?_⟩) | (refine wpx_st hS rfl _ _ _ rfl rfl _ _ rfl ?_; (first | refine ⟨0, _, rfl, ?_⟩ | refine ⟨1, _, rfl, ?_⟩ | refine ⟨2, _, rfl, ?_⟩ | refine ⟨3, _, rfl, ?_⟩ | refine ⟨4, _, rfl, ?_⟩ | refine ⟨5, _, rfl, ?_⟩ | refine ⟨6, _, rfl, ?_⟩ | refine ⟨7, _, rfl, ?_⟩ | refine ⟨8, _, rfl, ?_⟩ | refine ⟨9, _, rfl, ?_⟩); refine ⟨_, (by first | exact shA rfl | exact shI rfl | exact shB rfl | exact shS rfl | exact shP rfl | exact shF rfl | exact shN rfl), _, siz_any2 rfl, (by exact rfl), (by exact rfl), (by exact rfl), ?_⟩; clear hS; intro _ hS; dsimp only [blit, List.set, List.cons_append, List.nil_append, Value.cells, List.toList_toArray] at hS))
  refine (tUnpack_any x _ (unhide HX)).mono ?_
  rintro r u ⟨rfl, hb⟩
  replace hS := hS.call hb
  clear hb
  go_wp2_with (first | (refine wpx_box hS rfl _ _ rfl _ rfl _ (by intro _; simp only [Act.put, List.setIfInBounds_toArray, List.set_cons_zero, List.set_cons_succ]; first | done | exact rfl) ?_; clear hS; intro _ _ hS; dsimp only [blit, List.set, List.cons_append, List.nil_append, Value.cells, List.toList_toArray] at hS) | (refine wpx_alloc hS rfl _ rfl _ (zer_any2 rfl) _ (by intro _; simp only [Act.put, List.setIfInBounds_toArray, List.set_cons_zero, List.set_cons_succ]; first | done | exact rfl) ?_; clear hS; intro _ _ hS; dsimp only [blit, List.set, List.cons_append, List.nil_append, Value.cells, List.toList_toArray] at hS) | (refine wpx_ld hS rfl _ _ rfl _ _ rfl ?_; (first | refine ⟨0, _, rfl, ?_⟩ | refine ⟨1, _, rfl, ?_⟩ | refine ⟨2, _, rfl, ?_⟩ | refine ⟨3, _, rfl, ?_⟩ | refine ⟨4, _, rfl, ?_⟩ | refine ⟨5, _, rfl, ?_⟩ | refine ⟨6, _, rfl, ?_⟩ | refine ⟨7, _, rfl, ?_⟩ | refine ⟨8, _, rfl, ?_⟩ | refine ⟨9, _, rfl, ?_⟩); first | refine .inl ⟨_, one_any2 rfl, rfl, _, (by simp only [Act.put, List.setIfInBounds_toArray, List.set_cons_zero, List.set_cons_succ]; first | done | exact rfl), ?_⟩ | refine .inr ⟨_, _, row_any2 rfl, rfl, (by dsimp only [cutL, List.drop, List.take]; first | done | exact rfl), _, (by simp only [Act.put, List.setIfInBounds_toArray, List.set_cons_zero, List.set_cons_succ]; first | done | exact rfl), ?_⟩) | (refine wpx_st hS rfl _ _ _ rfl rfl _ _ rfl ?_; (first | refine ⟨0, _, rfl, ?_⟩ | refine ⟨1, _, rfl, ?_⟩ | refine ⟨2, _, rfl, ?_⟩ | refine ⟨3, _, rfl, ?_⟩ | refine ⟨4, _, rfl, ?_⟩ | refine ⟨5, _, rfl, ?_⟩ | refine ⟨6, _, rfl, ?_⟩ | refine ⟨7, _, rfl, ?_⟩ | refine ⟨8, _, rfl, ?_⟩ | refine ⟨9, _, rfl, ?_⟩); refine ⟨_, (by first | exact shA rfl | exact shI rfl | exact shB rfl | exact shS rfl | exact shP rfl | exact shF rfl | exact shN rfl), _, siz_any2 rfl, (by exact rfl), (by exact rfl), (by exact rfl), ?_⟩; clear hS; intro _ hS; dsimp only [blit, List.set, List.cons_append, List.nil_append, Value.cells, List.toList_toArray] at hS))
  go_ret
  obtain ⟨P, rfl⟩ := nameB hS 0 rfl
  exact ⟨P, rfl, (unhide HS).add hS.bel (hS.get 0 rfl) ((hS.low _ (List.mem_of_getElem? (i := 0) rfl)).resolve_left (by simp))⟩

set_option maxHeartbeats 1000000 in
theorem hDone_f (hS : Sx bs w0 w l e) (k : Nat) (f : Fn) (a1 a2 : Array Value) (hk : l[k]? = some (P, [.int .u64 (x : Nat), .int .u64 (s : Nat), .func f a1 a2])) : Calls Try.prog 91 #[.pointer (some ⟨P, 0, none⟩)] w fun r w' => r = .returned (.bool false) ∧ w' = w := by
  have h2 := (hS.get k hk).cell 2 _ rfl
  have hE := eqHFn
  have hE0 := eqHNo
  clear hS hk
  go_enter Try.func91, Try.ntmps91
  go_wp2
  go_ret
  exact ⟨rfl, rfl⟩

set_option maxHeartbeats 1000000 in
theorem hDone_n (hS : Sx bs w0 w l e) (k : Nat) (hk : l[k]? = some (P, [.int .u64 (x : Nat), .int .u64 (s : Nat), .nilFunc])) : Calls Try.prog 91 #[.pointer (some ⟨P, 0, none⟩)] w fun r w' => r = .returned (.bool true) ∧ w' = w := by
  have h2 := (hS.get k hk).cell 2 _ rfl
  have hE := eqHFn
  have hE0 := eqHNo
  clear hS hk
  go_enter Try.func91, Try.ntmps91
  go_wp2
  go_ret
  exact ⟨rfl, rfl⟩

set_option maxHeartbeats 4000000 in
theorem hNumber_x (hS : Sx bs w0 w l e) (i j k : Nat) (hi : l[i]? = some (B, memL c C m)) (hj : l[j]? = some (C, rowW m.ws c.n)) (nx : Value) (hk : l[k]? = some (P, [.int .u64 (x : Nat), .int .u64 (s : Nat), nx])) (hij : i ≠ j) (hik : i ≠ k) (hjk : j ≠ k) (hr : c.r = true) (hw : WordsOk c m) (hx : Um.Word x) (hs : Um.Word s) (M : Um.Mm) (hM : M = Um.mtouch c m 3 6 (Um.penN x) 0 (Um.seqN x)) :
    Calls Try.prog 89 #[.pointer (some ⟨P, 0, none⟩), .pointer (some ⟨B, 0, none⟩)] w fun r w' => r = .returned (.tuple #[]) ∧ WordsOk c M ∧ Sx bs w0 w' (putL l [(i, B, memL c C M), (j, C, rowW M.ws c.n), (k, P, [.int .u64 (x : Nat), .int .u64 (s : Nat), .func (.func 94) #[] #[]])]) e := by
  have HS := hide hS
  have HI := hide (And.intro hi (And.intro hj hk))
  have hL := hS.enter3 i j k hi hj hk hij hik hjk
  have HR := hide hr
  have HW := hide hw
  have HM := hide hM
  have HX := hide hx
  have HSW := hide hs
  have hf0 := field_talS
  have hf1 := field_talP
  have hf2 := field_stat1
  have hf3 := field_stat2
  obtain ⟨hb0, hb1⟩ : -9223372036854775808 ≤ Um.penN x ∧ Um.penN x ≤ 9223372036854775807 := by have := Um.pen_bd x; omega
  have HB0 := hide hb0
  have HB1 := hide hb1
  clear hS hi hj hk hr hw hM hx hs hb0 hb1
  have hS := hL
  clear hL
  have k0 := fun w' (h : BlkAt w' P [.int .u64 (x : Nat), .int .u64 (s : Nat), nx]) => h.cell 0 _ rfl
  have k1 := fun w' (h : BlkAt w' P [.int .u64 (x : Nat), .int .u64 (s : Nat), nx]) => h.cell 1 _ rfl
  have HP := hide (hS.get 2 rfl)
  go_enter Try.func89, Try.ntmps89
  go_wp2_with fail
  have HS3 := hide hS
  clear hS
  go_region_held3 (fun w' => BlkAt w' P [.int .u64 (x : Nat), .int .u64 (s : Nat), nx]) (first | exact (unhide HP).drew | exact BlkAt.below (by assumption) (by assumption) | assumption) (first | (go_at_call 93; refine (hSpot_any (by assumption) (unhide HX) _).mono ?_; rintro e u5 ⟨rfl, hb5⟩) | (go_at_call 84; refine (tUnpack_any x _ (unhide HX)).mono ?_; rintro e u6 ⟨rfl, hb6⟩) | (go_at_call 76; refine (mSwap_x (((unhide HS3).undrew hb5).call hb6) 0 1 rfl rfl (by decide) (unhide HR) (unhide HW) 6 (Um.penN x) 0 (Um.seqN x) (Um.seq_isword (unhide HX)) (unhide HB0) (unhide HB1) M (unhide HM)).mono ?_; rintro e u7 ⟨rfl, hW6, hS6⟩; have hP6 := hS6.get 2 rfl))
  have hS := hS6
  have HW6 := hide hW6
  clear hS6 hP6 hW6 k0 k1 HS3
  dsimp only [putL, List.set] at hS
  go_wp2_with (first | (refine wpx_box hS rfl _ _ rfl _ rfl _ (by intro _; simp only [Act.put, List.setIfInBounds_toArray, List.set_cons_zero, List.set_cons_succ]; first | done | exact rfl) ?_; clear hS; intro _ _ hS; dsimp only [blit, List.set, List.cons_append, List.nil_append, Value.cells, List.toList_toArray] at hS) | (refine wpx_alloc hS rfl _ rfl _ (zer_any2 rfl) _ (by intro _; simp only [Act.put, List.setIfInBounds_toArray, List.set_cons_zero, List.set_cons_succ]; first | done | exact rfl) ?_; clear hS; intro _ _ hS; dsimp only [blit, List.set, List.cons_append, List.nil_append, Value.cells, List.toList_toArray] at hS) | (refine wpx_ld hS rfl _ _ rfl _ _ rfl ?_; (first | refine ⟨0, _, rfl, ?_⟩ | refine ⟨1, _, rfl, ?_⟩ | refine ⟨2, _, rfl, ?_⟩ | refine ⟨3, _, rfl, ?_⟩ | refine ⟨4, _, rfl, ?_⟩ | refine ⟨5, _, rfl, ?_⟩ | refine ⟨6, _, rfl, ?_⟩ | refine ⟨7, _, rfl, ?_⟩ | refine ⟨8, _, rfl, ?_⟩ | refine ⟨9, _, rfl, ?_⟩); first | refine .inl ⟨_, one_any2 rfl, rfl, _, (by simp only [Act.put, List.setIfInBounds_toArray, List.set_cons_zero, List.set_cons_succ]; first | done | exact rfl), ?_⟩ | refine .inr ⟨_, _, row_any2 rfl, rfl, (by dsimp only [cutL, List.drop, List.take]; first | done | exact rfl), _, (by simp only [Act.put, List.setIfInBounds_toArray, List.set_cons_zero, List.set_cons_succ]; first | done | exact rfl), ?_⟩) | (refine wpx_st hS rfl _ _ _ rfl rfl _ _ rfl ?_; (first | refine ⟨0, _, rfl, ?_⟩ | refine ⟨1, _, rfl, ?_⟩ | refine ⟨2, _, rfl, ?_⟩ | refine ⟨3, _, rfl, ?_⟩ | refine ⟨4, _, rfl, ?_⟩ | refine ⟨5, _, rfl, ?_⟩ | refine ⟨6, _, rfl, ?_⟩ | refine ⟨7, _, rfl, ?_⟩ | refine ⟨8, _, rfl, ?_⟩ | refine ⟨9, _, rfl, ?_⟩); refine ⟨_, (by first | exact shA rfl | exact shI rfl | exact shB rfl | exact shS rfl | exact shP rfl | exact shF rfl | exact shN rfl), _, siz_any2 rfl, (by exact rfl), (by exact rfl), (by exact rfl), ?_⟩; clear hS; intro _ hS; dsimp only [blit, List.set, List.cons_append, List.nil_append, Value.cells, List.toList_toArray] at hS))
  first | go_end0 | ((try simp only [Exit.inBlock, Exit.then]); refine bodyPost_ret (results_none rfl _ _ _) rfl ?_)
  exact ⟨rfl, unhide HW6, (unhide HS).back3 i j k (unhide HI).1 (unhide HI).2.1 (unhide HI).2.2 hS⟩

set_option maxHeartbeats 4000000 in
theorem hLook_3 (hS : Sx bs w0 w l e) (i j k : Nat) (hi : l[i]? = some (B, memL c C m)) (hj : l[j]? = some (C, rowW m.ws c.n)) (nx : Value) (hk : l[k]? = some (P, [.int .u64 (x : Nat), .int .u64 (s : Nat), nx])) (hij : i ≠ j) (hik : i ≠ k) (hjk : j ≠ k) (hr : c.r = true) (hw : WordsOk c m) (hx : Um.Word x) (hs : Um.Word s) (M : Um.Mm) (hM : M = Um.mtouch c m 1 4 (Um.penN x) 0 0) (h3 : Um.stN M.l.old = 3) :
    Calls Try.prog 94 #[.pointer (some ⟨P, 0, none⟩), .pointer (some ⟨B, 0, none⟩)] w fun r w' => r = .returned (.tuple #[]) ∧ WordsOk c M ∧ Sx bs w0 w' (putL l [(i, B, memL c C M), (j, C, rowW M.ws c.n), (k, P, [.int .u64 (x : Nat), .int .u64 (M.l.old : Nat), .func (.func 96) #[] #[]])]) e := by
  have HS := hide hS
  have HI := hide (And.intro hi (And.intro hj hk))
  have hL := hS.enter3 i j k hi hj hk hij hik hjk
  have HR := hide hr
  have HW := hide hw
  have HM := hide hM
  have HX := hide hx
  have HSW := hide hs
  have hf0 := field_talS
  have hf1 := field_talP
  have hf2 := field_stat1
  have hf3 := field_stat2
  obtain ⟨hb0, hb1⟩ : -9223372036854775808 ≤ Um.penN x ∧ Um.penN x ≤ 9223372036854775807 := by have := Um.pen_bd x; omega
  have HB0 := hide hb0
  have HB1 := hide hb1
  clear hS hi hj hk hr hw hM hx hs hb0 hb1
  have hS := hL
  clear hL
  have HO := hide (show Um.Word (Um.mtouch c m 1 4 (Um.penN x) 0 0).l.old from Um.old_word (unhide HW))
  rw [← unhide HM] at HO
  have HST := hide h3
  clear h3
  go_enter Try.func94, Try.ntmps94
  go_wp2_with fail
  refine (hSpot_any (hS.get 2 rfl) (unhide HX) _).mono ?_
  rintro r u ⟨rfl, hb⟩
  replace hS := hS.call hb
  clear hb
  go_wp2_with fail
  refine (mLoad_x hS 0 1 rfl rfl (by decide) (unhide HR) (unhide HW) 4 (Um.penN x) (unhide HB0) (unhide HB1) M (unhide HM)).mono ?_
  rintro r u2 ⟨rfl, hW6, hSn⟩
  clear hS
  have hS := hSn
  have HW6 := hide hW6
  clear hSn hW6
  dsimp only [putL, List.set] at hS
  go_wp2_with (first | (refine wpx_box hS rfl _ _ rfl _ rfl _ (by intro _; simp only [Act.put, List.setIfInBounds_toArray, List.set_cons_zero, List.set_cons_succ]; first | done | exact rfl) ?_; clear hS; intro _ _ hS; dsimp only [blit, List.set, List.cons_append, List.nil_append, Value.cells, List.toList_toArray] at hS) | (refine wpx_alloc hS rfl _ rfl _ (zer_any2 rfl) _ (by intro _; simp only [Act.put, List.setIfInBounds_toArray, List.set_cons_zero, List.set_cons_succ]; first | done | exact rfl) ?_; clear hS; intro _ _ hS; dsimp only [blit, List.set, List.cons_append, List.nil_append, Value.cells, List.toList_toArray] at hS) | (refine wpx_ld hS rfl _ _ rfl _ _ rfl ?_; (first | refine ⟨0, _, rfl, ?_⟩ | refine ⟨1, _, rfl, ?_⟩ | refine ⟨2, _, rfl, ?_⟩ | refine ⟨3, _, rfl, ?_⟩ | refine ⟨4, _, rfl, ?_⟩ | refine ⟨5, _, rfl, ?_⟩ | refine ⟨6, _, rfl, ?_⟩ | refine ⟨7, _, rfl, ?_⟩ | refine ⟨8, _, rfl, ?_⟩ | refine ⟨9, _, rfl, ?_⟩); first | refine .inl ⟨_, one_any2 rfl, rfl, _, (by simp only [Act.put, List.setIfInBounds_toArray, List.set_cons_zero, List.set_cons_succ]; first | done | exact rfl), ?_⟩ | refine .inr ⟨_, _, row_any2 rfl, rfl, (by dsimp only [cutL, List.drop, List.take]; first | done | exact rfl), _, (by simp only [Act.put, List.setIfInBounds_toArray, List.set_cons_zero, List.set_cons_succ]; first | done | exact rfl), ?_⟩) | (refine wpx_st hS rfl _ _ _ rfl rfl _ _ rfl ?_; (first | refine ⟨0, _, rfl, ?_⟩ | refine ⟨1, _, rfl, ?_⟩ | refine ⟨2, _, rfl, ?_⟩ | refine ⟨3, _, rfl, ?_⟩ | refine ⟨4, _, rfl, ?_⟩ | refine ⟨5, _, rfl, ?_⟩ | refine ⟨6, _, rfl, ?_⟩ | refine ⟨7, _, rfl, ?_⟩ | refine ⟨8, _, rfl, ?_⟩ | refine ⟨9, _, rfl, ?_⟩); refine ⟨_, (by first | exact shA rfl | exact shI rfl | exact shB rfl | exact shS rfl | exact shP rfl | exact shF rfl | exact shN rfl), _, siz_any2 rfl, (by exact rfl), (by exact rfl), (by exact rfl), ?_⟩; clear hS; intro _ hS; dsimp only [blit, List.set, List.cons_append, List.nil_append, Value.cells, List.toList_toArray] at hS))
  refine (unpack_any M.l.old _ (unhide HO)).mono ?_
  rintro r u3 ⟨rfl, hb⟩
  replace hS := hS.call hb
  clear hb
  have h3 := unhide HST
  clear HST
  have hst3 : Um.part M.l.old 27 3 = 3 := h3
  have hst4 : ((Um.part M.l.old 27 3 : Nat) : Int) = 3 := by omega
  go_wp2_with (first | (refine wpx_box hS rfl _ _ rfl _ rfl _ (by intro _; simp only [Act.put, List.setIfInBounds_toArray, List.set_cons_zero, List.set_cons_succ]; first | done | exact rfl) ?_; clear hS; intro _ _ hS; dsimp only [blit, List.set, List.cons_append, List.nil_append, Value.cells, List.toList_toArray] at hS) | (refine wpx_alloc hS rfl _ rfl _ (zer_any2 rfl) _ (by intro _; simp only [Act.put, List.setIfInBounds_toArray, List.set_cons_zero, List.set_cons_succ]; first | done | exact rfl) ?_; clear hS; intro _ _ hS; dsimp only [blit, List.set, List.cons_append, List.nil_append, Value.cells, List.toList_toArray] at hS) | (refine wpx_ld hS rfl _ _ rfl _ _ rfl ?_; (first | refine ⟨0, _, rfl, ?_⟩ | refine ⟨1, _, rfl, ?_⟩ | refine ⟨2, _, rfl, ?_⟩ | refine ⟨3, _, rfl, ?_⟩ | refine ⟨4, _, rfl, ?_⟩ | refine ⟨5, _, rfl, ?_⟩ | refine ⟨6, _, rfl, ?_⟩ | refine ⟨7, _, rfl, ?_⟩ | refine ⟨8, _, rfl, ?_⟩ | refine ⟨9, _, rfl, ?_⟩); first | refine .inl ⟨_, one_any2 rfl, rfl, _, (by simp only [Act.put, List.setIfInBounds_toArray, List.set_cons_zero, List.set_cons_succ]; first | done | exact rfl), ?_⟩ | refine .inr ⟨_, _, row_any2 rfl, rfl, (by dsimp only [cutL, List.drop, List.take]; first | done | exact rfl), _, (by simp only [Act.put, List.setIfInBounds_toArray, List.set_cons_zero, List.set_cons_succ]; first | done | exact rfl), ?_⟩) | (refine wpx_st hS rfl _ _ _ rfl rfl _ _ rfl ?_; (first | refine ⟨0, _, rfl, ?_⟩ | refine ⟨1, _, rfl, ?_⟩ | refine ⟨2, _, rfl, ?_⟩ | refine ⟨3, _, rfl, ?_⟩ | refine ⟨4, _, rfl, ?_⟩ | refine ⟨5, _, rfl, ?_⟩ | refine ⟨6, _, rfl, ?_⟩ | refine ⟨7, _, rfl, ?_⟩ | refine ⟨8, _, rfl, ?_⟩ | refine ⟨9, _, rfl, ?_⟩); refine ⟨_, (by first | exact shA rfl | exact shI rfl | exact shB rfl | exact shS rfl | exact shP rfl | exact shF rfl | exact shN rfl), _, siz_any2 rfl, (by exact rfl), (by exact rfl), (by exact rfl), ?_⟩; clear hS; intro _ hS; dsimp only [blit, List.set, List.cons_append, List.nil_append, Value.cells, List.toList_toArray] at hS))
  first | go_end0 | ((try simp only [Exit.inBlock, Exit.then]); refine bodyPost_ret (results_none rfl _ _ _) rfl ?_)
  exact ⟨rfl, unhide HW6, (unhide HS).back3 i j k (unhide HI).1 (unhide HI).2.1 (unhide HI).2.2 hS⟩

set_option maxHeartbeats 4000000 in
theorem hLook_n (hS : Sx bs w0 w l e) (i j k : Nat) (hi : l[i]? = some (B, memL c C m)) (hj : l[j]? = some (C, rowW m.ws c.n)) (nx : Value) (hk : l[k]? = some (P, [.int .u64 (x : Nat), .int .u64 (s : Nat), nx])) (hij : i ≠ j) (hik : i ≠ k) (hjk : j ≠ k) (hr : c.r = true) (hw : WordsOk c m) (hx : Um.Word x) (hs : Um.Word s) (M : Um.Mm) (hM : M = Um.mtouch c m 1 4 (Um.penN x) 0 0) (h3 : Um.stN M.l.old ≠ 3) :
    Calls Try.prog 94 #[.pointer (some ⟨P, 0, none⟩), .pointer (some ⟨B, 0, none⟩)] w fun r w' => r = .returned (.tuple #[]) ∧ WordsOk c M ∧ Sx bs w0 w' (putL l [(i, B, memL c C M), (j, C, rowW M.ws c.n), (k, P, [.int .u64 (x : Nat), .int .u64 (M.l.old : Nat), .func (.func 97) #[] #[]])]) e := by
  have HS := hide hS
  have HI := hide (And.intro hi (And.intro hj hk))
  have hL := hS.enter3 i j k hi hj hk hij hik hjk
  have HR := hide hr
  have HW := hide hw
  have HM := hide hM
  have HX := hide hx
  have HSW := hide hs
  have hf0 := field_talS
  have hf1 := field_talP
  have hf2 := field_stat1
  have hf3 := field_stat2
  obtain ⟨hb0, hb1⟩ : -9223372036854775808 ≤ Um.penN x ∧ Um.penN x ≤ 9223372036854775807 := by have := Um.pen_bd x; omega
  have HB0 := hide hb0
  have HB1 := hide hb1
  clear hS hi hj hk hr hw hM hx hs hb0 hb1
  have hS := hL
  clear hL
  have HO := hide (show Um.Word (Um.mtouch c m 1 4 (Um.penN x) 0 0).l.old from Um.old_word (unhide HW))
  rw [← unhide HM] at HO
  have HST := hide h3
  clear h3
  go_enter Try.func94, Try.ntmps94
  go_wp2_with fail
  refine (hSpot_any (hS.get 2 rfl) (unhide HX) _).mono ?_
  rintro r u ⟨rfl, hb⟩
  replace hS := hS.call hb
  clear hb
  go_wp2_with fail
  refine (mLoad_x hS 0 1 rfl rfl (by decide) (unhide HR) (unhide HW) 4 (Um.penN x) (unhide HB0) (unhide HB1) M (unhide HM)).mono ?_
  rintro r u2 ⟨rfl, hW6, hSn⟩
  clear hS
  have hS := hSn
  have HW6 := hide hW6
  clear hSn hW6
  dsimp only [putL, List.set] at hS
  go_wp2_with (first | (refine wpx_box hS rfl _ _ rfl _ rfl _ (by intro _; simp only [Act.put, List.setIfInBounds_toArray, List.set_cons_zero, List.set_cons_succ]; first | done | exact rfl) ?_; clear hS; intro _ _ hS; dsimp only [blit, List.set, List.cons_append, List.nil_append, Value.cells, List.toList_toArray] at hS) | (refine wpx_alloc hS rfl _ rfl _ (zer_any2 rfl) _ (by intro _; simp only [Act.put, List.setIfInBounds_toArray, List.set_cons_zero, List.set_cons_succ]; first | done | exact rfl) ?_; clear hS; intro _ _ hS; dsimp only [blit, List.set, List.cons_append, List.nil_append, Value.cells, List.toList_toArray] at hS) | (refine wpx_ld hS rfl _ _ rfl _ _ rfl ?_; (first | refine ⟨0, _, rfl, ?_⟩ | refine ⟨1, _, rfl, ?_⟩ | refine ⟨2, _, rfl, ?_⟩ | refine ⟨3, _, rfl, ?_⟩ | refine ⟨4, _, rfl, ?_⟩ | refine ⟨5, _, rfl, ?_⟩ | refine ⟨6, _, rfl, ?_⟩ | refine ⟨7, _, rfl, ?_⟩ | refine ⟨8, _, rfl, ?_⟩ | refine ⟨9, _, rfl, ?_⟩); first | refine .inl ⟨_, one_any2 rfl, rfl, _, (by simp only [Act.put, List.setIfInBounds_toArray, List.set_cons_zero, List.set_cons_succ]; first | done | exact rfl), ?_⟩ | refine .inr ⟨_, _, row_any2 rfl, rfl, (by dsimp only [cutL, List.drop, List.take]; first | done | exact rfl), _, (by simp only [Act.put, List.setIfInBounds_toArray, List.set_cons_zero, List.set_cons_succ]; first | done | exact rfl), ?_⟩) | (refine wpx_st hS rfl _ _ _ rfl rfl _ _ rfl ?_; (first | refine ⟨0, _, rfl, ?_⟩ | refine ⟨1, _, rfl, ?_⟩ | refine ⟨2, _, rfl, ?_⟩ | refine ⟨3, _, rfl, ?_⟩ | refine ⟨4, _, rfl, ?_⟩ | refine ⟨5, _, rfl, ?_⟩ | refine ⟨6, _, rfl, ?_⟩ | refine ⟨7, _, rfl, ?_⟩ | refine ⟨8, _, rfl, ?_⟩ | refine ⟨9, _, rfl, ?_⟩); refine ⟨_, (by first | exact shA rfl | exact shI rfl | exact shB rfl | exact shS rfl | exact shP rfl | exact shF rfl | exact shN rfl), _, siz_any2 rfl, (by exact rfl), (by exact rfl), (by exact rfl), ?_⟩; clear hS; intro _ hS; dsimp only [blit, List.set, List.cons_append, List.nil_append, Value.cells, List.toList_toArray] at hS))
  refine (unpack_any M.l.old _ (unhide HO)).mono ?_
  rintro r u3 ⟨rfl, hb⟩
  replace hS := hS.call hb
  clear hb
  have h3 := unhide HST
  clear HST
  have hst3 : ¬ (Um.part M.l.old 27 3 = 3) := h3
  have hst4 : ¬ ((Um.part M.l.old 27 3 : Nat) : Int) = 3 := by omega
  have hst5 : (((Um.part M.l.old 27 3 : Nat) : Int) == 3) = false := by simpa using hst4
  go_wp2_with (first | (refine wpx_box hS rfl _ _ rfl _ rfl _ (by intro _; simp only [Act.put, List.setIfInBounds_toArray, List.set_cons_zero, List.set_cons_succ]; first | done | exact rfl) ?_; clear hS; intro _ _ hS; dsimp only [blit, List.set, List.cons_append, List.nil_append, Value.cells, List.toList_toArray] at hS) | (refine wpx_alloc hS rfl _ rfl _ (zer_any2 rfl) _ (by intro _; simp only [Act.put, List.setIfInBounds_toArray, List.set_cons_zero, List.set_cons_succ]; first | done | exact rfl) ?_; clear hS; intro _ _ hS; dsimp only [blit, List.set, List.cons_append, List.nil_append, Value.cells, List.toList_toArray] at hS) | (refine wpx_ld hS rfl _ _ rfl _ _ rfl ?_; (first | refine ⟨0, _, rfl, ?_⟩ | refine ⟨1, _, rfl, ?_⟩ | refine ⟨2, _, rfl, ?_⟩ | refine ⟨3, _, rfl, ?_⟩ | refine ⟨4, _, rfl, ?_⟩ | refine ⟨5, _, rfl, ?_⟩ | refine ⟨6, _, rfl, ?_⟩ | refine ⟨7, _, rfl, ?_⟩ | refine ⟨8, _, rfl, ?_⟩ | refine ⟨9, _, rfl, ?_⟩); first | refine .inl ⟨_, one_any2 rfl, rfl, _, (by simp only [Act.put, List.setIfInBounds_toArray, List.set_cons_zero, List.set_cons_succ]; first | done | exact rfl), ?_⟩ | refine .inr ⟨_, _, row_any2 rfl, rfl, (by dsimp only [cutL, List.drop, List.take]; first | done | exact rfl), _, (by simp only [Act.put, List.setIfInBounds_toArray, List.set_cons_zero, List.set_cons_succ]; first | done | exact rfl), ?_⟩) | (refine wpx_st hS rfl _ _ _ rfl rfl _ _ rfl ?_; (first | refine ⟨0, _, rfl, ?_⟩ | refine ⟨1, _, rfl, ?_⟩ | refine ⟨2, _, rfl, ?_⟩ | refine ⟨3, _, rfl, ?_⟩ | refine ⟨4, _, rfl, ?_⟩ | refine ⟨5, _, rfl, ?_⟩ | refine ⟨6, _, rfl, ?_⟩ | refine ⟨7, _, rfl, ?_⟩ | refine ⟨8, _, rfl, ?_⟩ | refine ⟨9, _, rfl, ?_⟩); refine ⟨_, (by first | exact shA rfl | exact shI rfl | exact shB rfl | exact shS rfl | exact shP rfl | exact shF rfl | exact shN rfl), _, siz_any2 rfl, (by exact rfl), (by exact rfl), (by exact rfl), ?_⟩; clear hS; intro _ hS; dsimp only [blit, List.set, List.cons_append, List.nil_append, Value.cells, List.toList_toArray] at hS))
  first | go_end0 | ((try simp only [Exit.inBlock, Exit.then]); refine bodyPost_ret (results_none rfl _ _ _) rfl ?_)
  exact ⟨rfl, unhide HW6, (unhide HS).back3 i j k (unhide HI).1 (unhide HI).2.1 (unhide HI).2.2 hS⟩

set_option maxHeartbeats 4000000 in
theorem hLay_t (hS : Sx bs w0 w l e) (i j k : Nat) (hi : l[i]? = some (B, memL c C m)) (hj : l[j]? = some (C, rowW m.ws c.n)) (nx : Value) (hk : l[k]? = some (P, [.int .u64 (x : Nat), .int .u64 (s : Nat), nx])) (hij : i ≠ j) (hik : i ≠ k) (hjk : j ≠ k) (hr : c.r = true) (hw : WordsOk c m) (hx : Um.Word x) (hs : Um.Word s) (M : Um.Mm) (hM : M = Um.mtouch c m 3 4 (Um.penN x) s (Um.comN s)) (hd : M.l.done = true) :
    Calls Try.prog 96 #[.pointer (some ⟨P, 0, none⟩), .pointer (some ⟨B, 0, none⟩)] w fun r w' => r = .returned (.tuple #[]) ∧ WordsOk c M ∧ Sx bs w0 w' (putL l [(i, B, memL c C M), (j, C, rowW M.ws c.n), (k, P, [.int .u64 (x : Nat), .int .u64 (s : Nat), .func (.func 97) #[] #[]])]) e := by
  have HS := hide hS
  have HI := hide (And.intro hi (And.intro hj hk))
  have hL := hS.enter3 i j k hi hj hk hij hik hjk
  have HR := hide hr
  have HW := hide hw
  have HM := hide hM
  have HX := hide hx
  have HSW := hide hs
  have hf0 := field_talS
  have hf1 := field_talP
  have hf2 := field_stat1
  have hf3 := field_stat2
  obtain ⟨hb0, hb1⟩ : -9223372036854775808 ≤ Um.penN x ∧ Um.penN x ≤ 9223372036854775807 := by have := Um.pen_bd x; omega
  have HB0 := hide hb0
  have HB1 := hide hb1
  clear hS hi hj hk hr hw hM hx hs hb0 hb1
  have hS := hL
  clear hL
  have k0 := fun w' (h : BlkAt w' P [.int .u64 (x : Nat), .int .u64 (s : Nat), nx]) => h.cell 0 _ rfl
  have k1 := fun w' (h : BlkAt w' P [.int .u64 (x : Nat), .int .u64 (s : Nat), nx]) => h.cell 1 _ rfl
  have k1s := (hS.get 2 rfl).cell 1 _ rfl
  have HP := hide (hS.get 2 rfl)
  have HD := hide hd
  clear hd
  go_enter Try.func96, Try.ntmps96
  go_wp2_with fail
  refine (unpack_any s _ (unhide HSW)).mono ?_
  rintro r u ⟨rfl, hb⟩
  replace hS := hS.call hb
  clear hb k1s HP
  have HP := hide (hS.get 2 rfl)
  go_wp2_with fail
  have HS3 := hide hS
  clear hS
  go_region_held3 (fun w' => BlkAt w' P [.int .u64 (x : Nat), .int .u64 (s : Nat), nx]) (first | exact (unhide HP).drew | exact BlkAt.below (by assumption) (by assumption) | assumption) (first | (go_at_call 93; refine (hSpot_any (by assumption) (unhide HX) _).mono ?_; rintro e u5 ⟨rfl, hb5⟩) | (go_at_call 77; refine (same_below (move_any s 4 (s.testBit 26) _ (unhide HSW))).mono ?_; rintro e u6 ⟨rfl, hb6⟩) | (go_at_call 76; refine (mSwap_x (((unhide HS3).undrew hb5).call hb6) 0 1 rfl rfl (by decide) (unhide HR) (unhide HW) 4 (Um.penN x) s (Um.comN s) (Um.com_word (unhide HSW)) (unhide HB0) (unhide HB1) M (unhide HM)).mono ?_; rintro e u7 ⟨rfl, hW6, hS6⟩; have hP6 := hS6.get 2 rfl))
  have hS := hS6
  have HW6 := hide hW6
  clear hS6 hP6 hW6 k0 k1 HS3
  dsimp only [putL, List.set] at hS
  simp only [unhide HD]
  clear HD
  go_wp2_with (first | (refine wpx_box hS rfl _ _ rfl _ rfl _ (by intro _; simp only [Act.put, List.setIfInBounds_toArray, List.set_cons_zero, List.set_cons_succ]; first | done | exact rfl) ?_; clear hS; intro _ _ hS; dsimp only [blit, List.set, List.cons_append, List.nil_append, Value.cells, List.toList_toArray] at hS) | (refine wpx_alloc hS rfl _ rfl _ (zer_any2 rfl) _ (by intro _; simp only [Act.put, List.setIfInBounds_toArray, List.set_cons_zero, List.set_cons_succ]; first | done | exact rfl) ?_; clear hS; intro _ _ hS; dsimp only [blit, List.set, List.cons_append, List.nil_append, Value.cells, List.toList_toArray] at hS) | (refine wpx_ld hS rfl _ _ rfl _ _ rfl ?_; (first | refine ⟨0, _, rfl, ?_⟩ | refine ⟨1, _, rfl, ?_⟩ | refine ⟨2, _, rfl, ?_⟩ | refine ⟨3, _, rfl, ?_⟩ | refine ⟨4, _, rfl, ?_⟩ | refine ⟨5, _, rfl, ?_⟩ | refine ⟨6, _, rfl, ?_⟩ | refine ⟨7, _, rfl, ?_⟩ | refine ⟨8, _, rfl, ?_⟩ | refine ⟨9, _, rfl, ?_⟩); first | refine .inl ⟨_, one_any2 rfl, rfl, _, (by simp only [Act.put, List.setIfInBounds_toArray, List.set_cons_zero, List.set_cons_succ]; first | done | exact rfl), ?_⟩ | refine .inr ⟨_, _, row_any2 rfl, rfl, (by dsimp only [cutL, List.drop, List.take]; first | done | exact rfl), _, (by simp only [Act.put, List.setIfInBounds_toArray, List.set_cons_zero, List.set_cons_succ]; first | done | exact rfl), ?_⟩) | (refine wpx_st hS rfl _ _ _ rfl rfl _ _ rfl ?_; (first | refine ⟨0, _, rfl, ?_⟩ | refine ⟨1, _, rfl, ?_⟩ | refine ⟨2, _, rfl, ?_⟩ | refine ⟨3, _, rfl, ?_⟩ | refine ⟨4, _, rfl, ?_⟩ | refine ⟨5, _, rfl, ?_⟩ | refine ⟨6, _, rfl, ?_⟩ | refine ⟨7, _, rfl, ?_⟩ | refine ⟨8, _, rfl, ?_⟩ | refine ⟨9, _, rfl, ?_⟩); refine ⟨_, (by first | exact shA rfl | exact shI rfl | exact shB rfl | exact shS rfl | exact shP rfl | exact shF rfl | exact shN rfl), _, siz_any2 rfl, (by exact rfl), (by exact rfl), (by exact rfl), ?_⟩; clear hS; intro _ hS; dsimp only [blit, List.set, List.cons_append, List.nil_append, Value.cells, List.toList_toArray] at hS))
  first | go_end0 | ((try simp only [Exit.inBlock, Exit.then]); refine bodyPost_ret (results_none rfl _ _ _) rfl ?_)
  exact ⟨rfl, unhide HW6, (unhide HS).back3 i j k (unhide HI).1 (unhide HI).2.1 (unhide HI).2.2 hS⟩

set_option maxHeartbeats 4000000 in
theorem hLay_f (hS : Sx bs w0 w l e) (i j k : Nat) (hi : l[i]? = some (B, memL c C m)) (hj : l[j]? = some (C, rowW m.ws c.n)) (nx : Value) (hk : l[k]? = some (P, [.int .u64 (x : Nat), .int .u64 (s : Nat), nx])) (hij : i ≠ j) (hik : i ≠ k) (hjk : j ≠ k) (hr : c.r = true) (hw : WordsOk c m) (hx : Um.Word x) (hs : Um.Word s) (M : Um.Mm) (hM : M = Um.mtouch c m 3 4 (Um.penN x) s (Um.comN s)) (hd : M.l.done = false) :
    Calls Try.prog 96 #[.pointer (some ⟨P, 0, none⟩), .pointer (some ⟨B, 0, none⟩)] w fun r w' => r = .returned (.tuple #[]) ∧ WordsOk c M ∧ Sx bs w0 w' (putL l [(i, B, memL c C M), (j, C, rowW M.ws c.n), (k, P, [.int .u64 (x : Nat), .int .u64 (s : Nat), .func (.func 94) #[] #[]])]) e := by
  have HS := hide hS
  have HI := hide (And.intro hi (And.intro hj hk))
  have hL := hS.enter3 i j k hi hj hk hij hik hjk
  have HR := hide hr
  have HW := hide hw
  have HM := hide hM
  have HX := hide hx
  have HSW := hide hs
  have hf0 := field_talS
  have hf1 := field_talP
  have hf2 := field_stat1
  have hf3 := field_stat2
  obtain ⟨hb0, hb1⟩ : -9223372036854775808 ≤ Um.penN x ∧ Um.penN x ≤ 9223372036854775807 := by have := Um.pen_bd x; omega
  have HB0 := hide hb0
  have HB1 := hide hb1
  clear hS hi hj hk hr hw hM hx hs hb0 hb1
  have hS := hL
  clear hL
  have k0 := fun w' (h : BlkAt w' P [.int .u64 (x : Nat), .int .u64 (s : Nat), nx]) => h.cell 0 _ rfl
  have k1 := fun w' (h : BlkAt w' P [.int .u64 (x : Nat), .int .u64 (s : Nat), nx]) => h.cell 1 _ rfl
  have k1s := (hS.get 2 rfl).cell 1 _ rfl
  have HP := hide (hS.get 2 rfl)
  have HD := hide hd
  clear hd
  go_enter Try.func96, Try.ntmps96
  go_wp2_with fail
  refine (unpack_any s _ (unhide HSW)).mono ?_
  rintro r u ⟨rfl, hb⟩
  replace hS := hS.call hb
  clear hb k1s HP
  have HP := hide (hS.get 2 rfl)
  go_wp2_with fail
  have HS3 := hide hS
  clear hS
  go_region_held3 (fun w' => BlkAt w' P [.int .u64 (x : Nat), .int .u64 (s : Nat), nx]) (first | exact (unhide HP).drew | exact BlkAt.below (by assumption) (by assumption) | assumption) (first | (go_at_call 93; refine (hSpot_any (by assumption) (unhide HX) _).mono ?_; rintro e u5 ⟨rfl, hb5⟩) | (go_at_call 77; refine (same_below (move_any s 4 (s.testBit 26) _ (unhide HSW))).mono ?_; rintro e u6 ⟨rfl, hb6⟩) | (go_at_call 76; refine (mSwap_x (((unhide HS3).undrew hb5).call hb6) 0 1 rfl rfl (by decide) (unhide HR) (unhide HW) 4 (Um.penN x) s (Um.comN s) (Um.com_word (unhide HSW)) (unhide HB0) (unhide HB1) M (unhide HM)).mono ?_; rintro e u7 ⟨rfl, hW6, hS6⟩; have hP6 := hS6.get 2 rfl))
  have hS := hS6
  have HW6 := hide hW6
  clear hS6 hP6 hW6 k0 k1 HS3
  dsimp only [putL, List.set] at hS
  simp only [unhide HD]
  clear HD
  go_wp2_with (first | (refine wpx_box hS rfl _ _ rfl _ rfl _ (by intro _; simp only [Act.put, List.setIfInBounds_toArray, List.set_cons_zero, List.set_cons_succ]; first | done | exact rfl) ?_; clear hS; intro _ _ hS; dsimp only [blit, List.set, List.cons_append, List.nil_append, Value.cells, List.toList_toArray] at hS) | (refine wpx_alloc hS rfl _ rfl _ (zer_any2 rfl) _ (by intro _; simp only [Act.put, List.setIfInBounds_toArray, List.set_cons_zero, List.set_cons_succ]; first | done | exact rfl) ?_; clear hS; intro _ _ hS; dsimp only [blit, List.set, List.cons_append, List.nil_append, Value.cells, List.toList_toArray] at hS) | (refine wpx_ld hS rfl _ _ rfl _ _ rfl ?_; (first | refine ⟨0, _, rfl, ?_⟩ | refine ⟨1, _, rfl, ?_⟩ | refine ⟨2, _, rfl, ?_⟩ | refine ⟨3, _, rfl, ?_⟩ | refine ⟨4, _, rfl, ?_⟩ | refine ⟨5, _, rfl, ?_⟩ | refine ⟨6, _, rfl, ?_⟩ | refine ⟨7, _, rfl, ?_⟩ | refine ⟨8, _, rfl, ?_⟩ | refine ⟨9, _, rfl, ?_⟩); first | refine .inl ⟨_, one_any2 rfl, rfl, _, (by simp only [Act.put, List.setIfInBounds_toArray, List.set_cons_zero, List.set_cons_succ]; first | done | exact rfl), ?_⟩ | refine .inr ⟨_, _, row_any2 rfl, rfl, (by dsimp only [cutL, List.drop, List.take]; first | done | exact rfl), _, (by simp only [Act.put, List.setIfInBounds_toArray, List.set_cons_zero, List.set_cons_succ]; first | done | exact rfl), ?_⟩) | (refine wpx_st hS rfl _ _ _ rfl rfl _ _ rfl ?_; (first | refine ⟨0, _, rfl, ?_⟩ | refine ⟨1, _, rfl, ?_⟩ | refine ⟨2, _, rfl, ?_⟩ | refine ⟨3, _, rfl, ?_⟩ | refine ⟨4, _, rfl, ?_⟩ | refine ⟨5, _, rfl, ?_⟩ | refine ⟨6, _, rfl, ?_⟩ | refine ⟨7, _, rfl, ?_⟩ | refine ⟨8, _, rfl, ?_⟩ | refine ⟨9, _, rfl, ?_⟩); refine ⟨_, (by first | exact shA rfl | exact shI rfl | exact shB rfl | exact shS rfl | exact shP rfl | exact shF rfl | exact shN rfl), _, siz_any2 rfl, (by exact rfl), (by exact rfl), (by exact rfl), ?_⟩; clear hS; intro _ hS; dsimp only [blit, List.set, List.cons_append, List.nil_append, Value.cells, List.toList_toArray] at hS))
  first | go_end0 | ((try simp only [Exit.inBlock, Exit.then]); refine bodyPost_ret (results_none rfl _ _ _) rfl ?_)
  exact ⟨rfl, unhide HW6, (unhide HS).back3 i j k (unhide HI).1 (unhide HI).2.1 (unhide HI).2.2 hS⟩

set_option maxHeartbeats 4000000 in
theorem hSettle_x (hS : Sx bs w0 w l e) (i j k : Nat) (hi : l[i]? = some (B, memL c C m)) (hj : l[j]? = some (C, rowW m.ws c.n)) (nx : Value) (hk : l[k]? = some (P, [.int .u64 (x : Nat), .int .u64 (s : Nat), nx])) (hij : i ≠ j) (hik : i ≠ k) (hjk : j ≠ k) (hr : c.r = true) (hw : WordsOk c m) (hx : Um.Word x) (hs : Um.Word s) (M : Um.Mm) (hM : M = Um.mtouch c m 3 1 0 x (Um.setlN x)) :
    Calls Try.prog 97 #[.pointer (some ⟨P, 0, none⟩), .pointer (some ⟨B, 0, none⟩)] w fun r w' => r = .returned (.tuple #[]) ∧ WordsOk c M ∧ Sx bs w0 w' (putL l [(i, B, memL c C M), (j, C, rowW M.ws c.n), (k, P, [.int .u64 (x : Nat), .int .u64 (s : Nat), .nilFunc])]) e := by
  have HS := hide hS
  have HI := hide (And.intro hi (And.intro hj hk))
  have hL := hS.enter3 i j k hi hj hk hij hik hjk
  have HR := hide hr
  have HW := hide hw
  have HM := hide hM
  have HX := hide hx
  have HSW := hide hs
  have hf0 := field_talS
  have hf1 := field_talP
  have hf2 := field_stat1
  have hf3 := field_stat2
  obtain ⟨hb0, hb1⟩ : -9223372036854775808 ≤ Um.penN x ∧ Um.penN x ≤ 9223372036854775807 := by have := Um.pen_bd x; omega
  have HB0 := hide hb0
  have HB1 := hide hb1
  clear hS hi hj hk hr hw hM hx hs hb0 hb1
  have hS := hL
  clear hL
  have k0 := fun w' (h : BlkAt w' P [.int .u64 (x : Nat), .int .u64 (s : Nat), nx]) => h.cell 0 _ rfl
  have k1 := fun w' (h : BlkAt w' P [.int .u64 (x : Nat), .int .u64 (s : Nat), nx]) => h.cell 1 _ rfl
  have HP := hide (hS.get 2 rfl)
  go_enter Try.func97, Try.ntmps97
  go_wp2_with fail
  have HS3 := hide hS
  clear hS
  go_region_held3 (fun w' => BlkAt w' P [.int .u64 (x : Nat), .int .u64 (s : Nat), nx]) (first | exact (unhide HP).drew | exact BlkAt.below (by assumption) (by assumption) | assumption) (first | (go_at_call 88; refine (same_below (tSettled_any x _ (unhide HX))).mono ?_; rintro e u5 ⟨rfl, hb5⟩) | (go_at_call 76; refine (mSwap_x ((unhide HS3).undrew hb5) 0 1 rfl rfl (by decide) (unhide HR) (unhide HW) 1 0 x (Um.setlN x) (Um.setl_word (unhide HX)) (by decide) (by decide) M (unhide HM)).mono ?_; rintro e u7 ⟨rfl, hW6, hS6⟩; have hP6 := hS6.get 2 rfl))
  have hS := hS6
  have HW6 := hide hW6
  clear hS6 hP6 hW6 k0 k1 HS3
  dsimp only [putL, List.set] at hS
  go_wp2_with (first | (refine wpx_box hS rfl _ _ rfl _ rfl _ (by intro _; simp only [Act.put, List.setIfInBounds_toArray, List.set_cons_zero, List.set_cons_succ]; first | done | exact rfl) ?_; clear hS; intro _ _ hS; dsimp only [blit, List.set, List.cons_append, List.nil_append, Value.cells, List.toList_toArray] at hS) | (refine wpx_alloc hS rfl _ rfl _ (zer_any2 rfl) _ (by intro _; simp only [Act.put, List.setIfInBounds_toArray, List.set_cons_zero, List.set_cons_succ]; first | done | exact rfl) ?_; clear hS; intro _ _ hS; dsimp only [blit, List.set, List.cons_append, List.nil_append, Value.cells, List.toList_toArray] at hS) | (refine wpx_ld hS rfl _ _ rfl _ _ rfl ?_; (first | refine ⟨0, _, rfl, ?_⟩ | refine ⟨1, _, rfl, ?_⟩ | refine ⟨2, _, rfl, ?_⟩ | refine ⟨3, _, rfl, ?_⟩ | refine ⟨4, _, rfl, ?_⟩ | refine ⟨5, _, rfl, ?_⟩ | refine ⟨6, _, rfl, ?_⟩ | refine ⟨7, _, rfl, ?_⟩ | refine ⟨8, _, rfl, ?_⟩ | refine ⟨9, _, rfl, ?_⟩); first | refine .inl ⟨_, one_any2 rfl, rfl, _, (by simp only [Act.put, List.setIfInBounds_toArray, List.set_cons_zero, List.set_cons_succ]; first | done | exact rfl), ?_⟩ | refine .inr ⟨_, _, row_any2 rfl, rfl, (by dsimp only [cutL, List.drop, List.take]; first | done | exact rfl), _, (by simp only [Act.put, List.setIfInBounds_toArray, List.set_cons_zero, List.set_cons_succ]; first | done | exact rfl), ?_⟩) | (refine wpx_st hS rfl _ _ _ rfl rfl _ _ rfl ?_; (first | refine ⟨0, _, rfl, ?_⟩ | refine ⟨1, _, rfl, ?_⟩ | refine ⟨2, _, rfl, ?_⟩ | refine ⟨3, _, rfl, ?_⟩ | refine ⟨4, _, rfl, ?_⟩ | refine ⟨5, _, rfl, ?_⟩ | refine ⟨6, _, rfl, ?_⟩ | refine ⟨7, _, rfl, ?_⟩ | refine ⟨8, _, rfl, ?_⟩ | refine ⟨9, _, rfl, ?_⟩); refine ⟨_, (by first | exact shA rfl | exact shI rfl | exact shB rfl | exact shS rfl | exact shP rfl | exact shF rfl | exact shN rfl), _, siz_any2 rfl, (by exact rfl), (by exact rfl), (by exact rfl), ?_⟩; clear hS; intro _ hS; dsimp only [blit, List.set, List.cons_append, List.nil_append, Value.cells, List.toList_toArray] at hS))
  first | go_end0 | ((try simp only [Exit.inBlock, Exit.then]); refine bodyPost_ret (results_none rfl _ _ _) rfl ?_)
  exact ⟨rfl, unhide HW6, (unhide HS).back3 i j k (unhide HI).1 (unhide HI).2.1 (unhide HI).2.2 hS⟩

end

end Go.Proofs.Ytkiaogbddfjkkaa
