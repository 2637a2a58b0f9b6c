/-
  Texts that the laws stand on, merged (StoreX1, StoreX2, StoreX3, StoreZ, StoreZ2, BlkR, HelpMath5, OpenMath2, OpenMath3, OpenMath4, OpenMath5, OpenMath6, GateMath, GateMath2, JoinMath, JoinMath2, JoinMath3).
-/
import Derived.Test.YtcpmclidndmgeaaM3
import Derived.Test.YtcpmclidndmgeaaM4
import Derived.Test.YtcpmclidndmgeaaM5
import Derived.Test.YtcpmclidndmgeaaM8
import Derived.Lib.QuietBelow

/-
  The walk of the document's own load.
-/
namespace Go.Proofs.Ytcpmclidndmgeaa
set_option maxRecDepth 100000
open Go.RowKit Go.Sort

set_option maxHeartbeats 8000000 in
theorem rLoad_any (c : Um.Cf) (v : Value) (m M : Um.Mm) (a b : Int) (w : World) (hr : c.r = true) (hv : IsWords w v c.n m.ws) (hM : M = Um.mtouch c m 1 a b 0 0) :
    Calls Try.prog 42 #[.agg #[.int .i64 c.t, .int .i64 c.s, .int .i64 c.k, .int .i64 c.g, .int .u64 c.q, v, .int .i64 m.cnt, .int .i64 m.l.kind, .int .i64 m.l.a, .int .i64 m.l.b, .int .u64 (m.l.old : Nat), .int .u64 (m.l.new : Nat), .bool m.l.done], .int .i64 a, .int .i64 b] w fun e W' =>
      ∃ v', e = .returned (.tuple #[.agg #[.int .i64 c.t, .int .i64 c.s, .int .i64 c.k, .int .i64 c.g, .int .u64 c.q, v', .int .i64 M.cnt, .int .i64 M.l.kind, .int .i64 M.l.a, .int .i64 M.l.b, .int .u64 (M.l.old : Nat), .int .u64 (M.l.new : Nat), .bool M.l.done], .int .u64 (M.l.old : Nat)]) ∧ IsWords W' v' c.n M.ws ∧ (v' = v ∨ RFresh w W' v' c.n M.ws) ∧ Below w.heap.size w W' := by
  have hn0 : 0 < c.n := by have := Um.Cf.n_pos hr; omega
  have HWD := hide (show ∀ j, j < c.n → Um.Word (M.ws j) by rw [hM]; exact Um.word_touch (words_word hv) (by unfold Um.Word; omega))
  have hT := fun w hv => rTouch_any c v m M 1 a b 0 0 w hr hv (by unfold Um.Word; omega) (.inl rfl) hM
  have HV := hide hv
  have HT := hide hT
  obtain ⟨sv, cap, rfl⟩ := words_len hv
  clear hv hT hM
  have hS := St.new w
  go_enter Try.func42, Try.ntmps42
  go_wp2_with (first | (refine wpl_box hS rfl _ _ rfl _ rfl _ (by intro _; simp only [Act.put, List.setIfInBounds_toArray, List.set_cons_zero, List.set_cons_succ]; first | done | exact rfl) ?_; clear hS; intro _ _ hS; dsimp only [blit, List.set, List.cons_append, List.nil_append, Value.cells, List.toList_toArray] at hS) | (refine wpl_alloc hS rfl _ rfl _ (zer_any rfl) _ (by intro _; simp only [Act.put, List.setIfInBounds_toArray, List.set_cons_zero, List.set_cons_succ]; first | done | exact rfl) ?_; clear hS; intro _ _ hS; dsimp only [blit, List.set, List.cons_append, List.nil_append, Value.cells, List.toList_toArray] at hS) | (refine wpl_ld hS rfl _ _ rfl _ _ rfl ?_; (first | refine ⟨0, _, rfl, ?_⟩ | refine ⟨1, _, rfl, ?_⟩ | refine ⟨2, _, rfl, ?_⟩ | refine ⟨3, _, rfl, ?_⟩ | refine ⟨4, _, rfl, ?_⟩ | refine ⟨5, _, rfl, ?_⟩ | refine ⟨6, _, rfl, ?_⟩ | refine ⟨7, _, rfl, ?_⟩ | refine ⟨8, _, rfl, ?_⟩ | refine ⟨9, _, rfl, ?_⟩); first | refine .inl ⟨_, one_any rfl, rfl, _, (by simp only [Act.put, List.setIfInBounds_toArray, List.set_cons_zero, List.set_cons_succ]; first | done | exact rfl), ?_⟩ | refine .inr ⟨_, _, row_any rfl, rfl, (by dsimp only [cutL, List.drop, List.take]; first | done | exact rfl), _, (by simp only [Act.put, List.setIfInBounds_toArray, List.set_cons_zero, List.set_cons_succ]; first | done | exact rfl), ?_⟩) | (refine wpl_st hS rfl _ _ _ rfl rfl _ _ rfl ?_; (first | refine ⟨0, _, rfl, ?_⟩ | refine ⟨1, _, rfl, ?_⟩ | refine ⟨2, _, rfl, ?_⟩ | refine ⟨3, _, rfl, ?_⟩ | refine ⟨4, _, rfl, ?_⟩ | refine ⟨5, _, rfl, ?_⟩ | refine ⟨6, _, rfl, ?_⟩ | refine ⟨7, _, rfl, ?_⟩ | refine ⟨8, _, rfl, ?_⟩ | refine ⟨9, _, rfl, ?_⟩); refine ⟨_, (by first | exact shA rfl | exact shI rfl | exact shB rfl | exact shS rfl | exact shP rfl | exact shF rfl | exact shN rfl), _, siz_any rfl, (by exact rfl), (by exact rfl), (by exact rfl), ?_⟩; clear hS; intro _ hS; dsimp only [blit, List.set, List.cons_append, List.nil_append, Value.cells, List.toList_toArray] at hS))
  rename_i B _ R X _ _
  refine wp_region_og (I := fun D a' w' => ∃ (bA bT : Nat) (v' : Value) (G : List (Nat × List Value)), a' = ⟨#[.agg #[.int .i64 c.t, .int .i64 c.s, .int .i64 c.k, .int .i64 c.g, .int .u64 c.q, .slice sv c.n cap, .int .i64 m.cnt, .int .i64 m.l.kind, .int .i64 m.l.a, .int .i64 m.l.b, .int .u64 (m.l.old : Nat), .int .u64 (m.l.new : Nat), .bool m.l.done], .int .i64 a, .int .i64 b, .pointer (some ⟨B, 0, none⟩), undef, undef, .pointer (some ⟨R, 0, none⟩), .int .u64 0, (cond (D 8) (.pointer (some ⟨bA, 0, none⟩)) undef), (cond (D 9) (.pointer (some ⟨bT, 0, none⟩)) undef), (cond (D 5) (.tuple #[.agg #[.int .i64 c.t, .int .i64 c.s, .int .i64 c.k, .int .i64 c.g, .int .u64 c.q, v', .int .i64 M.cnt, .int .i64 M.l.kind, .int .i64 M.l.a, .int .i64 M.l.b, .int .u64 (M.l.old : Nat), .int .u64 (M.l.new : Nat), .bool M.l.done], .agg #[.int .i64 M.l.kind, .int .i64 M.l.a, .int .i64 M.l.b, .int .u64 (M.l.old : Nat), .int .u64 (M.l.new : Nat), .bool M.l.done]]) undef), (cond (D 0) (.agg #[.int .i64 c.t, .int .i64 c.s, .int .i64 c.k, .int .i64 c.g, .int .u64 c.q, .slice sv c.n cap, .int .i64 m.cnt, .int .i64 m.l.kind, .int .i64 m.l.a, .int .i64 m.l.b, .int .u64 (m.l.old : Nat), .int .u64 (m.l.new : Nat), .bool m.l.done]) undef), (cond (D 1) (.int .i64 a) undef), (cond (D 2) (.int .i64 b) undef), (cond (D 3) (.agg #[.int .i64 a, .int .i64 b]) undef), (cond (D 4) (.tuple #[.agg #[.int .i64 c.t, .int .i64 c.s, .int .i64 c.k, .int .i64 c.g, .int .u64 c.q, v', .int .i64 M.cnt, .int .i64 M.l.kind, .int .i64 M.l.a, .int .i64 M.l.b, .int .u64 (M.l.old : Nat), .int .u64 (M.l.new : Nat), .bool M.l.done], .agg #[.int .i64 M.l.kind, .int .i64 M.l.a, .int .i64 M.l.b, .int .u64 (M.l.old : Nat), .int .u64 (M.l.new : Nat), .bool M.l.done]]) undef), (cond (D 6) (.agg #[.int .i64 c.t, .int .i64 c.s, .int .i64 c.k, .int .i64 c.g, .int .u64 c.q, v', .int .i64 M.cnt, .int .i64 M.l.kind, .int .i64 M.l.a, .int .i64 M.l.b, .int .u64 (M.l.old : Nat), .int .u64 (M.l.new : Nat), .bool M.l.done]) undef), (cond (D 7) (.agg #[.int .i64 M.l.kind, .int .i64 M.l.a, .int .i64 M.l.b, .int .u64 (M.l.old : Nat), .int .u64 (M.l.new : Nat), .bool M.l.done]) undef), undef, undef, undef], []⟩ ∧ (D 4 = true → ((v' = .slice sv c.n cap ∧ G = [] ∧ IsWords w (.slice sv c.n cap) c.n M.ws) ∨ ∃ g' cg, v' = .slice (some ⟨g', 0, none⟩) c.n cg ∧ c.n ≤ cg ∧ cg ≤ maxLen ∧ G = [(g', rowW M.ws c.n)])) ∧ (D 4 = false → G = []) ∧ (D 5 = true → D 4 = true) ∧ (D 6 = true → D 4 = true) ∧ (D 10 = true → D 4 = true) ∧ (D 10 = true → D 8 = true) ∧ (D 11 = true → D 9 = true) ∧ St w w' ([(B, [.int .i64 c.t, .int .i64 c.s, .int .i64 c.k, .int .i64 c.g, .int .u64 c.q, .slice sv c.n cap, .int .i64 m.cnt, .int .i64 m.l.kind, .int .i64 m.l.a, .int .i64 m.l.b, .int .u64 (m.l.old : Nat), .int .u64 (m.l.new : Nat), .bool m.l.done]), (R, [.int .i64 0, .int .i64 0, .int .i64 0, .int .i64 0, .int .u64 0, .slice none 0 0, .int .i64 0, .int .i64 0, .int .i64 0, .int .i64 0, .int .u64 0, .int .u64 0, .bool false])] ++ G ++ cond (D 8) [(bA, cond (D 10) [.int .i64 c.t, .int .i64 c.s, .int .i64 c.k, .int .i64 c.g, .int .u64 c.q, v', .int .i64 M.cnt, .int .i64 M.l.kind, .int .i64 M.l.a, .int .i64 M.l.b, .int .u64 (M.l.old : Nat), .int .u64 (M.l.new : Nat), .bool M.l.done] [.int .i64 0, .int .i64 0, .int .i64 0, .int .i64 0, .int .u64 0, .slice none 0 0, .int .i64 0, .int .i64 0, .int .i64 0, .int .i64 0, .int .u64 0, .int .u64 0, .bool false])] [] ++ cond (D 9) [(bT, cond (D 11) [.int .i64 M.l.kind, .int .i64 M.l.a, .int .i64 M.l.b, .int .u64 (M.l.old : Nat), .int .u64 (M.l.new : Nat), .bool M.l.done] [.int .i64 0, .int .i64 0, .int .i64 0, .int .u64 0, .int .u64 0, .bool false])] [])) (by kernel_rfl) ?acyc ?start ?steps ?ends
  case acyc =>
    intro i o hi e he hb
    exact og_acyc (by kernel_rfl) hi he hb
  case start => exact ⟨0, 0, .nilIface, [], rfl, (fun h => by cases h), (fun _ => rfl), (fun h => by cases h), (fun h => by cases h), (fun h => by cases h), (fun h => by cases h), (fun h => by cases h), hS.drew⟩
  case steps =>
    intro i o hi D a' w' hD hpre hI
    obtain ⟨bA, bT, v', G, rfl, hRel, hG, hcM, hcX, hcS, hcA, hcT, hS⟩ := hI
    match i, hi with
    | 0, hi =>
      cases hi
      refine wpOp_step rfl (fun K hK => ?_)
      refine stp_val rfl (yif_load (S := fun q => q = w') rfl _ _ rfl _ _ rfl _ (fun _ h => h ▸ hS.get 0 rfl) _ row_rmem (by exact rfl) _ (by dsimp only [cutL, List.drop, List.take]; first | done | exact rfl)) rfl ?_
      exact hK _ _ ⟨bA, bT, v', G, rfl, hRel, hG, hcM, hcX, hcS, hcA, hcT, hS⟩
    | 1, hi =>
      cases hi
      refine wpOp_step rfl (fun K hK => ?_)
      refine stp_val rfl (by exact yif_moveI rfl _ (.inl rfl) _ _ rfl) rfl ?_
      exact hK _ _ ⟨bA, bT, v', G, rfl, hRel, hG, hcM, hcX, hcS, hcA, hcT, hS⟩
    | 2, hi =>
      cases hi
      refine wpOp_step rfl (fun K hK => ?_)
      refine stp_val rfl (by exact yif_moveI rfl _ (.inl rfl) _ _ rfl) rfl ?_
      exact hK _ _ ⟨bA, bT, v', G, rfl, hRel, hG, hcM, hcX, hcS, hcA, hcT, hS⟩
    | 3, hi =>
      cases hi
      have d1 : D 1 = true := og_pre hpre (j := 1) (by kernel_rfl)
      have d2 : D 2 = true := og_pre hpre (j := 2) (by kernel_rfl)
      refine wpOp_step rfl (fun K hK => ?_)
      refine stp_call rfl _ _ _ rfl egSp _ (list2_eq (cond_at d1 rfl) (cond_at d2 rfl)) _ rfl ?_
      refine (rSpot_any _ _ _).mono ?_
      rintro e u ⟨rfl, hb⟩
      exact ⟨_, rfl, hK _ _ ⟨bA, bT, v', G, rfl, hRel, hG, hcM, hcX, hcS, hcA, hcT, hS.call hb⟩⟩
    | 4, hi =>
      cases hi
      have d0 : D 0 = true := og_pre hpre (j := 0) (by kernel_rfl)
      have d3 : D 3 = true := og_pre hpre (j := 3) (by kernel_rfl)
      refine wpOp_step rfl (fun K hK => ?_)
      refine stp_call rfl _ _ _ rfl egTo _ (list5_eq (cond_at d0 rfl) rfl (cond_at d3 rfl) rfl rfl) _ rfl ?_
      refine ((unhide HT) _ (((unhide HV).low.below hS.bel).is hS.bel.size)).mono ?_
      rintro e w4 ⟨vn, rfl, hI, hF, hb⟩
      obtain rfl := hG hD
      have m0 := og_not hcM hD
      have x0 := og_not hcX hD
      have z0 := og_not hcS hD
      refine ⟨_, rfl, ?_⟩
      rcases hF with rfl | ⟨g', cg, rfl, lg, hc1, hc2, hGb⟩
      · exact hK _ _ ⟨bA, bT, _, [], (by simp only [m0, x0]; rfl), (fun _ => .inl ⟨rfl, rfl, words_back (unhide HV) hI (hS.call hb).bel (Below.refl _ _)⟩), (fun _ => rfl), (fun _ => rfl), (fun _ => rfl), (fun _ => rfl), hcA, hcT, (by have h := hS.call hb; rw [z0] at h; show St w w4 (_ ++ _ ++ cond (D 8) [(bA, cond (D 10) _ _)] _ ++ _); rw [z0]; exact h)⟩
      · exact hK _ _ ⟨bA, bT, _, [(g', rowW M.ws c.n)], (by simp only [m0, x0]; rfl), (fun _ => .inr ⟨g', cg, rfl, hc1, hc2, rfl⟩), (fun h => by cases h), (fun _ => rfl), (fun _ => rfl), (fun _ => rfl), hcA, hcT, (by have h := hS.add hb hGb lg; rw [z0] at h; show St w w4 (_ ++ _ ++ cond (D 8) [(bA, cond (D 10) _ _)] _ ++ _); rw [z0]; exact h.perm (perm_last _))⟩
    | 5, hi =>
      cases hi
      have d4 : D 4 = true := og_pre hpre (j := 4) (by kernel_rfl)
      refine wpOp_step rfl (fun K hK => ?_)
      refine stp_val rfl (by exact yif_mv rfl (.tmp 15) rfl _ (cond_at d4 rfl)) rfl ?_
      exact hK _ _ ⟨bA, bT, v', G, rfl, hRel, hG, (fun _ => d4), hcX, hcS, hcA, hcT, hS⟩
    | 6, hi =>
      cases hi
      have d5 : D 5 = true := og_pre hpre (j := 5) (by kernel_rfl)
      refine wpOp_step rfl (fun K hK => ?_)
      refine stp_val rfl (by refine yif_extract rfl (.tmp 10) 0 rfl [.agg #[.int .i64 c.t, .int .i64 c.s, .int .i64 c.k, .int .i64 c.g, .int .u64 c.q, v', .int .i64 M.cnt, .int .i64 M.l.kind, .int .i64 M.l.a, .int .i64 M.l.b, .int .u64 (M.l.old : Nat), .int .u64 (M.l.new : Nat), .bool M.l.done], .agg #[.int .i64 M.l.kind, .int .i64 M.l.a, .int .i64 M.l.b, .int .u64 (M.l.old : Nat), .int .u64 (M.l.new : Nat), .bool M.l.done]] ?_ _ rfl; exact cond_at d5 rfl) rfl ?_
      exact hK _ _ ⟨bA, bT, v', G, rfl, hRel, hG, hcM, (fun _ => hcM d5), hcS, hcA, hcT, hS⟩
    | 7, hi =>
      cases hi
      have d5 : D 5 = true := og_pre hpre (j := 5) (by kernel_rfl)
      refine wpOp_step rfl (fun K hK => ?_)
      refine stp_val rfl (by refine yif_extract rfl (.tmp 10) 1 rfl [.agg #[.int .i64 c.t, .int .i64 c.s, .int .i64 c.k, .int .i64 c.g, .int .u64 c.q, v', .int .i64 M.cnt, .int .i64 M.l.kind, .int .i64 M.l.a, .int .i64 M.l.b, .int .u64 (M.l.old : Nat), .int .u64 (M.l.new : Nat), .bool M.l.done], .agg #[.int .i64 M.l.kind, .int .i64 M.l.a, .int .i64 M.l.b, .int .u64 (M.l.old : Nat), .int .u64 (M.l.new : Nat), .bool M.l.done]] ?_ _ rfl; exact cond_at d5 rfl) rfl ?_
      exact hK _ _ ⟨bA, bT, v', G, rfl, hRel, hG, hcM, hcX, hcS, hcA, hcT, hS⟩
    | 8, hi =>
      cases hi
      refine wpOp_step rfl (fun K hK => ?_)
      have e0 := og_not hcA hD
      refine stp_alloc hS rfl _ rfl _ zer_rmem _ rfl _ rfl _ (fun _ => rfl) ?_
      intro bn u hS'
      rw [hD] at hS'
      refine hK _ _ ⟨bn, bT, v', G, rfl, hRel, hG, hcM, hcX, hcS, (fun _ => rfl), hcT, ?_⟩
      show St w u (_ ++ G ++ [(bn, cond (D 10) _ _)] ++ _)
      rw [e0]
      exact hS'.perm (perm_mid _)
    | 9, hi =>
      cases hi
      refine wpOp_step rfl (fun K hK => ?_)
      have e0 := og_not hcT hD
      refine stp_alloc hS rfl _ rfl _ zer_rtch _ rfl _ rfl _ (fun _ => rfl) ?_
      intro bn u hS'
      rw [hD] at hS'
      refine hK _ _ ⟨bA, bn, v', G, rfl, hRel, hG, hcM, hcX, hcS, hcA, (fun _ => rfl), ?_⟩
      show St w u (_ ++ G ++ _ ++ [(bn, cond (D 11) _ _)])
      rw [e0]
      rw [cond_false, List.append_nil] at hS'
      exact hS'
    | 10, hi =>
      cases hi
      have d0 : D 0 = true := og_pre hpre (j := 0) (by kernel_rfl)
      have d1 : D 1 = true := og_pre hpre (j := 1) (by kernel_rfl)
      have d2 : D 2 = true := og_pre hpre (j := 2) (by kernel_rfl)
      have d3 : D 3 = true := og_pre hpre (j := 3) (by kernel_rfl)
      have d4 : D 4 = true := og_pre hpre (j := 4) (by kernel_rfl)
      have d5 : D 5 = true := og_pre hpre (j := 5) (by kernel_rfl)
      have d6 : D 6 = true := og_pre hpre (j := 6) (by kernel_rfl)
      have d8 : D 8 = true := og_pre hpre (j := 8) (by kernel_rfl)
      have d9 : D 9 = true := og_pre hpre (j := 9) (by kernel_rfl)
      refine wpOp_step rfl (fun K hK => ?_)
      rw [d8, hD, cond_true, cond_false] at hS
      rcases hRel d4 with ⟨rfl, rfl, h3⟩ | ⟨g', cg, rfl, hc1, hc2, rfl⟩
      · refine stp_store hS 2 rfl _ _ _ rfl _ _ (cond_at d8 rfl) _ rfl _ (cond_at d6 rfl) _ siz_rmem (by exact rfl) (by exact rfl) (by exact rfl) rfl ?_
        intro u hS'
        refine hK _ _ ⟨bA, bT, _, _, rfl, (fun _ => .inl ⟨rfl, rfl, h3⟩), hG, hcM, hcX, (fun _ => d4), (fun _ => d8), hcT, ?_⟩
        show St w u (_ ++ _ ++ cond (D 8) _ _ ++ _)
        rw [d8]
        exact hS'
      · refine stp_store hS 3 rfl _ _ _ rfl _ _ (cond_at d8 rfl) _ rfl _ (cond_at d6 rfl) _ siz_rmem (by exact rfl) (by exact rfl) (by exact rfl) rfl ?_
        intro u hS'
        refine hK _ _ ⟨bA, bT, _, _, rfl, (fun _ => .inr ⟨g', cg, rfl, hc1, hc2, rfl⟩), hG, hcM, hcX, (fun _ => d4), (fun _ => d8), hcT, ?_⟩
        show St w u (_ ++ _ ++ cond (D 8) _ _ ++ _)
        rw [d8]
        exact hS'
    | 11, hi =>
      cases hi
      have d0 : D 0 = true := og_pre hpre (j := 0) (by kernel_rfl)
      have d1 : D 1 = true := og_pre hpre (j := 1) (by kernel_rfl)
      have d2 : D 2 = true := og_pre hpre (j := 2) (by kernel_rfl)
      have d3 : D 3 = true := og_pre hpre (j := 3) (by kernel_rfl)
      have d4 : D 4 = true := og_pre hpre (j := 4) (by kernel_rfl)
      have d5 : D 5 = true := og_pre hpre (j := 5) (by kernel_rfl)
      have d6 : D 6 = true := og_pre hpre (j := 6) (by kernel_rfl)
      have d7 : D 7 = true := og_pre hpre (j := 7) (by kernel_rfl)
      have d8 : D 8 = true := og_pre hpre (j := 8) (by kernel_rfl)
      have d9 : D 9 = true := og_pre hpre (j := 9) (by kernel_rfl)
      have d10 : D 10 = true := og_pre hpre (j := 10) (by kernel_rfl)
      refine wpOp_step rfl (fun K hK => ?_)
      rw [d8, d10, d9, hD, cond_true, cond_true, cond_true, cond_false] at hS
      rcases hRel d4 with ⟨rfl, rfl, h3⟩ | ⟨g', cg, rfl, hc1, hc2, rfl⟩
      · refine stp_store hS 3 rfl _ _ _ rfl _ _ (cond_at d9 rfl) _ rfl _ (cond_at d7 rfl) _ siz_rtch (by exact rfl) (by exact rfl) (by exact rfl) rfl ?_
        intro u hS'
        refine hK _ _ ⟨bA, bT, _, _, rfl, (fun _ => .inl ⟨rfl, rfl, h3⟩), hG, hcM, hcX, hcS, hcA, (fun _ => d9), ?_⟩
        show St w u (_ ++ _ ++ cond (D 8) [(bA, cond (D 10) _ _)] _ ++ cond (D 9) _ _)
        rw [d8, d10, d9]
        exact hS'
      · refine stp_store hS 4 rfl _ _ _ rfl _ _ (cond_at d9 rfl) _ rfl _ (cond_at d7 rfl) _ siz_rtch (by exact rfl) (by exact rfl) (by exact rfl) rfl ?_
        intro u hS'
        refine hK _ _ ⟨bA, bT, _, _, rfl, (fun _ => .inr ⟨g', cg, rfl, hc1, hc2, rfl⟩), hG, hcM, hcX, hcS, hcA, (fun _ => d9), ?_⟩
        show St w u (_ ++ _ ++ cond (D 8) [(bA, cond (D 10) _ _)] _ ++ cond (D 9) _ _)
        rw [d8, d10, d9]
        exact hS'
    | i + 12, hi => simp at hi
  case ends =>
    intro D a' w' hall hI
    obtain ⟨bA, bT, v', G, rfl, hRel, _, _, _, _, _, _, hS⟩ := hI
    have d0 : D 0 = true := hall 0 (by decide)
    have d1 : D 1 = true := hall 1 (by decide)
    have d2 : D 2 = true := hall 2 (by decide)
    have d3 : D 3 = true := hall 3 (by decide)
    have d4 : D 4 = true := hall 4 (by decide)
    have d5 : D 5 = true := hall 5 (by decide)
    have d6 : D 6 = true := hall 6 (by decide)
    have d7 : D 7 = true := hall 7 (by decide)
    have d8 : D 8 = true := hall 8 (by decide)
    have d9 : D 9 = true := hall 9 (by decide)
    have d10 : D 10 = true := hall 10 (by decide)
    have d11 : D 11 = true := hall 11 (by decide)
    rw [d8, d10, d9, d11, cond_true, cond_true, cond_true, cond_true] at hS
    have hRl := hRel d4
    simp only [d0, d1, d2, d3, d4, d5, d6, d7, d8, d9, cond_true]
    clear hRel hall d0 d1 d2 d3 d4 d5 d6 d7 d8 d9 d10 d11
    rcases hRl with ⟨rfl, rfl, h3⟩ | ⟨g', cg, rfl, hc1, hc2, rfl⟩
    · dsimp only [List.cons_append, List.nil_append, List.append_nil] at hS
      go_wp2_with fail
      refine wp_region_held (S := fun q => BlkAt q bA [.int .i64 c.t, .int .i64 c.s, .int .i64 c.k, .int .i64 c.g, .int .u64 c.q, .slice sv c.n cap, .int .i64 M.cnt, .int .i64 M.l.kind, .int .i64 M.l.a, .int .i64 M.l.b, .int .u64 (M.l.old : Nat), .int .u64 (M.l.new : Nat), .bool M.l.done] ∧ BlkAt q bT [.int .i64 M.l.kind, .int .i64 M.l.a, .int .i64 M.l.b, .int .u64 (M.l.old : Nat), .int .u64 (M.l.new : Nat), .bool M.l.done]) (by kernel_rfl) ?_
      show wpAnyH Try.prog .any _ _ _ 5 _ _ (World.drew w')
      replace hS := hS.drew
      have hM : BlkAt (World.drew w') bA [.int .i64 c.t, .int .i64 c.s, .int .i64 c.k, .int .i64 c.g, .int .u64 c.q, .slice sv c.n cap, .int .i64 M.cnt, .int .i64 M.l.kind, .int .i64 M.l.a, .int .i64 M.l.b, .int .u64 (M.l.old : Nat), .int .u64 (M.l.new : Nat), .bool M.l.done] ∧ BlkAt (World.drew w') bT [.int .i64 M.l.kind, .int .i64 M.l.a, .int .i64 M.l.b, .int .u64 (M.l.old : Nat), .int .u64 (M.l.new : Nat), .bool M.l.done] := ⟨hS.get 2 rfl, hS.get 3 rfl⟩
      refine held_take (i := 0) rfl (by kernel_rfl) (by kernel_rfl) (by kernel_rfl) (fun _ _ _ h => h) (yif_load rfl _ _ rfl _ _ rfl _ (fun _ h => h.1) _ row_rmem (by exact rfl) _ (by dsimp only [cutL, List.drop, List.take]; first | done | exact rfl)) hM (some 18) rfl _ (by simp only [Act.put, List.setIfInBounds_toArray, List.set_cons_zero, List.set_cons_succ]; first | done | exact rfl) ?_
      refine held_take (i := 1) rfl (by kernel_rfl) (by kernel_rfl) (by kernel_rfl) (fun _ _ _ h => h) (yif_by rfl _ (fun w => by go_simp; first | done | exact rfl)) hM (some 19) rfl _ (by simp only [Act.put, List.setIfInBounds_toArray, List.set_cons_zero, List.set_cons_succ]; first | done | exact rfl) ?_
      refine held_take (i := 2) rfl (by kernel_rfl) (by kernel_rfl) (by kernel_rfl) (fun _ _ _ h => h) (yif_load1 rfl _ _ rfl _ _ rfl _ (fun _ h => h.2) one_u64 _ rfl) hM (some 20) rfl _ (by simp only [Act.put, List.setIfInBounds_toArray, List.set_cons_zero, List.set_cons_succ]; first | done | exact rfl) ?_
      refine wpAnyH_all (rs := [3]) (by kernel_rfl) (by simp) ?_
      refine AllReadyH.cons rfl (fun K hK => ?_) AllReadyH.nil
      · refine stp_store hS 1 rfl _ _ _ rfl _ _ rfl _ rfl _ rfl _ siz_rmem (by exact rfl) (by exact rfl) (by exact rfl) rfl ?_
        clear hS hM
        intro _ hS
        dsimp only [blit, List.set] at hS
        refine hK.out _ _ ⟨hS.get 2 rfl, hS.get 3 rfl⟩ (fun hM => ?_)
        clear hK
        refine held_take (i := 4) rfl (by kernel_rfl) (by kernel_rfl) (by kernel_rfl) (fun _ _ _ h => h) (yif_moveI rfl _ (.inr rfl) _ _ rfl) hM (some 7) rfl _ (by simp only [Act.put, List.setIfInBounds_toArray, List.set_cons_zero, List.set_cons_succ]; first | done | exact rfl) ?_
        refine wpAnyH_done (by kernel_rfl) ?_ _
        clear hM
        try simp only [Act.put, List.setIfInBounds_toArray, List.set_cons_zero, List.set_cons_succ]
        go_wp2
        have hZ := hS.get 1 rfl
        refine bodyPost_ret (v := .tuple #[.agg #[.int .i64 c.t, .int .i64 c.s, .int .i64 c.k, .int .i64 c.g, .int .u64 c.q, .slice sv c.n cap, .int .i64 M.cnt, .int .i64 M.l.kind, .int .i64 M.l.a, .int .i64 M.l.b, .int .u64 (M.l.old : Nat), .int .u64 (M.l.new : Nat), .bool M.l.done], .int .u64 (M.l.old : Nat)]) (by simp [results, Try.results42, go_sem, hZ.cell 0 _ rfl, hZ.cell 1 _ rfl, hZ.cell 2 _ rfl, hZ.cell 3 _ rfl, hZ.cell 4 _ rfl, hZ.cell 5 _ rfl, hZ.cell 6 _ rfl, hZ.cell 7 _ rfl, hZ.cell 8 _ rfl, hZ.cell 9 _ rfl, hZ.cell 10 _ rfl, hZ.cell 11 _ rfl, hZ.cell 12 _ rfl]) rfl ?_
        exact ⟨_, rfl, (h3.low.below hS.bel).is hS.bel.size, .inl rfl, hS.bel⟩
    · dsimp only [List.cons_append, List.nil_append, List.append_nil] at hS
      go_wp2_with fail
      refine wp_region_held (S := fun q => BlkAt q bA [.int .i64 c.t, .int .i64 c.s, .int .i64 c.k, .int .i64 c.g, .int .u64 c.q, .slice (some ⟨g', 0, none⟩) c.n cg, .int .i64 M.cnt, .int .i64 M.l.kind, .int .i64 M.l.a, .int .i64 M.l.b, .int .u64 (M.l.old : Nat), .int .u64 (M.l.new : Nat), .bool M.l.done] ∧ BlkAt q bT [.int .i64 M.l.kind, .int .i64 M.l.a, .int .i64 M.l.b, .int .u64 (M.l.old : Nat), .int .u64 (M.l.new : Nat), .bool M.l.done]) (by kernel_rfl) ?_
      show wpAnyH Try.prog .any _ _ _ 5 _ _ (World.drew w')
      replace hS := hS.drew
      have hM : BlkAt (World.drew w') bA [.int .i64 c.t, .int .i64 c.s, .int .i64 c.k, .int .i64 c.g, .int .u64 c.q, .slice (some ⟨g', 0, none⟩) c.n cg, .int .i64 M.cnt, .int .i64 M.l.kind, .int .i64 M.l.a, .int .i64 M.l.b, .int .u64 (M.l.old : Nat), .int .u64 (M.l.new : Nat), .bool M.l.done] ∧ BlkAt (World.drew w') bT [.int .i64 M.l.kind, .int .i64 M.l.a, .int .i64 M.l.b, .int .u64 (M.l.old : Nat), .int .u64 (M.l.new : Nat), .bool M.l.done] := ⟨hS.get 3 rfl, hS.get 4 rfl⟩
      refine held_take (i := 0) rfl (by kernel_rfl) (by kernel_rfl) (by kernel_rfl) (fun _ _ _ h => h) (yif_load rfl _ _ rfl _ _ rfl _ (fun _ h => h.1) _ row_rmem (by exact rfl) _ (by dsimp only [cutL, List.drop, List.take]; first | done | exact rfl)) hM (some 18) rfl _ (by simp only [Act.put, List.setIfInBounds_toArray, List.set_cons_zero, List.set_cons_succ]; first | done | exact rfl) ?_
      refine held_take (i := 1) rfl (by kernel_rfl) (by kernel_rfl) (by kernel_rfl) (fun _ _ _ h => h) (yif_by rfl _ (fun w => by go_simp; first | done | exact rfl)) hM (some 19) rfl _ (by simp only [Act.put, List.setIfInBounds_toArray, List.set_cons_zero, List.set_cons_succ]; first | done | exact rfl) ?_
      refine held_take (i := 2) rfl (by kernel_rfl) (by kernel_rfl) (by kernel_rfl) (fun _ _ _ h => h) (yif_load1 rfl _ _ rfl _ _ rfl _ (fun _ h => h.2) one_u64 _ rfl) hM (some 20) rfl _ (by simp only [Act.put, List.setIfInBounds_toArray, List.set_cons_zero, List.set_cons_succ]; first | done | exact rfl) ?_
      refine wpAnyH_all (rs := [3]) (by kernel_rfl) (by simp) ?_
      refine AllReadyH.cons rfl (fun K hK => ?_) AllReadyH.nil
      · refine stp_store hS 1 rfl _ _ _ rfl _ _ rfl _ rfl _ rfl _ siz_rmem (by exact rfl) (by exact rfl) (by exact rfl) rfl ?_
        clear hS hM
        intro _ hS
        dsimp only [blit, List.set] at hS
        refine hK.out _ _ ⟨hS.get 3 rfl, hS.get 4 rfl⟩ (fun hM => ?_)
        clear hK
        refine held_take (i := 4) rfl (by kernel_rfl) (by kernel_rfl) (by kernel_rfl) (fun _ _ _ h => h) (yif_moveI rfl _ (.inr rfl) _ _ rfl) hM (some 7) rfl _ (by simp only [Act.put, List.setIfInBounds_toArray, List.set_cons_zero, List.set_cons_succ]; first | done | exact rfl) ?_
        refine wpAnyH_done (by kernel_rfl) ?_ _
        clear hM
        try simp only [Act.put, List.setIfInBounds_toArray, List.set_cons_zero, List.set_cons_succ]
        go_wp2
        have hZ := hS.get 1 rfl
        refine bodyPost_ret (v := .tuple #[.agg #[.int .i64 c.t, .int .i64 c.s, .int .i64 c.k, .int .i64 c.g, .int .u64 c.q, .slice (some ⟨g', 0, none⟩) c.n cg, .int .i64 M.cnt, .int .i64 M.l.kind, .int .i64 M.l.a, .int .i64 M.l.b, .int .u64 (M.l.old : Nat), .int .u64 (M.l.new : Nat), .bool M.l.done], .int .u64 (M.l.old : Nat)]) (by simp [results, Try.results42, go_sem, hZ.cell 0 _ rfl, hZ.cell 1 _ rfl, hZ.cell 2 _ rfl, hZ.cell 3 _ rfl, hZ.cell 4 _ rfl, hZ.cell 5 _ rfl, hZ.cell 6 _ rfl, hZ.cell 7 _ rfl, hZ.cell 8 _ rfl, hZ.cell 9 _ rfl, hZ.cell 10 _ rfl, hZ.cell 11 _ rfl, hZ.cell 12 _ rfl]) rfl ?_
        exact ⟨_, rfl, .inr ⟨g', 0, cg, rfl, hn0, hc1, hc2, (hS.get 2 rfl).lt, fun j hj => ⟨by rw [Nat.zero_add]; exact (hS.get 2 rfl).cell j _ (rowW_get _ c.n j hj), (unhide HWD) j hj⟩⟩, .inr ⟨g', cg, rfl, hS.low (g', _) (List.mem_of_getElem? (i := 2) rfl), hc1, hc2, hS.get 2 rfl⟩, hS.bel⟩

end Go.Proofs.Ytcpmclidndmgeaa

/-
  The walk of the document's own store.
-/
namespace Go.Proofs.Ytcpmclidndmgeaa
set_option maxRecDepth 100000
open Go.RowKit Go.Sort

set_option maxHeartbeats 8000000 in
theorem rStore_any (c : Um.Cf) (v : Value) (m M : Um.Mm) (a b : Int) (x : Nat) (w : World) (hr : c.r = true) (hv : IsWords w v c.n m.ws) (hx : Um.Word x) (hM : M = Um.mtouch c m 2 a b 0 x) :
    Calls Try.prog 41 #[.agg #[.int .i64 c.t, .int .i64 c.s, .int .i64 c.k, .int .i64 c.g, .int .u64 c.q, v, .int .i64 m.cnt, .int .i64 m.l.kind, .int .i64 m.l.a, .int .i64 m.l.b, .int .u64 (m.l.old : Nat), .int .u64 (m.l.new : Nat), .bool m.l.done], .int .i64 a, .int .i64 b, .int .u64 (x : Nat)] w fun e W' =>
      ∃ v', e = .returned (.agg #[.int .i64 c.t, .int .i64 c.s, .int .i64 c.k, .int .i64 c.g, .int .u64 c.q, v', .int .i64 M.cnt, .int .i64 M.l.kind, .int .i64 M.l.a, .int .i64 M.l.b, .int .u64 (M.l.old : Nat), .int .u64 (M.l.new : Nat), .bool M.l.done]) ∧ IsWords W' v' c.n M.ws ∧ (v' = v ∨ RFresh w W' v' c.n M.ws) ∧ Below w.heap.size w W' := by
  have hn0 : 0 < c.n := by have := Um.Cf.n_pos hr; omega
  have HWD := hide (show ∀ j, j < c.n → Um.Word (M.ws j) by rw [hM]; exact Um.word_touch (words_word hv) hx)
  have hT := fun w hv => rTouch_any c v m M 2 a b 0 x w hr hv hx (.inr (.inl rfl)) hM
  have HV := hide hv
  have HT := hide hT
  obtain ⟨sv, cap, rfl⟩ := words_len hv
  clear hv hT hM hx
  have hS := St.new w
  go_enter Try.func41, Try.ntmps41
  go_wp2_with (first | (refine wpl_box hS rfl _ _ rfl _ rfl _ (by intro _; simp only [Act.put, List.setIfInBounds_toArray, List.set_cons_zero, List.set_cons_succ]; first | done | exact rfl) ?_; clear hS; intro _ _ hS; dsimp only [blit, List.set, List.cons_append, List.nil_append, Value.cells, List.toList_toArray] at hS) | (refine wpl_alloc hS rfl _ rfl _ (zer_any rfl) _ (by intro _; simp only [Act.put, List.setIfInBounds_toArray, List.set_cons_zero, List.set_cons_succ]; first | done | exact rfl) ?_; clear hS; intro _ _ hS; dsimp only [blit, List.set, List.cons_append, List.nil_append, Value.cells, List.toList_toArray] at hS) | (refine wpl_ld hS rfl _ _ rfl _ _ rfl ?_; (first | refine ⟨0, _, rfl, ?_⟩ | refine ⟨1, _, rfl, ?_⟩ | refine ⟨2, _, rfl, ?_⟩ | refine ⟨3, _, rfl, ?_⟩ | refine ⟨4, _, rfl, ?_⟩ | refine ⟨5, _, rfl, ?_⟩ | refine ⟨6, _, rfl, ?_⟩ | refine ⟨7, _, rfl, ?_⟩ | refine ⟨8, _, rfl, ?_⟩ | refine ⟨9, _, rfl, ?_⟩); first | refine .inl ⟨_, one_any rfl, rfl, _, (by simp only [Act.put, List.setIfInBounds_toArray, List.set_cons_zero, List.set_cons_succ]; first | done | exact rfl), ?_⟩ | refine .inr ⟨_, _, row_any rfl, rfl, (by dsimp only [cutL, List.drop, List.take]; first | done | exact rfl), _, (by simp only [Act.put, List.setIfInBounds_toArray, List.set_cons_zero, List.set_cons_succ]; first | done | exact rfl), ?_⟩) | (refine wpl_st hS rfl _ _ _ rfl rfl _ _ rfl ?_; (first | refine ⟨0, _, rfl, ?_⟩ | refine ⟨1, _, rfl, ?_⟩ | refine ⟨2, _, rfl, ?_⟩ | refine ⟨3, _, rfl, ?_⟩ | refine ⟨4, _, rfl, ?_⟩ | refine ⟨5, _, rfl, ?_⟩ | refine ⟨6, _, rfl, ?_⟩ | refine ⟨7, _, rfl, ?_⟩ | refine ⟨8, _, rfl, ?_⟩ | refine ⟨9, _, rfl, ?_⟩); refine ⟨_, (by first | exact shA rfl | exact shI rfl | exact shB rfl | exact shS rfl | exact shP rfl | exact shF rfl | exact shN rfl), _, siz_any rfl, (by exact rfl), (by exact rfl), (by exact rfl), ?_⟩; clear hS; intro _ hS; dsimp only [blit, List.set, List.cons_append, List.nil_append, Value.cells, List.toList_toArray] at hS))
  rename_i B _ R X _ _
  refine wp_region_og (I := fun D a' w' => ∃ (bA bT : Nat) (v' : Value) (G : List (Nat × List Value)), a' = ⟨#[.agg #[.int .i64 c.t, .int .i64 c.s, .int .i64 c.k, .int .i64 c.g, .int .u64 c.q, .slice sv c.n cap, .int .i64 m.cnt, .int .i64 m.l.kind, .int .i64 m.l.a, .int .i64 m.l.b, .int .u64 (m.l.old : Nat), .int .u64 (m.l.new : Nat), .bool m.l.done], .int .i64 a, .int .i64 b, .int .u64 (x : Nat), .pointer (some ⟨B, 0, none⟩), undef, undef, undef, .pointer (some ⟨R, 0, none⟩), (cond (D 9) (.pointer (some ⟨bA, 0, none⟩)) undef), (cond (D 10) (.pointer (some ⟨bT, 0, none⟩)) undef), (cond (D 6) (.tuple #[.agg #[.int .i64 c.t, .int .i64 c.s, .int .i64 c.k, .int .i64 c.g, .int .u64 c.q, v', .int .i64 M.cnt, .int .i64 M.l.kind, .int .i64 M.l.a, .int .i64 M.l.b, .int .u64 (M.l.old : Nat), .int .u64 (M.l.new : Nat), .bool M.l.done], .agg #[.int .i64 M.l.kind, .int .i64 M.l.a, .int .i64 M.l.b, .int .u64 (M.l.old : Nat), .int .u64 (M.l.new : Nat), .bool M.l.done]]) undef), (cond (D 0) (.agg #[.int .i64 c.t, .int .i64 c.s, .int .i64 c.k, .int .i64 c.g, .int .u64 c.q, .slice sv c.n cap, .int .i64 m.cnt, .int .i64 m.l.kind, .int .i64 m.l.a, .int .i64 m.l.b, .int .u64 (m.l.old : Nat), .int .u64 (m.l.new : Nat), .bool m.l.done]) undef), (cond (D 1) (.int .i64 a) undef), (cond (D 2) (.int .i64 b) undef), (cond (D 3) (.agg #[.int .i64 a, .int .i64 b]) undef), (cond (D 4) (.int .u64 (x : Nat)) undef), (cond (D 5) (.tuple #[.agg #[.int .i64 c.t, .int .i64 c.s, .int .i64 c.k, .int .i64 c.g, .int .u64 c.q, v', .int .i64 M.cnt, .int .i64 M.l.kind, .int .i64 M.l.a, .int .i64 M.l.b, .int .u64 (M.l.old : Nat), .int .u64 (M.l.new : Nat), .bool M.l.done], .agg #[.int .i64 M.l.kind, .int .i64 M.l.a, .int .i64 M.l.b, .int .u64 (M.l.old : Nat), .int .u64 (M.l.new : Nat), .bool M.l.done]]) undef), (cond (D 7) (.agg #[.int .i64 c.t, .int .i64 c.s, .int .i64 c.k, .int .i64 c.g, .int .u64 c.q, v', .int .i64 M.cnt, .int .i64 M.l.kind, .int .i64 M.l.a, .int .i64 M.l.b, .int .u64 (M.l.old : Nat), .int .u64 (M.l.new : Nat), .bool M.l.done]) undef), (cond (D 8) (.agg #[.int .i64 M.l.kind, .int .i64 M.l.a, .int .i64 M.l.b, .int .u64 (M.l.old : Nat), .int .u64 (M.l.new : Nat), .bool M.l.done]) undef), undef], []⟩ ∧ (D 5 = true → ((v' = .slice sv c.n cap ∧ G = [] ∧ IsWords w (.slice sv c.n cap) c.n M.ws) ∨ ∃ g' cg, v' = .slice (some ⟨g', 0, none⟩) c.n cg ∧ c.n ≤ cg ∧ cg ≤ maxLen ∧ G = [(g', rowW M.ws c.n)])) ∧ (D 5 = false → G = []) ∧ (D 6 = true → D 5 = true) ∧ (D 7 = true → D 5 = true) ∧ (D 11 = true → D 5 = true) ∧ (D 11 = true → D 9 = true) ∧ (D 12 = true → D 10 = true) ∧ St w w' ([(B, [.int .i64 c.t, .int .i64 c.s, .int .i64 c.k, .int .i64 c.g, .int .u64 c.q, .slice sv c.n cap, .int .i64 m.cnt, .int .i64 m.l.kind, .int .i64 m.l.a, .int .i64 m.l.b, .int .u64 (m.l.old : Nat), .int .u64 (m.l.new : Nat), .bool m.l.done]), (R, [.int .i64 0, .int .i64 0, .int .i64 0, .int .i64 0, .int .u64 0, .slice none 0 0, .int .i64 0, .int .i64 0, .int .i64 0, .int .i64 0, .int .u64 0, .int .u64 0, .bool false])] ++ G ++ cond (D 9) [(bA, cond (D 11) [.int .i64 c.t, .int .i64 c.s, .int .i64 c.k, .int .i64 c.g, .int .u64 c.q, v', .int .i64 M.cnt, .int .i64 M.l.kind, .int .i64 M.l.a, .int .i64 M.l.b, .int .u64 (M.l.old : Nat), .int .u64 (M.l.new : Nat), .bool M.l.done] [.int .i64 0, .int .i64 0, .int .i64 0, .int .i64 0, .int .u64 0, .slice none 0 0, .int .i64 0, .int .i64 0, .int .i64 0, .int .i64 0, .int .u64 0, .int .u64 0, .bool false])] [] ++ cond (D 10) [(bT, cond (D 12) [.int .i64 M.l.kind, .int .i64 M.l.a, .int .i64 M.l.b, .int .u64 (M.l.old : Nat), .int .u64 (M.l.new : Nat), .bool M.l.done] [.int .i64 0, .int .i64 0, .int .i64 0, .int .u64 0, .int .u64 0, .bool false])] [])) (by kernel_rfl) ?acyc ?start ?steps ?ends
  case acyc =>
    intro i o hi e he hb
    exact og_acyc (by kernel_rfl) hi he hb
  case start => exact ⟨0, 0, .nilIface, [], rfl, (fun h => by cases h), (fun _ => rfl), (fun h => by cases h), (fun h => by cases h), (fun h => by cases h), (fun h => by cases h), (fun h => by cases h), hS.drew⟩
  case steps =>
    intro i o hi D a' w' hD hpre hI
    obtain ⟨bA, bT, v', G, rfl, hRel, hG, hcM, hcX, hcS, hcA, hcT, hS⟩ := hI
    match i, hi with
    | 0, hi =>
      cases hi
      refine wpOp_step rfl (fun K hK => ?_)
      refine stp_val rfl (yif_load (S := fun q => q = w') rfl _ _ rfl _ _ rfl _ (fun _ h => h ▸ hS.get 0 rfl) _ row_rmem (by exact rfl) _ (by dsimp only [cutL, List.drop, List.take]; first | done | exact rfl)) rfl ?_
      exact hK _ _ ⟨bA, bT, v', G, rfl, hRel, hG, hcM, hcX, hcS, hcA, hcT, hS⟩
    | 1, hi =>
      cases hi
      refine wpOp_step rfl (fun K hK => ?_)
      refine stp_val rfl (by exact yif_moveI rfl _ (.inl rfl) _ _ rfl) rfl ?_
      exact hK _ _ ⟨bA, bT, v', G, rfl, hRel, hG, hcM, hcX, hcS, hcA, hcT, hS⟩
    | 2, hi =>
      cases hi
      refine wpOp_step rfl (fun K hK => ?_)
      refine stp_val rfl (by exact yif_moveI rfl _ (.inl rfl) _ _ rfl) rfl ?_
      exact hK _ _ ⟨bA, bT, v', G, rfl, hRel, hG, hcM, hcX, hcS, hcA, hcT, hS⟩
    | 3, hi =>
      cases hi
      have d1 : D 1 = true := og_pre hpre (j := 1) (by kernel_rfl)
      have d2 : D 2 = true := og_pre hpre (j := 2) (by kernel_rfl)
      refine wpOp_step rfl (fun K hK => ?_)
      refine stp_call rfl _ _ _ rfl egSp _ (list2_eq (cond_at d1 rfl) (cond_at d2 rfl)) _ rfl ?_
      refine (rSpot_any _ _ _).mono ?_
      rintro e u ⟨rfl, hb⟩
      exact ⟨_, rfl, hK _ _ ⟨bA, bT, v', G, rfl, hRel, hG, hcM, hcX, hcS, hcA, hcT, hS.call hb⟩⟩
    | 4, hi =>
      cases hi
      refine wpOp_step rfl (fun K hK => ?_)
      refine stp_val rfl (by exact yif_moveI rfl _ (.inl rfl) _ _ rfl) rfl ?_
      exact hK _ _ ⟨bA, bT, v', G, rfl, hRel, hG, hcM, hcX, hcS, hcA, hcT, hS⟩
    | 5, hi =>
      cases hi
      have d0 : D 0 = true := og_pre hpre (j := 0) (by kernel_rfl)
      have d3 : D 3 = true := og_pre hpre (j := 3) (by kernel_rfl)
      have d4 : D 4 = true := og_pre hpre (j := 4) (by kernel_rfl)
      refine wpOp_step rfl (fun K hK => ?_)
      refine stp_call rfl _ _ _ rfl egTo _ (list5_eq (cond_at d0 rfl) rfl (cond_at d3 rfl) rfl (cond_at d4 rfl)) _ rfl ?_
      refine ((unhide HT) _ (((unhide HV).low.below hS.bel).is hS.bel.size)).mono ?_
      rintro e w4 ⟨vn, rfl, hI, hF, hb⟩
      obtain rfl := hG hD
      have m0 := og_not hcM hD
      have x0 := og_not hcX hD
      have z0 := og_not hcS hD
      refine ⟨_, rfl, ?_⟩
      rcases hF with rfl | ⟨g', cg, rfl, lg, hc1, hc2, hGb⟩
      · exact hK _ _ ⟨bA, bT, _, [], (by simp only [m0, x0]; rfl), (fun _ => .inl ⟨rfl, rfl, words_back (unhide HV) hI (hS.call hb).bel (Below.refl _ _)⟩), (fun _ => rfl), (fun _ => rfl), (fun _ => rfl), (fun _ => rfl), hcA, hcT, (by have h := hS.call hb; rw [z0] at h; show St w w4 (_ ++ _ ++ cond (D 9) [(bA, cond (D 11) _ _)] _ ++ _); rw [z0]; exact h)⟩
      · exact hK _ _ ⟨bA, bT, _, [(g', rowW M.ws c.n)], (by simp only [m0, x0]; rfl), (fun _ => .inr ⟨g', cg, rfl, hc1, hc2, rfl⟩), (fun h => by cases h), (fun _ => rfl), (fun _ => rfl), (fun _ => rfl), hcA, hcT, (by have h := hS.add hb hGb lg; rw [z0] at h; show St w w4 (_ ++ _ ++ cond (D 9) [(bA, cond (D 11) _ _)] _ ++ _); rw [z0]; exact h.perm (perm_last _))⟩
    | 6, hi =>
      cases hi
      have d5 : D 5 = true := og_pre hpre (j := 5) (by kernel_rfl)
      refine wpOp_step rfl (fun K hK => ?_)
      refine stp_val rfl (by exact yif_mv rfl (.tmp 17) rfl _ (cond_at d5 rfl)) rfl ?_
      exact hK _ _ ⟨bA, bT, v', G, rfl, hRel, hG, (fun _ => d5), hcX, hcS, hcA, hcT, hS⟩
    | 7, hi =>
      cases hi
      have d6 : D 6 = true := og_pre hpre (j := 6) (by kernel_rfl)
      refine wpOp_step rfl (fun K hK => ?_)
      refine stp_val rfl (by refine yif_extract rfl (.tmp 11) 0 rfl [.agg #[.int .i64 c.t, .int .i64 c.s, .int .i64 c.k, .int .i64 c.g, .int .u64 c.q, v', .int .i64 M.cnt, .int .i64 M.l.kind, .int .i64 M.l.a, .int .i64 M.l.b, .int .u64 (M.l.old : Nat), .int .u64 (M.l.new : Nat), .bool M.l.done], .agg #[.int .i64 M.l.kind, .int .i64 M.l.a, .int .i64 M.l.b, .int .u64 (M.l.old : Nat), .int .u64 (M.l.new : Nat), .bool M.l.done]] ?_ _ rfl; exact cond_at d6 rfl) rfl ?_
      exact hK _ _ ⟨bA, bT, v', G, rfl, hRel, hG, hcM, (fun _ => hcM d6), hcS, hcA, hcT, hS⟩
    | 8, hi =>
      cases hi
      have d6 : D 6 = true := og_pre hpre (j := 6) (by kernel_rfl)
      refine wpOp_step rfl (fun K hK => ?_)
      refine stp_val rfl (by refine yif_extract rfl (.tmp 11) 1 rfl [.agg #[.int .i64 c.t, .int .i64 c.s, .int .i64 c.k, .int .i64 c.g, .int .u64 c.q, v', .int .i64 M.cnt, .int .i64 M.l.kind, .int .i64 M.l.a, .int .i64 M.l.b, .int .u64 (M.l.old : Nat), .int .u64 (M.l.new : Nat), .bool M.l.done], .agg #[.int .i64 M.l.kind, .int .i64 M.l.a, .int .i64 M.l.b, .int .u64 (M.l.old : Nat), .int .u64 (M.l.new : Nat), .bool M.l.done]] ?_ _ rfl; exact cond_at d6 rfl) rfl ?_
      exact hK _ _ ⟨bA, bT, v', G, rfl, hRel, hG, hcM, hcX, hcS, hcA, hcT, hS⟩
    | 9, hi =>
      cases hi
      refine wpOp_step rfl (fun K hK => ?_)
      have e0 := og_not hcA hD
      refine stp_alloc hS rfl _ rfl _ zer_rmem _ rfl _ rfl _ (fun _ => rfl) ?_
      intro bn u hS'
      rw [hD] at hS'
      refine hK _ _ ⟨bn, bT, v', G, rfl, hRel, hG, hcM, hcX, hcS, (fun _ => rfl), hcT, ?_⟩
      show St w u (_ ++ G ++ [(bn, cond (D 11) _ _)] ++ _)
      rw [e0]
      exact hS'.perm (perm_mid _)
    | 10, hi =>
      cases hi
      refine wpOp_step rfl (fun K hK => ?_)
      have e0 := og_not hcT hD
      refine stp_alloc hS rfl _ rfl _ zer_rtch _ rfl _ rfl _ (fun _ => rfl) ?_
      intro bn u hS'
      rw [hD] at hS'
      refine hK _ _ ⟨bA, bn, v', G, rfl, hRel, hG, hcM, hcX, hcS, hcA, (fun _ => rfl), ?_⟩
      show St w u (_ ++ G ++ _ ++ [(bn, cond (D 12) _ _)])
      rw [e0]
      rw [cond_false, List.append_nil] at hS'
      exact hS'
    | 11, hi =>
      cases hi
      have d0 : D 0 = true := og_pre hpre (j := 0) (by kernel_rfl)
      have d1 : D 1 = true := og_pre hpre (j := 1) (by kernel_rfl)
      have d2 : D 2 = true := og_pre hpre (j := 2) (by kernel_rfl)
      have d3 : D 3 = true := og_pre hpre (j := 3) (by kernel_rfl)
      have d4 : D 4 = true := og_pre hpre (j := 4) (by kernel_rfl)
      have d5 : D 5 = true := og_pre hpre (j := 5) (by kernel_rfl)
      have d6 : D 6 = true := og_pre hpre (j := 6) (by kernel_rfl)
      have d7 : D 7 = true := og_pre hpre (j := 7) (by kernel_rfl)
      have d9 : D 9 = true := og_pre hpre (j := 9) (by kernel_rfl)
      have d10 : D 10 = true := og_pre hpre (j := 10) (by kernel_rfl)
      refine wpOp_step rfl (fun K hK => ?_)
      rw [d9, hD, cond_true, cond_false] at hS
      rcases hRel d5 with ⟨rfl, rfl, h3⟩ | ⟨g', cg, rfl, hc1, hc2, rfl⟩
      · refine stp_store hS 2 rfl _ _ _ rfl _ _ (cond_at d9 rfl) _ rfl _ (cond_at d7 rfl) _ siz_rmem (by exact rfl) (by exact rfl) (by exact rfl) rfl ?_
        intro u hS'
        refine hK _ _ ⟨bA, bT, _, _, rfl, (fun _ => .inl ⟨rfl, rfl, h3⟩), hG, hcM, hcX, (fun _ => d5), (fun _ => d9), hcT, ?_⟩
        show St w u (_ ++ _ ++ cond (D 9) _ _ ++ _)
        rw [d9]
        exact hS'
      · refine stp_store hS 3 rfl _ _ _ rfl _ _ (cond_at d9 rfl) _ rfl _ (cond_at d7 rfl) _ siz_rmem (by exact rfl) (by exact rfl) (by exact rfl) rfl ?_
        intro u hS'
        refine hK _ _ ⟨bA, bT, _, _, rfl, (fun _ => .inr ⟨g', cg, rfl, hc1, hc2, rfl⟩), hG, hcM, hcX, (fun _ => d5), (fun _ => d9), hcT, ?_⟩
        show St w u (_ ++ _ ++ cond (D 9) _ _ ++ _)
        rw [d9]
        exact hS'
    | 12, hi =>
      cases hi
      have d0 : D 0 = true := og_pre hpre (j := 0) (by kernel_rfl)
      have d1 : D 1 = true := og_pre hpre (j := 1) (by kernel_rfl)
      have d2 : D 2 = true := og_pre hpre (j := 2) (by kernel_rfl)
      have d3 : D 3 = true := og_pre hpre (j := 3) (by kernel_rfl)
      have d4 : D 4 = true := og_pre hpre (j := 4) (by kernel_rfl)
      have d5 : D 5 = true := og_pre hpre (j := 5) (by kernel_rfl)
      have d6 : D 6 = true := og_pre hpre (j := 6) (by kernel_rfl)
      have d7 : D 7 = true := og_pre hpre (j := 7) (by kernel_rfl)
      have d8 : D 8 = true := og_pre hpre (j := 8) (by kernel_rfl)
      have d9 : D 9 = true := og_pre hpre (j := 9) (by kernel_rfl)
      have d10 : D 10 = true := og_pre hpre (j := 10) (by kernel_rfl)
      have d11 : D 11 = true := og_pre hpre (j := 11) (by kernel_rfl)
      refine wpOp_step rfl (fun K hK => ?_)
      rw [d9, d11, d10, hD, cond_true, cond_true, cond_true, cond_false] at hS
      rcases hRel d5 with ⟨rfl, rfl, h3⟩ | ⟨g', cg, rfl, hc1, hc2, rfl⟩
      · refine stp_store hS 3 rfl _ _ _ rfl _ _ (cond_at d10 rfl) _ rfl _ (cond_at d8 rfl) _ siz_rtch (by exact rfl) (by exact rfl) (by exact rfl) rfl ?_
        intro u hS'
        refine hK _ _ ⟨bA, bT, _, _, rfl, (fun _ => .inl ⟨rfl, rfl, h3⟩), hG, hcM, hcX, hcS, hcA, (fun _ => d10), ?_⟩
        show St w u (_ ++ _ ++ cond (D 9) [(bA, cond (D 11) _ _)] _ ++ cond (D 10) _ _)
        rw [d9, d11, d10]
        exact hS'
      · refine stp_store hS 4 rfl _ _ _ rfl _ _ (cond_at d10 rfl) _ rfl _ (cond_at d8 rfl) _ siz_rtch (by exact rfl) (by exact rfl) (by exact rfl) rfl ?_
        intro u hS'
        refine hK _ _ ⟨bA, bT, _, _, rfl, (fun _ => .inr ⟨g', cg, rfl, hc1, hc2, rfl⟩), hG, hcM, hcX, hcS, hcA, (fun _ => d10), ?_⟩
        show St w u (_ ++ _ ++ cond (D 9) [(bA, cond (D 11) _ _)] _ ++ cond (D 10) _ _)
        rw [d9, d11, d10]
        exact hS'
    | i + 13, hi => simp at hi
  case ends =>
    intro D a' w' hall hI
    obtain ⟨bA, bT, v', G, rfl, hRel, _, _, _, _, _, _, hS⟩ := hI
    have d0 : D 0 = true := hall 0 (by decide)
    have d1 : D 1 = true := hall 1 (by decide)
    have d2 : D 2 = true := hall 2 (by decide)
    have d3 : D 3 = true := hall 3 (by decide)
    have d4 : D 4 = true := hall 4 (by decide)
    have d5 : D 5 = true := hall 5 (by decide)
    have d6 : D 6 = true := hall 6 (by decide)
    have d7 : D 7 = true := hall 7 (by decide)
    have d8 : D 8 = true := hall 8 (by decide)
    have d9 : D 9 = true := hall 9 (by decide)
    have d10 : D 10 = true := hall 10 (by decide)
    have d11 : D 11 = true := hall 11 (by decide)
    have d12 : D 12 = true := hall 12 (by decide)
    rw [d9, d11, d10, d12, cond_true, cond_true, cond_true, cond_true] at hS
    have hRl := hRel d5
    simp only [d0, d1, d2, d3, d4, d5, d6, d7, d8, d9, d10, cond_true]
    clear hRel hall d0 d1 d2 d3 d4 d5 d6 d7 d8 d9 d10 d11 d12
    rcases hRl with ⟨rfl, rfl, h3⟩ | ⟨g', cg, rfl, hc1, hc2, rfl⟩
    · dsimp only [List.cons_append, List.nil_append, List.append_nil] at hS
      go_wp2_with (first | (refine wpl_box hS rfl _ _ rfl _ rfl _ (by intro _; simp only [Act.put, List.setIfInBounds_toArray, List.set_cons_zero, List.set_cons_succ]; first | done | exact rfl) ?_; clear hS; intro _ _ hS; dsimp only [blit, List.set, List.cons_append, List.nil_append, Value.cells, List.toList_toArray] at hS) | (refine wpl_alloc hS rfl _ rfl _ (zer_any rfl) _ (by intro _; simp only [Act.put, List.setIfInBounds_toArray, List.set_cons_zero, List.set_cons_succ]; first | done | exact rfl) ?_; clear hS; intro _ _ hS; dsimp only [blit, List.set, List.cons_append, List.nil_append, Value.cells, List.toList_toArray] at hS) | (refine wpl_ld hS rfl _ _ rfl _ _ rfl ?_; (first | refine ⟨0, _, rfl, ?_⟩ | refine ⟨1, _, rfl, ?_⟩ | refine ⟨2, _, rfl, ?_⟩ | refine ⟨3, _, rfl, ?_⟩ | refine ⟨4, _, rfl, ?_⟩ | refine ⟨5, _, rfl, ?_⟩ | refine ⟨6, _, rfl, ?_⟩ | refine ⟨7, _, rfl, ?_⟩ | refine ⟨8, _, rfl, ?_⟩ | refine ⟨9, _, rfl, ?_⟩); first | refine .inl ⟨_, one_any rfl, rfl, _, (by simp only [Act.put, List.setIfInBounds_toArray, List.set_cons_zero, List.set_cons_succ]; first | done | exact rfl), ?_⟩ | refine .inr ⟨_, _, row_any rfl, rfl, (by dsimp only [cutL, List.drop, List.take]; first | done | exact rfl), _, (by simp only [Act.put, List.setIfInBounds_toArray, List.set_cons_zero, List.set_cons_succ]; first | done | exact rfl), ?_⟩) | (refine wpl_st hS rfl _ _ _ rfl rfl _ _ rfl ?_; (first | refine ⟨0, _, rfl, ?_⟩ | refine ⟨1, _, rfl, ?_⟩ | refine ⟨2, _, rfl, ?_⟩ | refine ⟨3, _, rfl, ?_⟩ | refine ⟨4, _, rfl, ?_⟩ | refine ⟨5, _, rfl, ?_⟩ | refine ⟨6, _, rfl, ?_⟩ | refine ⟨7, _, rfl, ?_⟩ | refine ⟨8, _, rfl, ?_⟩ | refine ⟨9, _, rfl, ?_⟩); refine ⟨_, (by first | exact shA rfl | exact shI rfl | exact shB rfl | exact shS rfl | exact shP rfl | exact shF rfl | exact shN rfl), _, siz_any rfl, (by exact rfl), (by exact rfl), (by exact rfl), ?_⟩; clear hS; intro _ hS; dsimp only [blit, List.set, List.cons_append, List.nil_append, Value.cells, List.toList_toArray] at hS))
      go_wp2
      have hZ := hS.get 1 rfl
      refine bodyPost_ret (v := .agg #[.int .i64 c.t, .int .i64 c.s, .int .i64 c.k, .int .i64 c.g, .int .u64 c.q, .slice sv c.n cap, .int .i64 M.cnt, .int .i64 M.l.kind, .int .i64 M.l.a, .int .i64 M.l.b, .int .u64 (M.l.old : Nat), .int .u64 (M.l.new : Nat), .bool M.l.done]) (by simp [results, Try.results41, go_sem, hZ.cell 0 _ rfl, hZ.cell 1 _ rfl, hZ.cell 2 _ rfl, hZ.cell 3 _ rfl, hZ.cell 4 _ rfl, hZ.cell 5 _ rfl, hZ.cell 6 _ rfl, hZ.cell 7 _ rfl, hZ.cell 8 _ rfl, hZ.cell 9 _ rfl, hZ.cell 10 _ rfl, hZ.cell 11 _ rfl, hZ.cell 12 _ rfl]) rfl ?_
      exact ⟨_, rfl, (h3.low.below hS.bel).is hS.bel.size, .inl rfl, hS.bel⟩
    · dsimp only [List.cons_append, List.nil_append, List.append_nil] at hS
      go_wp2_with (first | (refine wpl_box hS rfl _ _ rfl _ rfl _ (by intro _; simp only [Act.put, List.setIfInBounds_toArray, List.set_cons_zero, List.set_cons_succ]; first | done | exact rfl) ?_; clear hS; intro _ _ hS; dsimp only [blit, List.set, List.cons_append, List.nil_append, Value.cells, List.toList_toArray] at hS) | (refine wpl_alloc hS rfl _ rfl _ (zer_any rfl) _ (by intro _; simp only [Act.put, List.setIfInBounds_toArray, List.set_cons_zero, List.set_cons_succ]; first | done | exact rfl) ?_; clear hS; intro _ _ hS; dsimp only [blit, List.set, List.cons_append, List.nil_append, Value.cells, List.toList_toArray] at hS) | (refine wpl_ld hS rfl _ _ rfl _ _ rfl ?_; (first | refine ⟨0, _, rfl, ?_⟩ | refine ⟨1, _, rfl, ?_⟩ | refine ⟨2, _, rfl, ?_⟩ | refine ⟨3, _, rfl, ?_⟩ | refine ⟨4, _, rfl, ?_⟩ | refine ⟨5, _, rfl, ?_⟩ | refine ⟨6, _, rfl, ?_⟩ | refine ⟨7, _, rfl, ?_⟩ | refine ⟨8, _, rfl, ?_⟩ | refine ⟨9, _, rfl, ?_⟩); first | refine .inl ⟨_, one_any rfl, rfl, _, (by simp only [Act.put, List.setIfInBounds_toArray, List.set_cons_zero, List.set_cons_succ]; first | done | exact rfl), ?_⟩ | refine .inr ⟨_, _, row_any rfl, rfl, (by dsimp only [cutL, List.drop, List.take]; first | done | exact rfl), _, (by simp only [Act.put, List.setIfInBounds_toArray, List.set_cons_zero, List.set_cons_succ]; first | done | exact rfl), ?_⟩) | (refine wpl_st hS rfl _ _ _ rfl rfl _ _ rfl ?_; (first | refine ⟨0, _, rfl, ?_⟩ | refine ⟨1, _, rfl, ?_⟩ | refine ⟨2, _, rfl, ?_⟩ | refine ⟨3, _, rfl, ?_⟩ | refine ⟨4, _, rfl, ?_⟩ | refine ⟨5, _, rfl, ?_⟩ | refine ⟨6, _, rfl, ?_⟩ | refine ⟨7, _, rfl, ?_⟩ | refine ⟨8, _, rfl, ?_⟩ | refine ⟨9, _, rfl, ?_⟩); refine ⟨_, (by first | exact shA rfl | exact shI rfl | exact shB rfl | exact shS rfl | exact shP rfl | exact shF rfl | exact shN rfl), _, siz_any rfl, (by exact rfl), (by exact rfl), (by exact rfl), ?_⟩; clear hS; intro _ hS; dsimp only [blit, List.set, List.cons_append, List.nil_append, Value.cells, List.toList_toArray] at hS))
      go_wp2
      have hZ := hS.get 1 rfl
      refine bodyPost_ret (v := .agg #[.int .i64 c.t, .int .i64 c.s, .int .i64 c.k, .int .i64 c.g, .int .u64 c.q, .slice (some ⟨g', 0, none⟩) c.n cg, .int .i64 M.cnt, .int .i64 M.l.kind, .int .i64 M.l.a, .int .i64 M.l.b, .int .u64 (M.l.old : Nat), .int .u64 (M.l.new : Nat), .bool M.l.done]) (by simp [results, Try.results41, go_sem, hZ.cell 0 _ rfl, hZ.cell 1 _ rfl, hZ.cell 2 _ rfl, hZ.cell 3 _ rfl, hZ.cell 4 _ rfl, hZ.cell 5 _ rfl, hZ.cell 6 _ rfl, hZ.cell 7 _ rfl, hZ.cell 8 _ rfl, hZ.cell 9 _ rfl, hZ.cell 10 _ rfl, hZ.cell 11 _ rfl, hZ.cell 12 _ rfl]) rfl ?_
      exact ⟨_, rfl, .inr ⟨g', 0, cg, rfl, hn0, hc1, hc2, (hS.get 2 rfl).lt, fun j hj => ⟨by rw [Nat.zero_add]; exact (hS.get 2 rfl).cell j _ (rowW_get _ c.n j hj), (unhide HWD) j hj⟩⟩, .inr ⟨g', cg, rfl, hS.low (g', _) (List.mem_of_getElem? (i := 2) rfl), hc1, hc2, hS.get 2 rfl⟩, hS.bel⟩

end Go.Proofs.Ytcpmclidndmgeaa

/-
  The walk of the document's own swap.
-/
namespace Go.Proofs.Ytcpmclidndmgeaa
set_option maxRecDepth 100000
open Go.RowKit Go.Sort

set_option maxHeartbeats 8000000 in
theorem rSwap_any (c : Um.Cf) (v : Value) (m M : Um.Mm) (a b : Int) (o x : Nat) (w : World) (hr : c.r = true) (hv : IsWords w v c.n m.ws) (hx : Um.Word x) (hM : M = Um.mtouch c m 3 a b o x) :
    Calls Try.prog 45 #[.agg #[.int .i64 c.t, .int .i64 c.s, .int .i64 c.k, .int .i64 c.g, .int .u64 c.q, v, .int .i64 m.cnt, .int .i64 m.l.kind, .int .i64 m.l.a, .int .i64 m.l.b, .int .u64 (m.l.old : Nat), .int .u64 (m.l.new : Nat), .bool m.l.done], .int .i64 a, .int .i64 b, .int .u64 (o : Nat), .int .u64 (x : Nat)] w fun e W' =>
      ∃ v', e = .returned (.tuple #[.agg #[.int .i64 c.t, .int .i64 c.s, .int .i64 c.k, .int .i64 c.g, .int .u64 c.q, v', .int .i64 M.cnt, .int .i64 M.l.kind, .int .i64 M.l.a, .int .i64 M.l.b, .int .u64 (M.l.old : Nat), .int .u64 (M.l.new : Nat), .bool M.l.done], .bool M.l.done]) ∧ IsWords W' v' c.n M.ws ∧ (v' = v ∨ RFresh w W' v' c.n M.ws) ∧ Below w.heap.size w W' := by
  have hn0 : 0 < c.n := by have := Um.Cf.n_pos hr; omega
  have HWD := hide (show ∀ j, j < c.n → Um.Word (M.ws j) by rw [hM]; exact Um.word_touch (words_word hv) hx)
  have hT := fun w hv => rTouch_any c v m M 3 a b o x w hr hv hx (.inr (.inr (.inl rfl))) hM
  have HV := hide hv
  have HT := hide hT
  obtain ⟨sv, cap, rfl⟩ := words_len hv
  clear hv hT hM hx
  have hS := St.new w
  go_enter Try.func45, Try.ntmps45
  go_wp2_with (first | (refine wpl_box hS rfl _ _ rfl _ rfl _ (by intro _; simp only [Act.put, List.setIfInBounds_toArray, List.set_cons_zero, List.set_cons_succ]; first | done | exact rfl) ?_; clear hS; intro _ _ hS; dsimp only [blit, List.set, List.cons_append, List.nil_append, Value.cells, List.toList_toArray] at hS) | (refine wpl_alloc hS rfl _ rfl _ (zer_any rfl) _ (by intro _; simp only [Act.put, List.setIfInBounds_toArray, List.set_cons_zero, List.set_cons_succ]; first | done | exact rfl) ?_; clear hS; intro _ _ hS; dsimp only [blit, List.set, List.cons_append, List.nil_append, Value.cells, List.toList_toArray] at hS) | (refine wpl_ld hS rfl _ _ rfl _ _ rfl ?_; (first | refine ⟨0, _, rfl, ?_⟩ | refine ⟨1, _, rfl, ?_⟩ | refine ⟨2, _, rfl, ?_⟩ | refine ⟨3, _, rfl, ?_⟩ | refine ⟨4, _, rfl, ?_⟩ | refine ⟨5, _, rfl, ?_⟩ | refine ⟨6, _, rfl, ?_⟩ | refine ⟨7, _, rfl, ?_⟩ | refine ⟨8, _, rfl, ?_⟩ | refine ⟨9, _, rfl, ?_⟩); first | refine .inl ⟨_, one_any rfl, rfl, _, (by simp only [Act.put, List.setIfInBounds_toArray, List.set_cons_zero, List.set_cons_succ]; first | done | exact rfl), ?_⟩ | refine .inr ⟨_, _, row_any rfl, rfl, (by dsimp only [cutL, List.drop, List.take]; first | done | exact rfl), _, (by simp only [Act.put, List.setIfInBounds_toArray, List.set_cons_zero, List.set_cons_succ]; first | done | exact rfl), ?_⟩) | (refine wpl_st hS rfl _ _ _ rfl rfl _ _ rfl ?_; (first | refine ⟨0, _, rfl, ?_⟩ | refine ⟨1, _, rfl, ?_⟩ | refine ⟨2, _, rfl, ?_⟩ | refine ⟨3, _, rfl, ?_⟩ | refine ⟨4, _, rfl, ?_⟩ | refine ⟨5, _, rfl, ?_⟩ | refine ⟨6, _, rfl, ?_⟩ | refine ⟨7, _, rfl, ?_⟩ | refine ⟨8, _, rfl, ?_⟩ | refine ⟨9, _, rfl, ?_⟩); refine ⟨_, (by first | exact shA rfl | exact shI rfl | exact shB rfl | exact shS rfl | exact shP rfl | exact shF rfl | exact shN rfl), _, siz_any rfl, (by exact rfl), (by exact rfl), (by exact rfl), ?_⟩; clear hS; intro _ hS; dsimp only [blit, List.set, List.cons_append, List.nil_append, Value.cells, List.toList_toArray] at hS))
  rename_i B _ R X _ _
  refine wp_region_og (I := fun D a' w' => ∃ (bA bT : Nat) (v' : Value) (G : List (Nat × List Value)), a' = ⟨#[.agg #[.int .i64 c.t, .int .i64 c.s, .int .i64 c.k, .int .i64 c.g, .int .u64 c.q, .slice sv c.n cap, .int .i64 m.cnt, .int .i64 m.l.kind, .int .i64 m.l.a, .int .i64 m.l.b, .int .u64 (m.l.old : Nat), .int .u64 (m.l.new : Nat), .bool m.l.done], .int .i64 a, .int .i64 b, .int .u64 (o : Nat), .int .u64 (x : Nat), .pointer (some ⟨B, 0, none⟩), undef, undef, undef, undef, .pointer (some ⟨R, 0, none⟩), .bool false, (cond (D 10) (.pointer (some ⟨bA, 0, none⟩)) undef), (cond (D 11) (.pointer (some ⟨bT, 0, none⟩)) undef), (cond (D 7) (.tuple #[.agg #[.int .i64 c.t, .int .i64 c.s, .int .i64 c.k, .int .i64 c.g, .int .u64 c.q, v', .int .i64 M.cnt, .int .i64 M.l.kind, .int .i64 M.l.a, .int .i64 M.l.b, .int .u64 (M.l.old : Nat), .int .u64 (M.l.new : Nat), .bool M.l.done], .agg #[.int .i64 M.l.kind, .int .i64 M.l.a, .int .i64 M.l.b, .int .u64 (M.l.old : Nat), .int .u64 (M.l.new : Nat), .bool M.l.done]]) undef), (cond (D 0) (.agg #[.int .i64 c.t, .int .i64 c.s, .int .i64 c.k, .int .i64 c.g, .int .u64 c.q, .slice sv c.n cap, .int .i64 m.cnt, .int .i64 m.l.kind, .int .i64 m.l.a, .int .i64 m.l.b, .int .u64 (m.l.old : Nat), .int .u64 (m.l.new : Nat), .bool m.l.done]) undef), (cond (D 1) (.int .i64 a) undef), (cond (D 2) (.int .i64 b) undef), (cond (D 3) (.agg #[.int .i64 a, .int .i64 b]) undef), (cond (D 4) (.int .u64 (o : Nat)) undef), (cond (D 5) (.int .u64 (x : Nat)) undef), (cond (D 6) (.tuple #[.agg #[.int .i64 c.t, .int .i64 c.s, .int .i64 c.k, .int .i64 c.g, .int .u64 c.q, v', .int .i64 M.cnt, .int .i64 M.l.kind, .int .i64 M.l.a, .int .i64 M.l.b, .int .u64 (M.l.old : Nat), .int .u64 (M.l.new : Nat), .bool M.l.done], .agg #[.int .i64 M.l.kind, .int .i64 M.l.a, .int .i64 M.l.b, .int .u64 (M.l.old : Nat), .int .u64 (M.l.new : Nat), .bool M.l.done]]) undef), (cond (D 8) (.agg #[.int .i64 c.t, .int .i64 c.s, .int .i64 c.k, .int .i64 c.g, .int .u64 c.q, v', .int .i64 M.cnt, .int .i64 M.l.kind, .int .i64 M.l.a, .int .i64 M.l.b, .int .u64 (M.l.old : Nat), .int .u64 (M.l.new : Nat), .bool M.l.done]) undef), (cond (D 9) (.agg #[.int .i64 M.l.kind, .int .i64 M.l.a, .int .i64 M.l.b, .int .u64 (M.l.old : Nat), .int .u64 (M.l.new : Nat), .bool M.l.done]) undef), undef, undef, undef], []⟩ ∧ (D 6 = true → ((v' = .slice sv c.n cap ∧ G = [] ∧ IsWords w (.slice sv c.n cap) c.n M.ws) ∨ ∃ g' cg, v' = .slice (some ⟨g', 0, none⟩) c.n cg ∧ c.n ≤ cg ∧ cg ≤ maxLen ∧ G = [(g', rowW M.ws c.n)])) ∧ (D 6 = false → G = []) ∧ (D 7 = true → D 6 = true) ∧ (D 8 = true → D 6 = true) ∧ (D 12 = true → D 6 = true) ∧ (D 12 = true → D 10 = true) ∧ (D 13 = true → D 11 = true) ∧ St w w' ([(B, [.int .i64 c.t, .int .i64 c.s, .int .i64 c.k, .int .i64 c.g, .int .u64 c.q, .slice sv c.n cap, .int .i64 m.cnt, .int .i64 m.l.kind, .int .i64 m.l.a, .int .i64 m.l.b, .int .u64 (m.l.old : Nat), .int .u64 (m.l.new : Nat), .bool m.l.done]), (R, [.int .i64 0, .int .i64 0, .int .i64 0, .int .i64 0, .int .u64 0, .slice none 0 0, .int .i64 0, .int .i64 0, .int .i64 0, .int .i64 0, .int .u64 0, .int .u64 0, .bool false])] ++ G ++ cond (D 10) [(bA, cond (D 12) [.int .i64 c.t, .int .i64 c.s, .int .i64 c.k, .int .i64 c.g, .int .u64 c.q, v', .int .i64 M.cnt, .int .i64 M.l.kind, .int .i64 M.l.a, .int .i64 M.l.b, .int .u64 (M.l.old : Nat), .int .u64 (M.l.new : Nat), .bool M.l.done] [.int .i64 0, .int .i64 0, .int .i64 0, .int .i64 0, .int .u64 0, .slice none 0 0, .int .i64 0, .int .i64 0, .int .i64 0, .int .i64 0, .int .u64 0, .int .u64 0, .bool false])] [] ++ cond (D 11) [(bT, cond (D 13) [.int .i64 M.l.kind, .int .i64 M.l.a, .int .i64 M.l.b, .int .u64 (M.l.old : Nat), .int .u64 (M.l.new : Nat), .bool M.l.done] [.int .i64 0, .int .i64 0, .int .i64 0, .int .u64 0, .int .u64 0, .bool false])] [])) (by kernel_rfl) ?acyc ?start ?steps ?ends
  case acyc =>
    intro i o hi e he hb
    exact og_acyc (by kernel_rfl) hi he hb
  case start => exact ⟨0, 0, .nilIface, [], rfl, (fun h => by cases h), (fun _ => rfl), (fun h => by cases h), (fun h => by cases h), (fun h => by cases h), (fun h => by cases h), (fun h => by cases h), hS.drew⟩
  case steps =>
    intro i o hi D a' w' hD hpre hI
    obtain ⟨bA, bT, v', G, rfl, hRel, hG, hcM, hcX, hcS, hcA, hcT, hS⟩ := hI
    match i, hi with
    | 0, hi =>
      cases hi
      refine wpOp_step rfl (fun K hK => ?_)
      refine stp_val rfl (yif_load (S := fun q => q = w') rfl _ _ rfl _ _ rfl _ (fun _ h => h ▸ hS.get 0 rfl) _ row_rmem (by exact rfl) _ (by dsimp only [cutL, List.drop, List.take]; first | done | exact rfl)) rfl ?_
      exact hK _ _ ⟨bA, bT, v', G, rfl, hRel, hG, hcM, hcX, hcS, hcA, hcT, hS⟩
    | 1, hi =>
      cases hi
      refine wpOp_step rfl (fun K hK => ?_)
      refine stp_val rfl (by exact yif_moveI rfl _ (.inl rfl) _ _ rfl) rfl ?_
      exact hK _ _ ⟨bA, bT, v', G, rfl, hRel, hG, hcM, hcX, hcS, hcA, hcT, hS⟩
    | 2, hi =>
      cases hi
      refine wpOp_step rfl (fun K hK => ?_)
      refine stp_val rfl (by exact yif_moveI rfl _ (.inl rfl) _ _ rfl) rfl ?_
      exact hK _ _ ⟨bA, bT, v', G, rfl, hRel, hG, hcM, hcX, hcS, hcA, hcT, hS⟩
    | 3, hi =>
      cases hi
      have d1 : D 1 = true := og_pre hpre (j := 1) (by kernel_rfl)
      have d2 : D 2 = true := og_pre hpre (j := 2) (by kernel_rfl)
      refine wpOp_step rfl (fun K hK => ?_)
      refine stp_call rfl _ _ _ rfl egSp _ (list2_eq (cond_at d1 rfl) (cond_at d2 rfl)) _ rfl ?_
      refine (rSpot_any _ _ _).mono ?_
      rintro e u ⟨rfl, hb⟩
      exact ⟨_, rfl, hK _ _ ⟨bA, bT, v', G, rfl, hRel, hG, hcM, hcX, hcS, hcA, hcT, hS.call hb⟩⟩
    | 4, hi =>
      cases hi
      refine wpOp_step rfl (fun K hK => ?_)
      refine stp_val rfl (by exact yif_moveI rfl _ (.inl rfl) _ _ rfl) rfl ?_
      exact hK _ _ ⟨bA, bT, v', G, rfl, hRel, hG, hcM, hcX, hcS, hcA, hcT, hS⟩
    | 5, hi =>
      cases hi
      refine wpOp_step rfl (fun K hK => ?_)
      refine stp_val rfl (by exact yif_moveI rfl _ (.inl rfl) _ _ rfl) rfl ?_
      exact hK _ _ ⟨bA, bT, v', G, rfl, hRel, hG, hcM, hcX, hcS, hcA, hcT, hS⟩
    | 6, hi =>
      cases hi
      have d0 : D 0 = true := og_pre hpre (j := 0) (by kernel_rfl)
      have d3 : D 3 = true := og_pre hpre (j := 3) (by kernel_rfl)
      have d4 : D 4 = true := og_pre hpre (j := 4) (by kernel_rfl)
      have d5 : D 5 = true := og_pre hpre (j := 5) (by kernel_rfl)
      refine wpOp_step rfl (fun K hK => ?_)
      refine stp_call rfl _ _ _ rfl egTo _ (list5_eq (cond_at d0 rfl) rfl (cond_at d3 rfl) (cond_at d4 rfl) (cond_at d5 rfl)) _ rfl ?_
      refine ((unhide HT) _ (((unhide HV).low.below hS.bel).is hS.bel.size)).mono ?_
      rintro e w4 ⟨vn, rfl, hI, hF, hb⟩
      obtain rfl := hG hD
      have m0 := og_not hcM hD
      have x0 := og_not hcX hD
      have z0 := og_not hcS hD
      refine ⟨_, rfl, ?_⟩
      rcases hF with rfl | ⟨g', cg, rfl, lg, hc1, hc2, hGb⟩
      · exact hK _ _ ⟨bA, bT, _, [], (by simp only [m0, x0]; rfl), (fun _ => .inl ⟨rfl, rfl, words_back (unhide HV) hI (hS.call hb).bel (Below.refl _ _)⟩), (fun _ => rfl), (fun _ => rfl), (fun _ => rfl), (fun _ => rfl), hcA, hcT, (by have h := hS.call hb; rw [z0] at h; show St w w4 (_ ++ _ ++ cond (D 10) [(bA, cond (D 12) _ _)] _ ++ _); rw [z0]; exact h)⟩
      · exact hK _ _ ⟨bA, bT, _, [(g', rowW M.ws c.n)], (by simp only [m0, x0]; rfl), (fun _ => .inr ⟨g', cg, rfl, hc1, hc2, rfl⟩), (fun h => by cases h), (fun _ => rfl), (fun _ => rfl), (fun _ => rfl), hcA, hcT, (by have h := hS.add hb hGb lg; rw [z0] at h; show St w w4 (_ ++ _ ++ cond (D 10) [(bA, cond (D 12) _ _)] _ ++ _); rw [z0]; exact h.perm (perm_last _))⟩
    | 7, hi =>
      cases hi
      have d6 : D 6 = true := og_pre hpre (j := 6) (by kernel_rfl)
      refine wpOp_step rfl (fun K hK => ?_)
      refine stp_val rfl (by exact yif_mv rfl (.tmp 21) rfl _ (cond_at d6 rfl)) rfl ?_
      exact hK _ _ ⟨bA, bT, v', G, rfl, hRel, hG, (fun _ => d6), hcX, hcS, hcA, hcT, hS⟩
    | 8, hi =>
      cases hi
      have d7 : D 7 = true := og_pre hpre (j := 7) (by kernel_rfl)
      refine wpOp_step rfl (fun K hK => ?_)
      refine stp_val rfl (by refine yif_extract rfl (.tmp 14) 0 rfl [.agg #[.int .i64 c.t, .int .i64 c.s, .int .i64 c.k, .int .i64 c.g, .int .u64 c.q, v', .int .i64 M.cnt, .int .i64 M.l.kind, .int .i64 M.l.a, .int .i64 M.l.b, .int .u64 (M.l.old : Nat), .int .u64 (M.l.new : Nat), .bool M.l.done], .agg #[.int .i64 M.l.kind, .int .i64 M.l.a, .int .i64 M.l.b, .int .u64 (M.l.old : Nat), .int .u64 (M.l.new : Nat), .bool M.l.done]] ?_ _ rfl; exact cond_at d7 rfl) rfl ?_
      exact hK _ _ ⟨bA, bT, v', G, rfl, hRel, hG, hcM, (fun _ => hcM d7), hcS, hcA, hcT, hS⟩
    | 9, hi =>
      cases hi
      have d7 : D 7 = true := og_pre hpre (j := 7) (by kernel_rfl)
      refine wpOp_step rfl (fun K hK => ?_)
      refine stp_val rfl (by refine yif_extract rfl (.tmp 14) 1 rfl [.agg #[.int .i64 c.t, .int .i64 c.s, .int .i64 c.k, .int .i64 c.g, .int .u64 c.q, v', .int .i64 M.cnt, .int .i64 M.l.kind, .int .i64 M.l.a, .int .i64 M.l.b, .int .u64 (M.l.old : Nat), .int .u64 (M.l.new : Nat), .bool M.l.done], .agg #[.int .i64 M.l.kind, .int .i64 M.l.a, .int .i64 M.l.b, .int .u64 (M.l.old : Nat), .int .u64 (M.l.new : Nat), .bool M.l.done]] ?_ _ rfl; exact cond_at d7 rfl) rfl ?_
      exact hK _ _ ⟨bA, bT, v', G, rfl, hRel, hG, hcM, hcX, hcS, hcA, hcT, hS⟩
    | 10, hi =>
      cases hi
      refine wpOp_step rfl (fun K hK => ?_)
      have e0 := og_not hcA hD
      refine stp_alloc hS rfl _ rfl _ zer_rmem _ rfl _ rfl _ (fun _ => rfl) ?_
      intro bn u hS'
      rw [hD] at hS'
      refine hK _ _ ⟨bn, bT, v', G, rfl, hRel, hG, hcM, hcX, hcS, (fun _ => rfl), hcT, ?_⟩
      show St w u (_ ++ G ++ [(bn, cond (D 12) _ _)] ++ _)
      rw [e0]
      exact hS'.perm (perm_mid _)
    | 11, hi =>
      cases hi
      refine wpOp_step rfl (fun K hK => ?_)
      have e0 := og_not hcT hD
      refine stp_alloc hS rfl _ rfl _ zer_rtch _ rfl _ rfl _ (fun _ => rfl) ?_
      intro bn u hS'
      rw [hD] at hS'
      refine hK _ _ ⟨bA, bn, v', G, rfl, hRel, hG, hcM, hcX, hcS, hcA, (fun _ => rfl), ?_⟩
      show St w u (_ ++ G ++ _ ++ [(bn, cond (D 13) _ _)])
      rw [e0]
      rw [cond_false, List.append_nil] at hS'
      exact hS'
    | 12, hi =>
      cases hi
      have d0 : D 0 = true := og_pre hpre (j := 0) (by kernel_rfl)
      have d1 : D 1 = true := og_pre hpre (j := 1) (by kernel_rfl)
      have d2 : D 2 = true := og_pre hpre (j := 2) (by kernel_rfl)
      have d3 : D 3 = true := og_pre hpre (j := 3) (by kernel_rfl)
      have d4 : D 4 = true := og_pre hpre (j := 4) (by kernel_rfl)
      have d5 : D 5 = true := og_pre hpre (j := 5) (by kernel_rfl)
      have d6 : D 6 = true := og_pre hpre (j := 6) (by kernel_rfl)
      have d7 : D 7 = true := og_pre hpre (j := 7) (by kernel_rfl)
      have d8 : D 8 = true := og_pre hpre (j := 8) (by kernel_rfl)
      have d10 : D 10 = true := og_pre hpre (j := 10) (by kernel_rfl)
      have d11 : D 11 = true := og_pre hpre (j := 11) (by kernel_rfl)
      refine wpOp_step rfl (fun K hK => ?_)
      rw [d10, hD, cond_true, cond_false] at hS
      rcases hRel d6 with ⟨rfl, rfl, h3⟩ | ⟨g', cg, rfl, hc1, hc2, rfl⟩
      · refine stp_store hS 2 rfl _ _ _ rfl _ _ (cond_at d10 rfl) _ rfl _ (cond_at d8 rfl) _ siz_rmem (by exact rfl) (by exact rfl) (by exact rfl) rfl ?_
        intro u hS'
        refine hK _ _ ⟨bA, bT, _, _, rfl, (fun _ => .inl ⟨rfl, rfl, h3⟩), hG, hcM, hcX, (fun _ => d6), (fun _ => d10), hcT, ?_⟩
        show St w u (_ ++ _ ++ cond (D 10) _ _ ++ _)
        rw [d10]
        exact hS'
      · refine stp_store hS 3 rfl _ _ _ rfl _ _ (cond_at d10 rfl) _ rfl _ (cond_at d8 rfl) _ siz_rmem (by exact rfl) (by exact rfl) (by exact rfl) rfl ?_
        intro u hS'
        refine hK _ _ ⟨bA, bT, _, _, rfl, (fun _ => .inr ⟨g', cg, rfl, hc1, hc2, rfl⟩), hG, hcM, hcX, (fun _ => d6), (fun _ => d10), hcT, ?_⟩
        show St w u (_ ++ _ ++ cond (D 10) _ _ ++ _)
        rw [d10]
        exact hS'
    | 13, hi =>
      cases hi
      have d0 : D 0 = true := og_pre hpre (j := 0) (by kernel_rfl)
      have d1 : D 1 = true := og_pre hpre (j := 1) (by kernel_rfl)
      have d2 : D 2 = true := og_pre hpre (j := 2) (by kernel_rfl)
      have d3 : D 3 = true := og_pre hpre (j := 3) (by kernel_rfl)
      have d4 : D 4 = true := og_pre hpre (j := 4) (by kernel_rfl)
      have d5 : D 5 = true := og_pre hpre (j := 5) (by kernel_rfl)
      have d6 : D 6 = true := og_pre hpre (j := 6) (by kernel_rfl)
      have d7 : D 7 = true := og_pre hpre (j := 7) (by kernel_rfl)
      have d8 : D 8 = true := og_pre hpre (j := 8) (by kernel_rfl)
      have d9 : D 9 = true := og_pre hpre (j := 9) (by kernel_rfl)
      have d10 : D 10 = true := og_pre hpre (j := 10) (by kernel_rfl)
      have d11 : D 11 = true := og_pre hpre (j := 11) (by kernel_rfl)
      have d12 : D 12 = true := og_pre hpre (j := 12) (by kernel_rfl)
      refine wpOp_step rfl (fun K hK => ?_)
      rw [d10, d12, d11, hD, cond_true, cond_true, cond_true, cond_false] at hS
      rcases hRel d6 with ⟨rfl, rfl, h3⟩ | ⟨g', cg, rfl, hc1, hc2, rfl⟩
      · refine stp_store hS 3 rfl _ _ _ rfl _ _ (cond_at d11 rfl) _ rfl _ (cond_at d9 rfl) _ siz_rtch (by exact rfl) (by exact rfl) (by exact rfl) rfl ?_
        intro u hS'
        refine hK _ _ ⟨bA, bT, _, _, rfl, (fun _ => .inl ⟨rfl, rfl, h3⟩), hG, hcM, hcX, hcS, hcA, (fun _ => d11), ?_⟩
        show St w u (_ ++ _ ++ cond (D 10) [(bA, cond (D 12) _ _)] _ ++ cond (D 11) _ _)
        rw [d10, d12, d11]
        exact hS'
      · refine stp_store hS 4 rfl _ _ _ rfl _ _ (cond_at d11 rfl) _ rfl _ (cond_at d9 rfl) _ siz_rtch (by exact rfl) (by exact rfl) (by exact rfl) rfl ?_
        intro u hS'
        refine hK _ _ ⟨bA, bT, _, _, rfl, (fun _ => .inr ⟨g', cg, rfl, hc1, hc2, rfl⟩), hG, hcM, hcX, hcS, hcA, (fun _ => d11), ?_⟩
        show St w u (_ ++ _ ++ cond (D 10) [(bA, cond (D 12) _ _)] _ ++ cond (D 11) _ _)
        rw [d10, d12, d11]
        exact hS'
    | i + 14, hi => simp at hi
  case ends =>
    intro D a' w' hall hI
    obtain ⟨bA, bT, v', G, rfl, hRel, _, _, _, _, _, _, hS⟩ := hI
    have d0 : D 0 = true := hall 0 (by decide)
    have d1 : D 1 = true := hall 1 (by decide)
    have d2 : D 2 = true := hall 2 (by decide)
    have d3 : D 3 = true := hall 3 (by decide)
    have d4 : D 4 = true := hall 4 (by decide)
    have d5 : D 5 = true := hall 5 (by decide)
    have d6 : D 6 = true := hall 6 (by decide)
    have d7 : D 7 = true := hall 7 (by decide)
    have d8 : D 8 = true := hall 8 (by decide)
    have d9 : D 9 = true := hall 9 (by decide)
    have d10 : D 10 = true := hall 10 (by decide)
    have d11 : D 11 = true := hall 11 (by decide)
    have d12 : D 12 = true := hall 12 (by decide)
    have d13 : D 13 = true := hall 13 (by decide)
    rw [d10, d12, d11, d13, cond_true, cond_true, cond_true, cond_true] at hS
    have hRl := hRel d6
    simp only [d0, d1, d2, d3, d4, d5, d6, d7, d8, d9, d10, d11, cond_true]
    clear hRel hall d0 d1 d2 d3 d4 d5 d6 d7 d8 d9 d10 d11 d12 d13
    rcases hRl with ⟨rfl, rfl, h3⟩ | ⟨g', cg, rfl, hc1, hc2, rfl⟩
    · dsimp only [List.cons_append, List.nil_append, List.append_nil] at hS
      go_wp2_with fail
      refine wp_region_held (S := fun q => BlkAt q bA [.int .i64 c.t, .int .i64 c.s, .int .i64 c.k, .int .i64 c.g, .int .u64 c.q, .slice sv c.n cap, .int .i64 M.cnt, .int .i64 M.l.kind, .int .i64 M.l.a, .int .i64 M.l.b, .int .u64 (M.l.old : Nat), .int .u64 (M.l.new : Nat), .bool M.l.done] ∧ BlkAt q bT [.int .i64 M.l.kind, .int .i64 M.l.a, .int .i64 M.l.b, .int .u64 (M.l.old : Nat), .int .u64 (M.l.new : Nat), .bool M.l.done]) (by kernel_rfl) ?_
      show wpAnyH Try.prog .any _ _ _ 5 _ _ (World.drew w')
      replace hS := hS.drew
      have hM : BlkAt (World.drew w') bA [.int .i64 c.t, .int .i64 c.s, .int .i64 c.k, .int .i64 c.g, .int .u64 c.q, .slice sv c.n cap, .int .i64 M.cnt, .int .i64 M.l.kind, .int .i64 M.l.a, .int .i64 M.l.b, .int .u64 (M.l.old : Nat), .int .u64 (M.l.new : Nat), .bool M.l.done] ∧ BlkAt (World.drew w') bT [.int .i64 M.l.kind, .int .i64 M.l.a, .int .i64 M.l.b, .int .u64 (M.l.old : Nat), .int .u64 (M.l.new : Nat), .bool M.l.done] := ⟨hS.get 2 rfl, hS.get 3 rfl⟩
      refine held_take (i := 0) rfl (by kernel_rfl) (by kernel_rfl) (by kernel_rfl) (fun _ _ _ h => h) (yif_load rfl _ _ rfl _ _ rfl _ (fun _ h => h.1) _ row_rmem (by exact rfl) _ (by dsimp only [cutL, List.drop, List.take]; first | done | exact rfl)) hM (some 24) rfl _ (by simp only [Act.put, List.setIfInBounds_toArray, List.set_cons_zero, List.set_cons_succ]; first | done | exact rfl) ?_
      refine held_take (i := 1) rfl (by kernel_rfl) (by kernel_rfl) (by kernel_rfl) (fun _ _ _ h => h) (yif_by rfl _ (fun w => by go_simp; first | done | exact rfl)) hM (some 25) rfl _ (by simp only [Act.put, List.setIfInBounds_toArray, List.set_cons_zero, List.set_cons_succ]; first | done | exact rfl) ?_
      refine held_take (i := 2) rfl (by kernel_rfl) (by kernel_rfl) (by kernel_rfl) (fun _ _ _ h => h) (yif_load1 rfl _ _ rfl _ _ rfl _ (fun _ h => h.2) one_bool _ rfl) hM (some 26) rfl _ (by simp only [Act.put, List.setIfInBounds_toArray, List.set_cons_zero, List.set_cons_succ]; first | done | exact rfl) ?_
      refine wpAnyH_all (rs := [3]) (by kernel_rfl) (by simp) ?_
      refine AllReadyH.cons rfl (fun K hK => ?_) AllReadyH.nil
      · refine stp_store hS 1 rfl _ _ _ rfl _ _ rfl _ rfl _ rfl _ siz_rmem (by exact rfl) (by exact rfl) (by exact rfl) rfl ?_
        clear hS hM
        intro _ hS
        dsimp only [blit, List.set] at hS
        refine hK.out _ _ ⟨hS.get 2 rfl, hS.get 3 rfl⟩ (fun hM => ?_)
        clear hK
        refine held_take (i := 4) rfl (by kernel_rfl) (by kernel_rfl) (by kernel_rfl) (fun _ _ _ h => h) (yif_moveB rfl _ (.inr rfl) _ rfl) hM (some 11) rfl _ (by simp only [Act.put, List.setIfInBounds_toArray, List.set_cons_zero, List.set_cons_succ]; first | done | exact rfl) ?_
        refine wpAnyH_done (by kernel_rfl) ?_ _
        clear hM
        try simp only [Act.put, List.setIfInBounds_toArray, List.set_cons_zero, List.set_cons_succ]
        go_wp2
        have hZ := hS.get 1 rfl
        refine bodyPost_ret (v := .tuple #[.agg #[.int .i64 c.t, .int .i64 c.s, .int .i64 c.k, .int .i64 c.g, .int .u64 c.q, .slice sv c.n cap, .int .i64 M.cnt, .int .i64 M.l.kind, .int .i64 M.l.a, .int .i64 M.l.b, .int .u64 (M.l.old : Nat), .int .u64 (M.l.new : Nat), .bool M.l.done], .bool M.l.done]) (by simp [results, Try.results45, go_sem, hZ.cell 0 _ rfl, hZ.cell 1 _ rfl, hZ.cell 2 _ rfl, hZ.cell 3 _ rfl, hZ.cell 4 _ rfl, hZ.cell 5 _ rfl, hZ.cell 6 _ rfl, hZ.cell 7 _ rfl, hZ.cell 8 _ rfl, hZ.cell 9 _ rfl, hZ.cell 10 _ rfl, hZ.cell 11 _ rfl, hZ.cell 12 _ rfl]) rfl ?_
        exact ⟨_, rfl, (h3.low.below hS.bel).is hS.bel.size, .inl rfl, hS.bel⟩
    · dsimp only [List.cons_append, List.nil_append, List.append_nil] at hS
      go_wp2_with fail
      refine wp_region_held (S := fun q => BlkAt q bA [.int .i64 c.t, .int .i64 c.s, .int .i64 c.k, .int .i64 c.g, .int .u64 c.q, .slice (some ⟨g', 0, none⟩) c.n cg, .int .i64 M.cnt, .int .i64 M.l.kind, .int .i64 M.l.a, .int .i64 M.l.b, .int .u64 (M.l.old : Nat), .int .u64 (M.l.new : Nat), .bool M.l.done] ∧ BlkAt q bT [.int .i64 M.l.kind, .int .i64 M.l.a, .int .i64 M.l.b, .int .u64 (M.l.old : Nat), .int .u64 (M.l.new : Nat), .bool M.l.done]) (by kernel_rfl) ?_
      show wpAnyH Try.prog .any _ _ _ 5 _ _ (World.drew w')
      replace hS := hS.drew
      have hM : BlkAt (World.drew w') bA [.int .i64 c.t, .int .i64 c.s, .int .i64 c.k, .int .i64 c.g, .int .u64 c.q, .slice (some ⟨g', 0, none⟩) c.n cg, .int .i64 M.cnt, .int .i64 M.l.kind, .int .i64 M.l.a, .int .i64 M.l.b, .int .u64 (M.l.old : Nat), .int .u64 (M.l.new : Nat), .bool M.l.done] ∧ BlkAt (World.drew w') bT [.int .i64 M.l.kind, .int .i64 M.l.a, .int .i64 M.l.b, .int .u64 (M.l.old : Nat), .int .u64 (M.l.new : Nat), .bool M.l.done] := ⟨hS.get 3 rfl, hS.get 4 rfl⟩
      refine held_take (i := 0) rfl (by kernel_rfl) (by kernel_rfl) (by kernel_rfl) (fun _ _ _ h => h) (yif_load rfl _ _ rfl _ _ rfl _ (fun _ h => h.1) _ row_rmem (by exact rfl) _ (by dsimp only [cutL, List.drop, List.take]; first | done | exact rfl)) hM (some 24) rfl _ (by simp only [Act.put, List.setIfInBounds_toArray, List.set_cons_zero, List.set_cons_succ]; first | done | exact rfl) ?_
      refine held_take (i := 1) rfl (by kernel_rfl) (by kernel_rfl) (by kernel_rfl) (fun _ _ _ h => h) (yif_by rfl _ (fun w => by go_simp; first | done | exact rfl)) hM (some 25) rfl _ (by simp only [Act.put, List.setIfInBounds_toArray, List.set_cons_zero, List.set_cons_succ]; first | done | exact rfl) ?_
      refine held_take (i := 2) rfl (by kernel_rfl) (by kernel_rfl) (by kernel_rfl) (fun _ _ _ h => h) (yif_load1 rfl _ _ rfl _ _ rfl _ (fun _ h => h.2) one_bool _ rfl) hM (some 26) rfl _ (by simp only [Act.put, List.setIfInBounds_toArray, List.set_cons_zero, List.set_cons_succ]; first | done | exact rfl) ?_
      refine wpAnyH_all (rs := [3]) (by kernel_rfl) (by simp) ?_
      refine AllReadyH.cons rfl (fun K hK => ?_) AllReadyH.nil
      · refine stp_store hS 1 rfl _ _ _ rfl _ _ rfl _ rfl _ rfl _ siz_rmem (by exact rfl) (by exact rfl) (by exact rfl) rfl ?_
        clear hS hM
        intro _ hS
        dsimp only [blit, List.set] at hS
        refine hK.out _ _ ⟨hS.get 3 rfl, hS.get 4 rfl⟩ (fun hM => ?_)
        clear hK
        refine held_take (i := 4) rfl (by kernel_rfl) (by kernel_rfl) (by kernel_rfl) (fun _ _ _ h => h) (yif_moveB rfl _ (.inr rfl) _ rfl) hM (some 11) rfl _ (by simp only [Act.put, List.setIfInBounds_toArray, List.set_cons_zero, List.set_cons_succ]; first | done | exact rfl) ?_
        refine wpAnyH_done (by kernel_rfl) ?_ _
        clear hM
        try simp only [Act.put, List.setIfInBounds_toArray, List.set_cons_zero, List.set_cons_succ]
        go_wp2
        have hZ := hS.get 1 rfl
        refine bodyPost_ret (v := .tuple #[.agg #[.int .i64 c.t, .int .i64 c.s, .int .i64 c.k, .int .i64 c.g, .int .u64 c.q, .slice (some ⟨g', 0, none⟩) c.n cg, .int .i64 M.cnt, .int .i64 M.l.kind, .int .i64 M.l.a, .int .i64 M.l.b, .int .u64 (M.l.old : Nat), .int .u64 (M.l.new : Nat), .bool M.l.done], .bool M.l.done]) (by simp [results, Try.results45, go_sem, hZ.cell 0 _ rfl, hZ.cell 1 _ rfl, hZ.cell 2 _ rfl, hZ.cell 3 _ rfl, hZ.cell 4 _ rfl, hZ.cell 5 _ rfl, hZ.cell 6 _ rfl, hZ.cell 7 _ rfl, hZ.cell 8 _ rfl, hZ.cell 9 _ rfl, hZ.cell 10 _ rfl, hZ.cell 11 _ rfl, hZ.cell 12 _ rfl]) rfl ?_
        exact ⟨_, rfl, .inr ⟨g', 0, cg, rfl, hn0, hc1, hc2, (hS.get 2 rfl).lt, fun j hj => ⟨by rw [Nat.zero_add]; exact (hS.get 2 rfl).cell j _ (rowW_get _ c.n j hj), (unhide HWD) j hj⟩⟩, .inr ⟨g', cg, rfl, hS.low (g', _) (List.mem_of_getElem? (i := 2) rfl), hc1, hc2, hS.get 2 rfl⟩, hS.bel⟩

end Go.Proofs.Ytcpmclidndmgeaa

/-
  Layer 6's contracts over blocks of two lists: the program's accesses, the document's, are they alike, a new pair.
-/
namespace Go.Proofs.Ytcpmclidndmgeaa
set_option maxRecDepth 100000
open Go.RowKit Go.Sort

/-- the words of one memory -/
def WordsOk (c : Um.Cf) (m : Um.Mm) : Prop := ∀ q, q < c.n → Um.Word (m.ws q)

/-- an elder block, or a new one -/
def Fr (w : World) (g g' : Nat) : Prop := g' = g ∨ w.heap.size ≤ g'

theorem Fr.refl (w : World) (g : Nat) : Fr w g g := .inl rfl

theorem Fr.trans {w u : World} {g g1 g2 : Nat} (h : Fr w g g1) (k : Fr u g1 g2) (hs : w.heap.size ≤ u.heap.size) : Fr w g g2 := by
  rcases k with rfl | k
  · exact h
  · exact .inr (Nat.le_trans hs k)

section
variable {bs : List Nat} {w0 w : World} {l e : List (Nat × List Value)} {B C g cg : Nat} {c : Um.Cf} {m : Um.Mm}

theorem Sx.mem (hS : Sx bs w0 w l e) (i j : Nat) (hi : l[i]? = some (B, memL c C m)) (hj : l[j]? = some (C, rowW m.ws c.n)) (hij : i ≠ j) (hr : c.r = true) (hw : WordsOk c m) : MemAt w B C c m :=
  memAt_of (hS.get i hi) (hS.get j hj) (hS.ne i j hi hj hij) hr hw

theorem Sx.memd {w' : World} {M : Um.Mm} (hS : Sx bs w0 w l e) (i j : Nat) (hi : l[i]? = some (B, memL c C m)) (hj : l[j]? = some (C, rowW m.ws c.n)) (hM : MemAt w' B C c M) (hO : Off B C w w') : Sx bs w0 w' (putL l [(i, B, memL c C M), (j, C, rowW M.ws c.n)]) e := by
  refine hS.sets _ (fun u hu => ?_) (Turn.of_off hO) (fun u hu => ?_)
  · rcases (by simpa using hu : u = (i, B, memL c C M) ∨ u = (j, C, rowW M.ws c.n)) with rfl | rfl
    · exact ⟨_, hi⟩
    · exact ⟨_, hj⟩
  · rcases (by simpa using hu : u = (i, B, memL c C M) ∨ u = (j, C, rowW M.ws c.n)) with rfl | rfl
    · exact hM.blkB
    · exact hM.blkC

theorem Sx.words (hS : Sx bs w0 w l e) (k : Nat) (hk : e[k]? = some (g, rowW m.ws c.n)) (hr : c.r = true) (hw : WordsOk c m) (h1 : c.n ≤ cg) (h2 : cg ≤ maxLen) : IsWords w (.slice (some ⟨g, 0, none⟩) c.n cg) c.n m.ws :=
  .inr ⟨g, 0, cg, rfl, by have := Um.Cf.n_pos hr; omega, h1, h2, (hS.getE k hk).lt, fun q hq => ⟨by rw [Nat.zero_add]; exact (hS.getE k hk).cell q _ (rowW_get _ c.n q hq), hw q hq⟩⟩

theorem blk_of_words {w' : World} {ws ws' : Nat → Nat} {n : Nat} (hB : BlkAt w' g (rowW ws n)) (hI : IsWords w' (.slice (some ⟨g, 0, none⟩) n cg) n ws') : BlkAt w' g (rowW ws' n) := by
  refine ⟨hB.lt, fun j v hv => ?_, hB.fz⟩
  have hj : j < n := by have := (List.getElem?_eq_some_iff.1 hv).1; rwa [rowW_len] at this
  rw [rowW_get ws' n j hj] at hv
  cases hv
  rcases hI with ⟨_, _, e, h0⟩ | ⟨b, off, cap, e, _, _, _, _, hc⟩
  · omega
  · simp only [Value.slice.injEq, Option.some.injEq, Addr.mk.injEq] at e
    obtain ⟨⟨rfl, rfl, _⟩, _, _⟩ := e
    have := (hc j hj).1
    rwa [Nat.zero_add] at this

/-- what the document's access leaves -/
theorem Sx.handed {w' : World} {v' : Value} {M : Um.Mm} (hS : Sx bs w0 w l e) (k : Nat) (hk : e[k]? = some (g, rowW m.ws c.n)) (h1 : c.n ≤ cg) (h2 : cg ≤ maxLen) (hI : IsWords w' v' c.n M.ws) (hF : v' = (.slice (some ⟨g, 0, none⟩) c.n cg) ∨ RFresh w w' v' c.n M.ws) (hb : Below w.heap.size w w') :
    ∃ g' cg', v' = (.slice (some ⟨g', 0, none⟩) c.n cg') ∧ c.n ≤ cg' ∧ cg' ≤ maxLen ∧ Fr w g g' ∧ Sx bs w0 w' l (e.set k (g', rowW M.ws c.n)) := by
  rcases hF with rfl | ⟨g', cg', rfl, lg, hc1, hc2, hG⟩
  · exact ⟨g, cg, rfl, h1, h2, .inl rfl, hS.ref hb k hk (.inl rfl) (blk_of_words ((hS.getE k hk).below hb) hI)⟩
  · exact ⟨g', cg', rfl, hc1, hc2, .inr lg, hS.ref hb k hk (.inr lg) hG⟩

theorem mLoad_x (hS : Sx bs w0 w l e) (i j : Nat) (hi : l[i]? = some (B, memL c C m)) (hj : l[j]? = some (C, rowW m.ws c.n)) (hij : i ≠ j) (hr : c.r = true) (hw : WordsOk c m) (a b : Int) (hb0 : -9223372036854775808 ≤ b) (hb1 : b ≤ 9223372036854775807) (M : Um.Mm) (hM : M = Um.mtouch c m 1 a b 0 0) :
    Calls Try.prog 33 #[.pointer (some ⟨B, 0, none⟩), (.agg #[.int .i64 a, .int .i64 b])] w fun r w' => r = .returned (.int .u64 (M.l.old : Nat)) ∧ WordsOk c M ∧ Sx bs w0 w' (putL l [(i, B, memL c C M), (j, C, rowW M.ws c.n)]) e := by
  refine (mLoad_any (hS.mem i j hi hj hij hr hw) a b hb0 hb1 M hM).mono ?_
  rintro r w' ⟨rfl, h1, h2⟩
  exact ⟨rfl, h1.wd, hS.memd i j hi hj h1 h2⟩

theorem rLoad_x (hS : Sx bs w0 w l e) (k : Nat) (hk : e[k]? = some (g, rowW m.ws c.n)) (hr : c.r = true) (hw : WordsOk c m) (h1 : c.n ≤ cg) (h2 : cg ≤ maxLen) (a b : Int) (M : Um.Mm) (hM : M = Um.mtouch c m 1 a b 0 0) :
    Calls Try.prog 42 #[(.agg #[.int .i64 c.t, .int .i64 c.s, .int .i64 c.k, .int .i64 c.g, .int .u64 c.q, (.slice (some ⟨g, 0, none⟩) c.n cg), .int .i64 m.cnt, .int .i64 m.l.kind, .int .i64 m.l.a, .int .i64 m.l.b, .int .u64 (m.l.old : Nat), .int .u64 (m.l.new : Nat), .bool m.l.done]), .int .i64 a, .int .i64 b] w fun r w' => ∃ g' cg', r = .returned (.tuple #[(.agg #[.int .i64 c.t, .int .i64 c.s, .int .i64 c.k, .int .i64 c.g, .int .u64 c.q, (.slice (some ⟨g', 0, none⟩) c.n cg'), .int .i64 M.cnt, .int .i64 M.l.kind, .int .i64 M.l.a, .int .i64 M.l.b, .int .u64 (M.l.old : Nat), .int .u64 (M.l.new : Nat), .bool M.l.done]), .int .u64 (M.l.old : Nat)]) ∧ c.n ≤ cg' ∧ cg' ≤ maxLen ∧ Fr w g g' ∧ WordsOk c M ∧ Sx bs w0 w' l (e.set k (g', rowW M.ws c.n)) := by
  refine (rLoad_any c (.slice (some ⟨g, 0, none⟩) c.n cg) m M a b w hr (hS.words k hk hr hw h1 h2) hM).mono ?_
  rintro r w' ⟨v', rfl, hI, hF, hb⟩
  obtain ⟨g', cg', rfl, q1, q2, q3, q4⟩ := hS.handed k hk h1 h2 hI hF hb
  exact ⟨g', cg', rfl, q1, q2, q3, by rw [hM]; exact Um.word_touch hw (by unfold Um.Word; omega), q4⟩

theorem mStore_x (hS : Sx bs w0 w l e) (i j : Nat) (hi : l[i]? = some (B, memL c C m)) (hj : l[j]? = some (C, rowW m.ws c.n)) (hij : i ≠ j) (hr : c.r = true) (hw : WordsOk c m) (a b : Int) (x : Nat) (hx : Um.Word x) (hb0 : -9223372036854775808 ≤ b) (hb1 : b ≤ 9223372036854775807) (M : Um.Mm) (hM : M = Um.mtouch c m 2 a b 0 x) :
    Calls Try.prog 32 #[.pointer (some ⟨B, 0, none⟩), (.agg #[.int .i64 a, .int .i64 b]), .int .u64 (x : Nat)] w fun r w' => r = .returned (.tuple #[]) ∧ WordsOk c M ∧ Sx bs w0 w' (putL l [(i, B, memL c C M), (j, C, rowW M.ws c.n)]) e := by
  refine (mStore_any (hS.mem i j hi hj hij hr hw) a b x hx hb0 hb1 M hM).mono ?_
  rintro r w' ⟨rfl, h1, h2⟩
  exact ⟨rfl, h1.wd, hS.memd i j hi hj h1 h2⟩

theorem rStore_x (hS : Sx bs w0 w l e) (k : Nat) (hk : e[k]? = some (g, rowW m.ws c.n)) (hr : c.r = true) (hw : WordsOk c m) (h1 : c.n ≤ cg) (h2 : cg ≤ maxLen) (a b : Int) (x : Nat) (hx : Um.Word x) (M : Um.Mm) (hM : M = Um.mtouch c m 2 a b 0 x) :
    Calls Try.prog 41 #[(.agg #[.int .i64 c.t, .int .i64 c.s, .int .i64 c.k, .int .i64 c.g, .int .u64 c.q, (.slice (some ⟨g, 0, none⟩) c.n cg), .int .i64 m.cnt, .int .i64 m.l.kind, .int .i64 m.l.a, .int .i64 m.l.b, .int .u64 (m.l.old : Nat), .int .u64 (m.l.new : Nat), .bool m.l.done]), .int .i64 a, .int .i64 b, .int .u64 (x : Nat)] w fun r w' => ∃ g' cg', r = .returned ((.agg #[.int .i64 c.t, .int .i64 c.s, .int .i64 c.k, .int .i64 c.g, .int .u64 c.q, (.slice (some ⟨g', 0, none⟩) c.n cg'), .int .i64 M.cnt, .int .i64 M.l.kind, .int .i64 M.l.a, .int .i64 M.l.b, .int .u64 (M.l.old : Nat), .int .u64 (M.l.new : Nat), .bool M.l.done])) ∧ c.n ≤ cg' ∧ cg' ≤ maxLen ∧ Fr w g g' ∧ WordsOk c M ∧ Sx bs w0 w' l (e.set k (g', rowW M.ws c.n)) := by
  refine (rStore_any c (.slice (some ⟨g, 0, none⟩) c.n cg) m M a b x w hr (hS.words k hk hr hw h1 h2) hx hM).mono ?_
  rintro r w' ⟨v', rfl, hI, hF, hb⟩
  obtain ⟨g', cg', rfl, q1, q2, q3, q4⟩ := hS.handed k hk h1 h2 hI hF hb
  exact ⟨g', cg', rfl, q1, q2, q3, by rw [hM]; exact Um.word_touch hw hx, q4⟩

theorem mSwap_x (hS : Sx bs w0 w l e) (i j : Nat) (hi : l[i]? = some (B, memL c C m)) (hj : l[j]? = some (C, rowW m.ws c.n)) (hij : i ≠ j) (hr : c.r = true) (hw : WordsOk c m) (a b : Int) (o x : Nat) (hx : Um.Word x) (hb0 : -9223372036854775808 ≤ b) (hb1 : b ≤ 9223372036854775807) (M : Um.Mm) (hM : M = Um.mtouch c m 3 a b o x) :
    Calls Try.prog 91 #[.pointer (some ⟨B, 0, none⟩), (.agg #[.int .i64 a, .int .i64 b]), .int .u64 (o : Nat), .int .u64 (x : Nat)] w fun r w' => r = .returned (.bool M.l.done) ∧ WordsOk c M ∧ Sx bs w0 w' (putL l [(i, B, memL c C M), (j, C, rowW M.ws c.n)]) e := by
  refine (mSwap_any (hS.mem i j hi hj hij hr hw) a b o x hx hb0 hb1 M hM).mono ?_
  rintro r w' ⟨rfl, h1, h2⟩
  exact ⟨rfl, h1.wd, hS.memd i j hi hj h1 h2⟩

theorem rSwap_x (hS : Sx bs w0 w l e) (k : Nat) (hk : e[k]? = some (g, rowW m.ws c.n)) (hr : c.r = true) (hw : WordsOk c m) (h1 : c.n ≤ cg) (h2 : cg ≤ maxLen) (a b : Int) (o x : Nat) (hx : Um.Word x) (M : Um.Mm) (hM : M = Um.mtouch c m 3 a b o x) :
    Calls Try.prog 45 #[(.agg #[.int .i64 c.t, .int .i64 c.s, .int .i64 c.k, .int .i64 c.g, .int .u64 c.q, (.slice (some ⟨g, 0, none⟩) c.n cg), .int .i64 m.cnt, .int .i64 m.l.kind, .int .i64 m.l.a, .int .i64 m.l.b, .int .u64 (m.l.old : Nat), .int .u64 (m.l.new : Nat), .bool m.l.done]), .int .i64 a, .int .i64 b, .int .u64 (o : Nat), .int .u64 (x : Nat)] w fun r w' => ∃ g' cg', r = .returned (.tuple #[(.agg #[.int .i64 c.t, .int .i64 c.s, .int .i64 c.k, .int .i64 c.g, .int .u64 c.q, (.slice (some ⟨g', 0, none⟩) c.n cg'), .int .i64 M.cnt, .int .i64 M.l.kind, .int .i64 M.l.a, .int .i64 M.l.b, .int .u64 (M.l.old : Nat), .int .u64 (M.l.new : Nat), .bool M.l.done]), .bool M.l.done]) ∧ c.n ≤ cg' ∧ cg' ≤ maxLen ∧ Fr w g g' ∧ WordsOk c M ∧ Sx bs w0 w' l (e.set k (g', rowW M.ws c.n)) := by
  refine (rSwap_any c (.slice (some ⟨g, 0, none⟩) c.n cg) m M a b o x w hr (hS.words k hk hr hw h1 h2) hx hM).mono ?_
  rintro r w' ⟨v', rfl, hI, hF, hb⟩
  obtain ⟨g', cg', rfl, q1, q2, q3, q4⟩ := hS.handed k hk h1 h2 hI hF hb
  exact ⟨g', cg', rfl, q1, q2, q3, by rw [hM]; exact Um.word_touch hw hx, q4⟩

theorem lAlike_x (hS : Sx bs w0 w l e) (i j : Nat) (hi : l[i]? = some (B, memL c C m)) (hj : l[j]? = some (C, rowW m.ws c.n)) (hij : i ≠ j) (k : Nat) (hk : e[k]? = some (g, rowW m.ws c.n)) (hr : c.r = true) (hw : WordsOk c m) (h1 : c.n ≤ cg) (h2 : cg ≤ maxLen) :
    Calls Try.prog 15 #[.pointer (some ⟨B, 0, none⟩), (.agg #[.int .i64 c.t, .int .i64 c.s, .int .i64 c.k, .int .i64 c.g, .int .u64 c.q, (.slice (some ⟨g, 0, none⟩) c.n cg), .int .i64 m.cnt, .int .i64 m.l.kind, .int .i64 m.l.a, .int .i64 m.l.b, .int .u64 (m.l.old : Nat), .int .u64 (m.l.new : Nat), .bool m.l.done])] w fun r w' => r = .returned (.bool true) ∧ Below w.heap.size w w' :=
  lAlike_true (hS.mem i j hi hj hij hr hw) (.slice (some ⟨g, 0, none⟩) c.n cg) (hS.words k hk hr hw h1 h2)

theorem lOf_x (hS : Sx bs w0 w l e) (c : Um.Cf) (v : Value) (ws : Nat → Nat) (hr : c.r = true) (hv : IsWords w v c.n ws) :
    Calls Try.prog 9 #[(.agg #[.int .i64 (c.t), .int .i64 (c.s), .int .i64 (c.k), .int .i64 (c.g), .int .u64 (c.q : Int)]), v] w fun r w' => ∃ B C g cg, r = .returned (.tuple #[.pointer (some ⟨B, 0, none⟩), (.agg #[.int .i64 (c.t), .int .i64 (c.s), .int .i64 (c.k), .int .i64 (c.g), .int .u64 (c.q : Int), .slice (some ⟨g, 0, none⟩) c.n cg, .int .i64 0, .int .i64 0, .int .i64 0, .int .i64 0, .int .u64 0, .int .u64 0, .bool false]), .bool true]) ∧
      c.n ≤ cg ∧ cg ≤ maxLen ∧ WordsOk c ⟨ws, 0, Um.noT⟩ ∧ Sx bs w0 w' (l ++ [(B, memL c C ⟨ws, 0, Um.noT⟩), (C, rowW ws c.n)]) (e ++ [(g, rowW ws c.n)]) := by
  refine (lOf_own c v ws w hr hv).mono ?_
  rintro r w' ⟨B, C, g, cg, rfl, h1, h2, h3, h4, hM, h5, h6, hG, hb⟩
  refine ⟨B, C, g, cg, rfl, h5, h6, hM.wd, Sx.shelve ?_⟩
  rw [List.append_assoc]
  refine hS.adds hb _ (fun p hp => ?_) (fun p hp => ?_) ?_
  · rcases (by simpa using hp : p = (B, memL c C ⟨ws, 0, Um.noT⟩) ∨ p = (C, rowW ws c.n) ∨ p = (g, rowW ws c.n)) with rfl | rfl | rfl
    · exact hM.blkB
    · exact hM.blkC
    · exact hG
  · rcases (by simpa using hp : p = (B, memL c C ⟨ws, 0, Um.noT⟩) ∨ p = (C, rowW ws c.n) ∨ p = (g, rowW ws c.n)) with rfl | rfl | rfl
    · exact h1
    · exact h2
    · show w.heap.size ≤ g
      omega
  · have := hM.ne
    simp only [List.cons_append, List.nil_append, List.pairwise_cons, List.mem_cons, List.not_mem_nil, or_false, List.Pairwise.nil, and_true]
    refine ⟨?_, ?_, ?_⟩
    · rintro p (rfl | rfl)
      · exact this
      · show B ≠ g
        omega
    · rintro p rfl
      show C ≠ g
      omega
    · simp

end

end Go.Proofs.Ytcpmclidndmgeaa

/-
  A new memory, how many accesses there were, and its words: over blocks of two lists.
-/
namespace Go.Proofs.Ytcpmclidndmgeaa
set_option maxRecDepth 100000
open Go.RowKit Go.Sort

theorem set_same {α : Type} {l : List α} {k : Nat} {x : α} (h : l[k]? = some x) : l.set k x = l := by
  obtain ⟨h1, h2⟩ := List.getElem?_eq_some_iff.1 h
  subst h2
  exact List.set_getElem_self h1

section
variable {bs : List Nat} {w0 w : World} {l e : List (Nat × List Value)} {B C P : Nat} {c : Um.Cf} {m : Um.Mm}

theorem new_x (hS : Sx bs w0 w l e) (c : Um.Cf) (hr : c.r = true) : Calls Try.prog 30 #[(.agg #[.int .i64 (c.t), .int .i64 (c.s), .int .i64 (c.k), .int .i64 (c.g), .int .u64 (c.q : Int)])] w fun r w' => ∃ B C, r = .returned (.tuple #[.pointer (some ⟨B, 0, none⟩), .int .i64 0]) ∧ WordsOk c ⟨fun _ => 0, 0, Um.noT⟩ ∧ Sx bs w0 w' (l ++ [(B, memL c C ⟨fun _ => 0, 0, Um.noT⟩), (C, rowW (fun _ => 0) c.n)]) e := by
  refine (sNew_right c w hr).mono ?_
  rintro r w' ⟨B, C, rfl, h1, h2, hM, hb⟩
  refine ⟨B, C, rfl, hM.wd, hS.adds hb _ (fun p hp => ?_) (fun p hp => ?_) ?_⟩
  · rcases (by simpa using hp : p = (B, memL c C ⟨fun _ => 0, 0, Um.noT⟩) ∨ p = (C, rowW (fun _ => 0) c.n)) with rfl | rfl
    · exact hM.blkB
    · exact hM.blkC
  · rcases (by simpa using hp : p = (B, memL c C ⟨fun _ => 0, 0, Um.noT⟩) ∨ p = (C, rowW (fun _ => 0) c.n)) with rfl | rfl
    · exact h1
    · exact h2
  · simpa using hM.ne

end

end Go.Proofs.Ytcpmclidndmgeaa

/-
  Blocks: what layers 8 and on ask for beside BlkX: loads from blocks that are only read, four blocks handed in, a new block beside turned ones; fields of structs; words of layer 1; a memory's world.
-/
namespace Go.Proofs.Ytcpmclidndmgeaa
set_option maxRecDepth 100000
open Go.RowKit Go.Sort

section
variable {P : Program} {ops : Array Oper} {rest : List Oper} {op : Oper} {a : Act} {bs : List Nat} {w w0 : World} {Q : Exit → Act → World → Prop} {l e : List (Nat × List Value)}

/-- a load from a block that is only read -/
theorem wpx_load1e (hS : Sx bs w0 w l e) (k : Nat) (hw : Region.wanted op (yielded ops a.tmps) = true) (ty : TypeId) (x : Operand) (ho : op.op = .load ty x) (b o : Nat) (hx : a.eval x = .pointer (some ⟨b, o, none⟩)) (cs : List Value) (hk : e[k]? = some (b, cs)) (hr : One P ty) (v : Value) (hv : cs[o]? = some v)
    (a' : Act) (ha : a.put op.dst v = a') (h : wpList P ops Q rest a' w) : wpList P ops Q (op :: rest) a w := by
  refine BigFrame.wpList_want hw fun K hK => ?_
  obtain ⟨d, hu, hd⟩ := hr
  subst ha
  have e : (execOp a.eval op).run P w = .ok (.value v) w := by
    unfold execOp
    rw [ho]
    simp [hx, run_load1_st (P := P) (hS.getE k hk) o ty v hv d hu hd]
  unfold Oper.wp
  rw [e]
  exact hK _ _ h

end

theorem Sx.read1 {w : World} {g : Nat} {cs : List Value} (hB : BlkAt w g cs) : Sx [] w w [] [(g, cs)] :=
  Sx.read w [(g, cs)] (fun p hp => by
    obtain rfl : p = _ := by simpa using hp
    exact hB)

section
variable {bs : List Nat} {w0 w w' : World} {l e : List (Nat × List Value)} {b1 b2 b3 b4 : Nat} {c1 c2 c3 c4 d1 d2 d3 d4 : List Value}

end

section
variable {bs : List Nat} {w0 w : World} {l e : List (Nat × List Value)} {B C : Nat} {c : Um.Cf} {m : Um.Mm}

end

theorem rState_b (x : Nat) (w : World) (hx : Um.Word x) : Calls Try.prog 23 #[.int .u64 (x : Nat)] w fun r w' => r = .returned (.int .i64 (Um.stN x : Int)) ∧ Below w.heap.size w w' :=
  (rState_x (Sx.new w) x hx).mono fun _ _ ⟨h1, h2⟩ => ⟨h1, h2.bel⟩

theorem state_lit10 {x v : Nat} (hx : Um.Word x) (h : Um.stN x = v) (W : World) : Calls Try.prog 23 #[.int .u64 (x : Nat)] W fun r w' => r = .returned (.int .i64 (v : Int)) ∧ Below W.heap.size W w' :=
  (rState_b x W hx).mono (fun r w' q => ⟨q.1.trans (by rw [h]), q.2⟩)

theorem lst1_eq {a a' : Value} (h : a = a') : [a] = [a'] := by rw [h]

theorem lst3_eq {a a' b b' d d' : Value} (h1 : a = a') (h2 : b = b') (h3 : d = d') : [a, b, d] = [a', b', d'] := by rw [h1, h2, h3]

theorem lst5_eq {a a' b b' d d' f f' k k' : Value} (h1 : a = a') (h2 : b = b') (h3 : d = d') (h4 : f = f') (h5 : k = k') : [a, b, d, f, k] = [a', b', d', f', k'] := by rw [h1, h2, h3, h4, h5]

theorem egSw10 (args : Array Value) (w : World) : (callFunc 45 args).run Try.prog w = .ok (.enter 45 args) w := by go_simp

end Go.Proofs.Ytcpmclidndmgeaa

/-
  Plain arithmetic of layer 8: conflicts that are laid meanwhile. No Go in sight.
-/
namespace Um
set_option maxRecDepth 100000

theorem put_ws (c : Cf) (m : Mm) (a b : Int) (v i : Nat) : (mtouch c m 2 a b 0 v).ws i = if (i : Int) = c.cl a b then v else m.ws i := by
  unfold mtouch
  split
  · rename_i h
    show putW m.ws (c.cl a b).toNat (trn 2 0 v (m.ws (c.cl a b).toNat)) i = _
    by_cases e : i = (c.cl a b).toNat
    · subst e
      rw [putW_same, if_pos (by omega)]
      rfl
    · rw [putW_other e, if_neg (by omega)]
  · rename_i h
    rw [if_neg (by omega)]
    rfl

theorem with_bits (x : Nat) (a b : Int) (j : Nat) (hj : 24 ≤ j) : (withN x a b).testBit j = x.testBit j := by
  unfold withN
  split
  · rename_i h
    have := bitAt_lt h
    rw [testBit_setN, if_neg (by omega)]
  · rfl

theorem st_with (x : Nat) (a b : Int) : stN (withN x a b) = stN x := by
  apply Nat.eq_of_testBit_eq
  intro j
  unfold stN
  rw [testBit_part, testBit_part, with_bits _ _ _ _ (by omega)]

theorem with_ok (x : Nat) {a b : Int} (ho : okS a b = true) : withN x a b = setN x (bitAt a b) true := by
  unfold withN
  exact if_pos ho

theorem com_with (x : Nat) (a b : Int) : comN (withN x a b) = withN (comN x) a b := by
  unfold comN
  rw [with_bits x a b 26 (by decide)]
  cases ho : okS a b with
  | false => rw [with_bad x a b ho, with_bad _ a b ho]
  | true =>
    have hlt := bitAt_lt ho
    rw [with_ok _ ho, with_ok _ ho]
    generalize x.testBit 26 = q
    generalize bitAt a b = k at *
    apply Nat.eq_of_testBit_eq
    intro j
    rw [move_bits (by decide), testBit_setN, testBit_setN, move_bits (by decide)]
    by_cases h : k = j
    · subst h
      rw [if_pos rfl, if_pos rfl, if_neg (show ¬ k = 26 by omega), if_neg (show ¬ (27 ≤ k ∧ k < 30) by omega)]
    · rw [if_neg h, if_neg h]

/-- a help, while conflicts are laid to its transaction; W: what its status will be -/
structure Sid (c : Cf) (x W : Nat) (m : Mm) (nx s : Nat) : Prop where
  le : nx ≤ 4
  low : nx ≤ 2 → stN (m.ws (iS c x).toNat) = 3 ∧ comN (m.ws (iS c x).toNat) = W
  high : 3 ≤ nx → m.ws (iS c x).toNat = W
  n0 : nx = 0 → m.ws (iN c x).toNat = 0
  n1 : 1 ≤ nx → m.ws (iN c x).toNat = seqN x

theorem Sid.ws {c : Cf} {x W : Nat} {m m' : Mm} {nx s : Nat} (h : Sid c x W m nx s) (e : m'.ws = m.ws) : Sid c x W m' nx s :=
  ⟨h.le, fun q => by rw [e]; exact h.low q, fun q => by rw [e]; exact h.high q, fun q => by rw [e]; exact h.n0 q, fun q => by rw [e]; exact h.n1 q⟩

theorem Sid.lay {c : Cf} {x W : Nat} {m : Mm} {nx s : Nat} (hi : 0 < iS c x ∧ iN c x = iS c x + 2) {sl : Int} (hpen : penN x = sl) (h : Sid c x W m nx s) (a b : Int) (S : Nat) (hS : S = m.ws (iS c x).toNat) (m' : Mm) (hm : m' = mtouch c m 2 4 sl 0 (withN S a b)) : Sid c x (withN W a b) m' nx s := by
  have e1 : m'.ws (iS c x).toNat = withN S a b := by
    rw [hm, put_ws, if_pos]
    show _ = c.cl 4 sl
    rw [← hpen]
    show _ = iS c x
    omega
  have e2 : m'.ws (iN c x).toNat = m.ws (iN c x).toNat := by
    rw [hm, put_ws, if_neg]
    show ¬ _ = c.cl 4 sl
    rw [← hpen]
    show ¬ _ = iS c x
    omega
  refine ⟨h.le, fun q => ?_, fun q => ?_, fun q => ?_, fun q => ?_⟩
  · rw [e1, st_with, com_with, hS, (h.low q).2]
    exact ⟨(h.low q).1, rfl⟩
  · rw [e1, hS, h.high q]
  · rw [e2]; exact h.n0 q
  · rw [e2]; exact h.n1 q

end Um

/-
  Plain arithmetic of layer 9: alone. No Go in sight.
-/
namespace Um
set_option maxRecDepth 100000

/-- the lowest slot that is free -/
structure Got (c : Cf) (ws : Nat → Nat) (f : Int) : Prop where
  lo : 0 ≤ f
  hi : f < c.s
  fr : frN c (ws (c.cl 4 f).toNat) = true
  least : ∀ i : Int, 0 ≤ i → i < f → frN c (ws (c.cl 4 i).toNat) = false

/-- no slot is free -/
def Full (c : Cf) (ws : Nat → Nat) : Prop := ∀ i : Int, 0 ≤ i → i < c.s → frN c (ws (c.cl 4 i).toNat) = false

/-- the words when a slot was taken -/
def ws1 (c : Cf) (ws : Nat → Nat) (f : Int) (i : Nat) : Nat := if (i : Int) = c.cl 4 f then moveN (ws i) 1 false else ws i

/-- and behind a help -/
def ws2 (c : Cf) (ws : Nat → Nat) (f : Int) (i : Nat) : Nat := hgN c (ws 0) (ws1 c ws f) i

/-- and at the end -/
def ws3 (c : Cf) (ws : Nat → Nat) (f : Int) (i : Nat) : Nat := if (i : Int) = c.cl 4 f then moveN (ws i) 2 false else if (i : Int) = c.cl 5 f then seqN (ws 0) else ws2 c ws f i

structure Al (c : Cf) (ws : Nat → Nat) (o : Os) : Prop where
  nx : o.nx ≤ 6
  lo : o.nx = 0 → 0 ≤ o.sl ∧ o.sl < c.s ∧ (∀ i, o.m.ws i = ws i) ∧ ∀ i : Int, 0 ≤ i → i < o.sl → frN c (ws (c.cl 4 i).toNat) = false
  tk : 1 ≤ o.nx → o.nx ≤ 5 → Got c ws o.sl ∧ o.s = ws (c.cl 4 o.sl).toNat
  t1 : o.nx = 1 → ∀ i, o.m.ws i = ws i
  t2 : o.nx = 2 → (∀ i, o.m.ws i = ws1 c ws o.sl i) ∨ (0 ≤ penN (ws 0) ∧ ∀ i, o.m.ws i = ws2 c ws o.sl i)
  t3 : o.nx = 3 → o.w = ws 0 ∧ 0 ≤ penN (ws 0) ∧ Mix c (ws 0) (ws1 c ws o.sl) o.m.ws ∧ Knows c (ws 0) (ws1 c ws o.sl) o.m.ws ⟨o.m, o.hn, o.hs⟩ ∧ o.hn ≠ 4
  t4 : o.nx = 4 → (∀ i, o.m.ws i = ws2 c ws o.sl i) ∧ o.q = seqN (ws 0)
  t5 : o.nx = 5 → (∀ i, o.m.ws i = if (i : Int) = c.cl 5 o.sl then seqN (ws 0) else ws2 c ws o.sl i) ∧ o.q = seqN (ws 0)
  t6 : o.nx = 6 → (Full c ws ∧ (∀ i, o.m.ws i = ws i) ∧ o.te = 6 ∧ o.th = 0 ∧ o.tn = 0) ∨ ∃ f, Got c ws f ∧ (∀ i, o.m.ws i = ws3 c ws f i) ∧ o.te = 0 ∧ o.th = mkN f ((gnN (ws (c.cl 4 f).toNat) : Nat) : Int) ∧ o.tn = seqN (ws 0)

end Um

/-
  Plain arithmetic of layer 9: two at once, over a new world. No Go in sight.
-/
namespace Um
set_option maxRecDepth 100000

/-- a slot is one's: it was taken by it -/
def Owns (o : Os) (i : Int) : Prop := 2 ≤ o.nx ∧ (o.nx = 6 → o.te = 0) ∧ o.sl = i

structure Side9 (c : Cf) (m : Mm) (a b : Os) : Prop where
  nx : a.nx ≤ 6
  n3 : a.nx ≠ 3
  lo : 0 ≤ a.sl
  lt : a.nx ≤ 5 → a.sl < c.s
  s : 1 ≤ a.nx → a.nx ≤ 5 → a.s = 0
  pass : ∀ i : Int, 0 ≤ i → i < a.sl → Owns b i
  mine : Owns a a.sl → stN (m.ws (c.cl 4 a.sl).toNat) ≠ 0 ∧ a.sl < c.s
  end6 : a.nx = 6 → (a.te = 0 ∧ a.th = mkN a.sl 0) ∨ (a.te = 6 ∧ a.sl = c.s)

structure Duo9 (c : Cf) (m : Mm) (a b : Os) : Prop where
  tal : m.ws 0 = 0
  A : Side9 c m a b
  B : Side9 c m b a
  apart : ∀ i, Owns a i → ¬ Owns b i
  all : ∀ i : Int, 0 ≤ i → i < c.s → m.ws (c.cl 4 i).toNat = 0 ∨ Owns a i ∨ Owns b i

end Um

/-
  Plain arithmetic of layer 9: two at once, to their end; commits that are counted meanwhile. No Go in sight.
-/
namespace Um
set_option maxRecDepth 100000

/-- one, while commits are counted: from so many on, up to now -/
structure Seen (c : Cf) (m : Mm) (o : Os) (sq now : Nat) : Prop where
  nx : o.nx ≤ 6
  n3 : o.nx ≠ 3
  sl : o.sl = 0
  tal : m.ws 0 = 16 * now
  le : sq ≤ now
  fr : o.nx ≤ 1 → m.ws (c.cl 4 0).toNat = 0
  s : o.nx = 1 → o.s = 0
  q : 4 ≤ o.nx → sq ≤ o.q ∧ o.q ≤ now
  sn : 5 ≤ o.nx → m.ws (c.cl 5 0).toNat = o.q
  t6 : o.nx = 6 → o.te = 0 ∧ o.tn = o.q

end Um

/-
  Plain arithmetic of layer 9: begun again and again; generations that are too great. No Go in sight.
-/
namespace Um
set_option maxRecDepth 100000

/-- so many slots have been got, of a world in which nothing is pending -/
structure Fu (c : Cf) (ws : Nat → Nat) (i : Int) : Prop where
  tal : ws 0 = 0
  low : ∀ j : Int, 0 ≤ j → j < i → stN (ws (c.cl 4 j).toNat) ≠ 0
  high : ∀ j : Int, i ≤ j → j < c.s → ws (c.cl 4 j).toNat = 0

end Um

/-
  Plain arithmetic of layer 9: the lowest slot that is free, looked for from above; what alone leaves. No Go in sight.
-/
namespace Um
set_option maxRecDepth 100000

/-- what was found from slot k on -/
structure Lo9 (c : Cf) (ws : Nat → Nat) (k f : Int) : Prop where
  none : f < 0 → f = -1 ∧ ∀ i : Int, k ≤ i → i < c.s → frN c (ws (c.cl 4 i).toNat) = false
  one : 0 ≤ f → k ≤ f ∧ f < c.s ∧ frN c (ws (c.cl 4 f).toNat) = true ∧ ∀ i : Int, k ≤ i → i < f → frN c (ws (c.cl 4 i).toNat) = false

/-- a beginning over another memory -/
def setM (m : Mm) (o : Os) : Os := ⟨m, o.sl, o.nx, o.s, o.q, o.w, o.hn, o.hs, o.te, o.th, o.tn⟩

theorem Duo9.at {c : Cf} {m : Mm} {a b : Os} (h : Duo9 c m a b) (m' : Mm) : Duo9 c m (setM m' a) b :=
  ⟨h.tal, ⟨h.A.nx, h.A.n3, h.A.lo, h.A.lt, h.A.s, h.A.pass, h.A.mine, h.A.end6⟩, ⟨h.B.nx, h.B.n3, h.B.lo, h.B.lt, h.B.s, h.B.pass, h.B.mine, h.B.end6⟩, h.apart, h.all⟩

theorem Seen.at {c : Cf} {m : Mm} {o : Os} {sq now : Nat} (h : Seen c m o sq now) (m' : Mm) : Seen c m (setM m' o) sq now :=
  ⟨h.nx, h.n3, h.sl, h.tal, h.le, h.fr, h.s, h.q, h.sn, h.t6⟩

end Um

/-
  Plain arithmetic of layer 10: a call that enters, one that leaves. No Go in sight.
-/
namespace Um
set_option maxRecDepth 100000

/-- a status, busy -/
def bzN (s : Nat) : Nat := setN s 26 true

/-- an entering over a memory: is its next step a swap, what it looked at, what it laid, its error, has it ended -/
structure Es where
  m : Mm
  tk : Bool
  s : Nat
  w : Nat
  e : Int
  en : Bool

/-- words -/
structure Eok (c : Cf) (o : Es) : Prop where
  wd : ∀ i, i < c.n → Word (o.m.ws i)
  s : Word o.s
  w : Word o.w
  en : o.en = true → o.tk = false

/-- a leaving over a memory: has it looked, at what, is it done -/
structure Ls where
  m : Mm
  lk : Bool
  s : Nat
  dn : Bool

def lnew (m : Mm) : Ls := ⟨m, false, 0, false⟩

structure Lok (c : Cf) (o : Ls) : Prop where
  wd : ∀ i, i < c.n → Word (o.m.ws i)
  s : Word o.s

theorem lnew_ok {c : Cf} {m : Mm} (h : ∀ i, i < c.n → Word (m.ws i)) : Lok c (lnew m) := ⟨h, zero_word⟩

end Um

/-
  Plain arithmetic of layer 10: two that enter at once; conflicts that are laid meanwhile. No Go in sight.
-/
namespace Um
set_option maxRecDepth 100000

/-- another memory -/
def setE (m : Mm) (o : Es) : Es := ⟨m, o.tk, o.s, o.w, o.e, o.en⟩
def setLs (m : Mm) (o : Ls) : Ls := ⟨m, o.lk, o.s, o.dn⟩

/-- an active status, and it busy -/
def actW : Nat := 268435456
def busW : Nat := bzN actW

def won (a : Es) : Prop := a.en = true ∧ a.e = 0

structure Side10 (W : Nat) (a : Es) : Prop where
  fin : a.en = true → (a.e = 0 ∨ a.e = 3) ∧ W = busW
  tk : a.tk = true → a.s = actW ∧ a.en = false ∧ a.e = 0

structure Duo10 (W : Nat) (a b : Es) : Prop where
  wd : W = actW ∨ W = busW
  A : Side10 W a
  B : Side10 W b
  one : W = busW → (won a ∧ ¬ won b) ∨ (won b ∧ ¬ won a)

theorem Duo10.at {W : Nat} {a b : Es} (h : Duo10 W a b) (m : Mm) : Duo10 W (setE m a) b := ⟨h.wd, ⟨h.A.fin, h.A.tk⟩, ⟨h.B.fin, h.B.tk⟩, h.one⟩

/-! ## sides -/

theorem move_with (x : Nat) (a b : Int) {st : Nat} (hs : st < 8) (bz : Bool) : moveN (withN x a b) st bz = withN (moveN x st bz) a b := by
  cases ho : okS a b with
  | false => rw [with_bad x a b ho, with_bad _ a b ho]
  | true =>
    have hlt := bitAt_lt ho
    rw [with_ok _ ho, with_ok _ ho]
    generalize bitAt a b = k at *
    apply Nat.eq_of_testBit_eq
    intro j
    rw [move_bits hs, testBit_setN, testBit_setN, move_bits hs]
    by_cases h : k = j
    · subst h
      rw [if_pos rfl, if_pos rfl, if_neg (show ¬ k = 26 by omega), if_neg (show ¬ (27 ≤ k ∧ k < 30) by omega)]
    · rw [if_neg h, if_neg h]

theorem gn_with (x : Nat) (a b : Int) : gnN (withN x a b) = gnN x := by
  apply Nat.eq_of_testBit_eq
  intro j
  unfold gnN
  rw [testBit_part, testBit_part, with_bits _ _ _ _ (by omega)]

/-- one that enters, and then leaves for the state 5, while conflicts are laid; V: what its status will be -/
structure Sid10 (W V : Nat) (e : Es) (l : Ls) : Prop where
  v : stN V = 5 ∧ V.testBit 26 = false ∧ gnN V = 0
  a : e.en = false → W = moveN V 2 false ∧ l.dn = false ∧ l.lk = false
  tk : e.tk = true → e.en = false
  b : e.en = true → l.dn = false → W = moveN V 2 true
  d : l.dn = true → W = V

theorem Sid10.lay {W V : Nat} {e : Es} {l : Ls} (h : Sid10 W V e l) (x y : Int) : Sid10 (withN W x y) (withN V x y) e l := by
  obtain ⟨v1, v2, v3⟩ := h.v
  refine ⟨⟨by rw [st_with]; exact v1, by rw [with_bits _ _ _ _ (by decide)]; exact v2, by rw [gn_with]; exact v3⟩, fun q => ⟨?_, (h.a q).2⟩, h.tk, fun q r => ?_, fun q => by rw [h.d q]⟩
  · rw [(h.a q).1, move_with _ _ _ (by decide)]
  · rw [h.b q r, move_with _ _ _ (by decide)]

theorem Sid10.at {W V : Nat} {e : Es} {l : Ls} (h : Sid10 W V e l) (m m' : Mm) : Sid10 W V (setE m e) (setLs m' l) := ⟨h.v, h.a, h.tk, h.b, h.d⟩

end Um

/-
  Plain arithmetic of layer 11: a conflict that is laid, one's own end. No Go in sight.
-/
namespace Um
set_option maxRecDepth 100000

/-- a join over a memory: its next step (0 look, 1 number, 2 lay), what it looked at, what it came to (0: it goes on) -/
structure Js where
  m : Mm
  nx : Nat
  s : Nat
  r : Nat

/-- judged -/
def jjd (sd b : Int) (M : Mm) (nx s : Nat) : Js :=
  if hasN s sd b = true then ⟨M, nx, s, 2⟩ else if stN s ≠ 2 ∧ anyN s (1 - sd) = true then ⟨M, nx, s, 3⟩ else ⟨M, 2, s, 0⟩

def jstep (c : Cf) (sl sd b : Int) (sn : Nat) (o : Js) : Js :=
  if o.r ≠ 0 then o
  else if o.nx = 0 then
    (if stN (mtouch c o.m 1 4 sl 0 0).l.old = 4 then ⟨mtouch c o.m 1 4 sl 0 0, 1, (mtouch c o.m 1 4 sl 0 0).l.old, 0⟩
      else if stN (mtouch c o.m 1 4 sl 0 0).l.old = 2 ∨ stN (mtouch c o.m 1 4 sl 0 0).l.old = 3 then jjd sd b (mtouch c o.m 1 4 sl 0 0) 0 (mtouch c o.m 1 4 sl 0 0).l.old
      else ⟨mtouch c o.m 1 4 sl 0 0, 0, (mtouch c o.m 1 4 sl 0 0).l.old, 1⟩)
  else if o.nx = 1 then
    (if past (mtouch c o.m 1 6 sl 0 0).l.old sn = true then ⟨mtouch c o.m 1 6 sl 0 0, 1, o.s, 1⟩ else jjd sd b (mtouch c o.m 1 6 sl 0 0) 1 o.s)
  else ⟨mtouch c o.m 3 4 sl o.s (withN o.s sd b), 0, o.s, if (mtouch c o.m 3 4 sl o.s (withN o.s sd b)).l.done then 2 else 0⟩

def jit (c : Cf) (sl sd b : Int) (sn : Nat) (o : Js) : Nat → Js
  | 0 => o
  | k + 1 => jstep c sl sd b sn (jit c sl sd b sn o k)

def jnew (m : Mm) : Js := ⟨m, 0, 0, 0⟩

structure Jok (c : Cf) (o : Js) : Prop where
  wd : ∀ i, i < c.n → Word (o.m.ws i)
  s : Word o.s
  nx : o.nx ≤ 2
  r : o.r ≤ 3

theorem jnew_ok {c : Cf} {m : Mm} (h : ∀ i, i < c.n → Word (m.ws i)) : Jok c (jnew m) := ⟨h, zero_word, (show 0 ≤ 2 by decide), (show 0 ≤ 3 by decide)⟩

theorem jjd_ok {c : Cf} {sd b : Int} {M : Mm} {nx s : Nat} (hM : ∀ i, i < c.n → Word (M.ws i)) (hs : Word s) (hn : nx ≤ 2) : Jok c (jjd sd b M nx s) := by
  unfold jjd
  split
  · exact ⟨hM, hs, hn, (show 2 ≤ 3 by decide)⟩
  split
  · exact ⟨hM, hs, hn, (show 3 ≤ 3 by decide)⟩
  · exact ⟨hM, hs, (show 2 ≤ 2 by decide), (show 0 ≤ 3 by decide)⟩

theorem jstep_ok {c : Cf} {sl sd b : Int} {sn : Nat} {o : Js} (h : Jok c o) : Jok c (jstep c sl sd b sn o) := by
  have hld : ∀ a, (∀ i, i < c.n → Word ((mtouch c o.m 1 a sl 0 0).ws i)) := fun a => word_touch h.wd zero_word
  have hlo : ∀ a, Word (mtouch c o.m 1 a sl 0 0).l.old := fun a => old_word h.wd
  unfold jstep
  split
  · exact h
  split
  · split
    · exact ⟨hld 4, hlo 4, (show 1 ≤ 2 by decide), (show 0 ≤ 3 by decide)⟩
    split
    · exact jjd_ok (hld 4) (hlo 4) (by decide)
    · exact ⟨hld 4, hlo 4, (show 0 ≤ 2 by decide), (show 1 ≤ 3 by decide)⟩
  split
  · split
    · exact ⟨hld 6, h.s, (show 1 ≤ 2 by decide), (show 1 ≤ 3 by decide)⟩
    · exact jjd_ok (hld 6) h.s (by decide)
  · refine ⟨word_touch h.wd (with_word h.s _ _), h.s, (show 0 ≤ 2 by decide), ?_⟩
    show (if _ then 2 else 0) ≤ 3
    split <;> decide

theorem jit_ok {c : Cf} {sl sd b : Int} {sn : Nat} {o : Js} (h : Jok c o) (k : Nat) : Jok c (jit c sl sd b sn o k) := by
  induction k with
  | zero => exact h
  | succ k ih => exact jstep_ok ih

theorem jstep_end {c : Cf} {sl sd b : Int} {sn : Nat} {o : Js} (h : o.r ≠ 0) : jstep c sl sd b sn o = o := by
  unfold jstep
  rw [if_pos h]

theorem jit_end {c : Cf} {sl sd b : Int} {sn : Nat} {o : Js} {q : Nat} (h : (jit c sl sd b sn o q).r ≠ 0) {k : Nat} (hk : q ≤ k) : jit c sl sd b sn o k = jit c sl sd b sn o q := by
  obtain ⟨d, rfl⟩ : ∃ d, k = q + d := ⟨k - q, by omega⟩
  clear hk
  induction d with
  | zero => rfl
  | succ d ih =>
    show jstep c sl sd b sn (jit c sl sd b sn o (q + d)) = _
    rw [ih]
    exact jstep_end h

/-- one's own end, over a memory: has it looked, at what, is it done -/
def wstep (c : Cf) (sl sd b : Int) (o : Ls) : Ls :=
  if o.dn = true then o
  else if o.lk = false then ⟨mtouch c o.m 1 4 sl 0 0, true, (mtouch c o.m 1 4 sl 0 0).l.old, decide (withN (mtouch c o.m 1 4 sl 0 0).l.old sd b = (mtouch c o.m 1 4 sl 0 0).l.old)⟩
  else ⟨mtouch c o.m 3 4 sl o.s (withN o.s sd b), false, o.s, (mtouch c o.m 3 4 sl o.s (withN o.s sd b)).l.done⟩

def wit (c : Cf) (sl sd b : Int) (o : Ls) : Nat → Ls
  | 0 => o
  | k + 1 => wstep c sl sd b (wit c sl sd b o k)

theorem wstep_ok {c : Cf} {sl sd b : Int} {o : Ls} (ho : Lok c o) : Lok c (wstep c sl sd b o) := by
  unfold wstep
  split
  · exact ho
  split
  · exact ⟨word_touch ho.wd zero_word, old_word ho.wd⟩
  · exact ⟨word_touch ho.wd (with_word ho.s _ _), ho.s⟩

theorem wit_ok {c : Cf} {sl sd b : Int} {o : Ls} (ho : Lok c o) (k : Nat) : Lok c (wit c sl sd b o k) := by
  induction k with
  | zero => exact ho
  | succ k ih => exact wstep_ok ih

theorem wstep_done {c : Cf} {sl sd b : Int} {o : Ls} (hd : o.dn = true) : wstep c sl sd b o = o := by
  unfold wstep
  rw [if_pos hd]

theorem wit_done {c : Cf} {sl sd b : Int} {o : Ls} {q : Nat} (hd : (wit c sl sd b o q).dn = true) {k : Nat} (hk : q ≤ k) : wit c sl sd b o k = wit c sl sd b o q := by
  obtain ⟨d, rfl⟩ : ∃ d, k = q + d := ⟨k - q, by omega⟩
  clear hk
  induction d with
  | zero => rfl
  | succ d ih =>
    show wstep c sl sd b (wit c sl sd b o (q + d)) = _
    rw [ih]
    exact wstep_done hd

/-! ## words -/

theorem with_self {x : Nat} {a b : Int} (h : hasN x a b = true) : withN x a b = x := by
  unfold hasN at h
  have h1 : okS a b = true := by cases ho : okS a b <;> rw [ho] at h <;> first | rfl | cases h
  rw [h1, Bool.true_and] at h
  rw [with_ok _ h1]
  exact setN_self _ _ _ h

theorem with_comm (x : Nat) (a b a' b' : Int) : withN (withN x a b) a' b' = withN (withN x a' b') a b := by
  cases ho : okS a b with
  | false => rw [with_bad _ a b ho, with_bad _ a b ho]
  | true =>
    cases ho' : okS a' b' with
    | false => rw [with_bad _ a' b' ho', with_bad _ a' b' ho']
    | true =>
      rw [with_ok _ ho, with_ok _ ho', with_ok _ ho', with_ok _ ho]
      exact setN_comm _ _ _ _ _ (.inr rfl)

/-- bits stay -/
theorem has_stay {x : Nat} {a b : Int} (a' b' : Int) (h : hasN x a b = true) : hasN (withN x a' b') a b = true := by
  unfold hasN at h ⊢
  cases ho : okS a b with
  | false => rw [ho] at h; cases h
  | true =>
    rw [ho, Bool.true_and] at h
    rw [Bool.true_and]
    cases ho' : okS a' b' with
    | false => rw [with_bad _ a' b' ho']; exact h
    | true =>
      rw [with_ok _ ho', testBit_setN]
      split
      · rfl
      · exact h

theorem has_any {x : Nat} {a b : Int} (h : hasN x a b = true) : anyN x a = true := by
  have h1 : okS a b = true := by
    unfold hasN at h
    cases ho : okS a b <;> rw [ho] at h <;> first | rfl | cases h
  have := any_with x a b h1
  rwa [with_self h] at this

theorem with_bit {x : Nat} {a b : Int} {j : Nat} (h : x.testBit j = true) : (withN x a b).testBit j = true := by
  cases ho : okS a b with
  | false => rw [with_bad _ a b ho]; exact h
  | true =>
    rw [with_ok _ ho, testBit_setN]
    split
    · rfl
    · exact h

theorem any_stay {x : Nat} {a : Int} (a' b' : Int) (h : anyN x a = true) : anyN (withN x a' b') a = true := by
  by_cases ha : a = 0 ∨ a = 1
  · rw [any_iff ha] at h ⊢
    rcases h with ⟨j, h1, h2⟩ | h
    · exact .inl ⟨j, h1, with_bit h2⟩
    · exact .inr (with_bit h)
  · unfold anyN at h
    rw [decide_eq_false ha] at h
    cases h

/-! ## alone -/

theorem jjd_r (sd b : Int) (M : Mm) (nx s : Nat) : (jjd sd b M nx s).r = (if hasN s sd b = true then 2 else if stN s ≠ 2 ∧ anyN s (1 - sd) = true then 3 else 0) ∧ (jjd sd b M nx s).m = M ∧ (jjd sd b M nx s).s = s ∧ ((jjd sd b M nx s).r = 0 → (jjd sd b M nx s).nx = 2 ∧ hasN s sd b = false) := by
  unfold jjd
  by_cases h1 : hasN s sd b = true
  · rw [if_pos h1, if_pos h1]
    exact ⟨rfl, rfl, rfl, (fun q => by cases q)⟩
  rw [if_neg h1, if_neg h1]
  by_cases h2 : stN s ≠ 2 ∧ anyN s (1 - sd) = true
  · rw [if_pos h2, if_pos h2]
    exact ⟨rfl, rfl, rfl, (fun q => by cases q)⟩
  · rw [if_neg h2, if_neg h2]
    exact ⟨rfl, rfl, rfl, fun _ => ⟨rfl, by simpa using h1⟩⟩

section
variable {c : Cf} {sl sd b : Int} {sn : Nat}

end

end Um

/-
  Plain arithmetic of layer 11: two that lay conflicts to one status at once. No Go in sight.
-/
namespace Um
set_option maxRecDepth 100000

/-- another memory -/
def setJ (m : Mm) (o : Js) : Js := ⟨m, o.nx, o.s, o.r⟩

/-- one that lays a conflict to a status W that is not Free, Beginning or aborted, and not past -/
structure Sj (W : Nat) (sd b : Int) (a : Js) : Prop where
  r : a.r = 0 ∨ a.r = 2 ∨ a.r = 3
  nx : a.nx ≤ 2
  two : a.r = 2 → hasN W sd b = true
  thr : a.r = 3 → anyN W (1 - sd) = true ∧ stN W ≠ 2
  s : a.r = 0 → 1 ≤ a.nx → (hasN a.s sd b = true → hasN W sd b = true) ∧ (anyN a.s (1 - sd) = true → anyN W (1 - sd) = true) ∧ stN a.s = stN W
  lay : a.r = 0 → a.nx = 2 → stN a.s ≠ 2 → anyN a.s (1 - sd) = false

theorem Sj.grow {W : Nat} {sd b : Int} {a : Js} (h : Sj W sd b a) (x y : Int) : Sj (withN W x y) sd b a :=
  ⟨h.r, h.nx, fun q => has_stay _ _ (h.two q), fun q => ⟨any_stay _ _ (h.thr q).1, by rw [st_with]; exact (h.thr q).2⟩, fun q r => ⟨fun t => has_stay _ _ ((h.s q r).1 t), fun t => any_stay _ _ ((h.s q r).2.1 t), by rw [st_with]; exact (h.s q r).2.2⟩, h.lay⟩

theorem Sj.at {W : Nat} {sd b : Int} {a : Js} (h : Sj W sd b a) (m : Mm) : Sj W sd b (setJ m a) := ⟨h.r, h.nx, h.two, h.thr, h.s, h.lay⟩

/-- two of either side, of a status that is committing, or committed -/
structure Bj (W : Nat) (p q b d : Int) (x y : Js) : Prop where
  pq : q = 1 - p ∧ p = 1 - q
  st : stN W = 3 ∨ stN W = 4
  one : ¬ (anyN W p = true ∧ anyN W q = true)
  X : Sj W p b x
  Y : Sj W q d y

theorem Bj.at {W : Nat} {p q b d : Int} {x y : Js} (h : Bj W p q b d x y) (m : Mm) : Bj W p q b d (setJ m x) y := ⟨h.pq, h.st, h.one, h.X.at m, h.Y⟩

end Um

/-
  Plain arithmetic of layer 11: an active status, to which two lay conflicts, and one its own end; laid again. No Go in sight.
-/
namespace Um
set_option maxRecDepth 100000

/-- all three laid -/
def clo (A B : Int) (W : Nat) : Nat := withN (withN (withN W 0 A) 1 B) 0 7

/-- one that lays its own end -/
structure Sw (W : Nat) (sd b : Int) (o : Ls) : Prop where
  dn : o.dn = true → withN W sd b = W

theorem Sw.grow {W : Nat} {sd b : Int} {o : Ls} (h : Sw W sd b o) (x y : Int) : Sw (withN W x y) sd b o := ⟨fun q => by rw [with_comm W x y sd b, h.dn q]⟩

theorem Sw.at {W : Nat} {sd b : Int} {o : Ls} (h : Sw W sd b o) (m : Mm) : Sw W sd b (setLs m o) := ⟨h.dn⟩

section
variable {c : Cf} {sl sd b : Int}

end

/-- two joins, and an own end, of one active status; T: it with all three -/
structure Tj (T W : Nat) (A B : Int) (x y : Js) (o : Ls) : Prop where
  st : stN W = 2
  cl : clo A B W = T
  X : Sj W 0 A x
  Y : Sj W 1 B y
  O : Sw W 0 7 o

theorem Tj.at {T W : Nat} {A B : Int} {x y : Js} {o : Ls} (h : Tj T W A B x y o) (m m' m'' : Mm) : Tj T W A B (setJ m x) (setJ m' y) (setLs m'' o) := ⟨h.st, h.cl, h.X.at m, h.Y.at m', h.O.at m''⟩

section
variable {c : Cf} {sl A B : Int} {sn : Nat} {T : Nat} {x y : Js} {o : Ls}

end

end Um
