/-
  Texts that the laws stand on, merged (StoreX2, StoreX3, StoreZ, OpenRd, BlkE, Og2, PinP, PinMath, TallyMath, HelpMath, TallyA, WalkB).
-/
import Derived.Test.YtapgghciieloaaaGreatQ1
import Derived.Test.YtapgghciieloaaaGreatQ2
import Derived.Test.YtapgghciieloaaaGreatQ3
import Derived.Test.YtapgghciieloaaaGreatQ4
import Derived.Test.YtapgghciieloaaaGreatQ5
import Derived.Test.YtapgghciieloaaaGreatQ8
import Derived.Lib.QuietBelow
import Derived.LoopTactic

namespace Go.Proofs.YtapgghciieloaaaGreat
section
set_option maxRecDepth 100000
open Go.RowKit Go.Sort
set_option maxHeartbeats 8000000 in
theorem rStore_any (c : Um.Cf) (v : Value) (m M : Um.Mm) (a b : Int) (x : Nat) (w : World) (hr : c.r = true) (hv : IsWords w v c.n m.ws) (hx : Um.Word x) (hM : M = Um.mtouch c m 2 a b 0 x) :
    Calls Tryz.prog 46 #[.agg #[.int .i64 c.t, .int .i64 c.s, .int .i64 c.k, .int .i64 c.g, .int .u64 c.q, v, .int .i64 m.cnt, .int .i64 m.l.kind, .int .i64 m.l.a, .int .i64 m.l.b, .int .u64 (m.l.old : Nat), .int .u64 (m.l.new : Nat), .bool m.l.done], .int .i64 a, .int .i64 b, .int .u64 (x : Nat)] w fun e W' =>
      ∃ v', e = .returned (.agg #[.int .i64 c.t, .int .i64 c.s, .int .i64 c.k, .int .i64 c.g, .int .u64 c.q, v', .int .i64 M.cnt, .int .i64 M.l.kind, .int .i64 M.l.a, .int .i64 M.l.b, .int .u64 (M.l.old : Nat), .int .u64 (M.l.new : Nat), .bool M.l.done]) ∧ IsWords W' v' c.n M.ws ∧ (v' = v ∨ RFresh w W' v' c.n M.ws) ∧ Below w.heap.size w W' := by
  have hn0 : 0 < c.n := by have := Um.Cf.n_pos hr; omega
  have HWD := hide (show ∀ j, j < c.n → Um.Word (M.ws j) by rw [hM]; exact Um.word_touch (words_word hv) hx)
  have hT := fun w hv => rTouch_any c v m M 2 a b 0 x w hr hv hx (.inr (.inl rfl)) hM
  have HV := hide hv
  have HT := hide hT
  obtain ⟨sv, cap, rfl⟩ := words_len hv
  clear hv hT hM hx
  have hS := St.new w
  go_enter Tryz.func46, Tryz.ntmps46
  go_wp2_with (first | (refine wpl_box hS rfl _ _ rfl _ rfl _ (by intro _; simp only [Act.put, List.setIfInBounds_toArray, List.set_cons_zero, List.set_cons_succ]; first | done | exact rfl) ?_; clear hS; intro _ _ hS; dsimp only [blit, List.set, List.cons_append, List.nil_append, Value.cells, List.toList_toArray] at hS) | (refine wpl_alloc hS rfl _ rfl _ (zer_any rfl) _ (by intro _; simp only [Act.put, List.setIfInBounds_toArray, List.set_cons_zero, List.set_cons_succ]; first | done | exact rfl) ?_; clear hS; intro _ _ hS; dsimp only [blit, List.set, List.cons_append, List.nil_append, Value.cells, List.toList_toArray] at hS) | (refine wpl_ld hS rfl _ _ rfl _ _ rfl ?_; (first | refine ⟨0, _, rfl, ?_⟩ | refine ⟨1, _, rfl, ?_⟩ | refine ⟨2, _, rfl, ?_⟩ | refine ⟨3, _, rfl, ?_⟩ | refine ⟨4, _, rfl, ?_⟩ | refine ⟨5, _, rfl, ?_⟩ | refine ⟨6, _, rfl, ?_⟩ | refine ⟨7, _, rfl, ?_⟩ | refine ⟨8, _, rfl, ?_⟩ | refine ⟨9, _, rfl, ?_⟩); first | refine .inl ⟨_, one_any rfl, rfl, _, (by simp only [Act.put, List.setIfInBounds_toArray, List.set_cons_zero, List.set_cons_succ]; first | done | exact rfl), ?_⟩ | refine .inr ⟨_, _, row_any rfl, rfl, (by dsimp only [cutL, List.drop, List.take]; first | done | exact rfl), _, (by simp only [Act.put, List.setIfInBounds_toArray, List.set_cons_zero, List.set_cons_succ]; first | done | exact rfl), ?_⟩) | (refine wpl_st hS rfl _ _ _ rfl rfl _ _ rfl ?_; (first | refine ⟨0, _, rfl, ?_⟩ | refine ⟨1, _, rfl, ?_⟩ | refine ⟨2, _, rfl, ?_⟩ | refine ⟨3, _, rfl, ?_⟩ | refine ⟨4, _, rfl, ?_⟩ | refine ⟨5, _, rfl, ?_⟩ | refine ⟨6, _, rfl, ?_⟩ | refine ⟨7, _, rfl, ?_⟩ | refine ⟨8, _, rfl, ?_⟩ | refine ⟨9, _, rfl, ?_⟩); refine ⟨_, (by first | exact shA rfl | exact shI rfl | exact shB rfl | exact shS rfl | exact shP rfl | exact shF rfl | exact shN rfl), _, siz_any rfl, (by exact rfl), (by exact rfl), (by exact rfl), ?_⟩; clear hS; intro _ hS; dsimp only [blit, List.set, List.cons_append, List.nil_append, Value.cells, List.toList_toArray] at hS))
  rename_i B _ R X _ _
  refine wp_region_og (I := fun D a' w' => ∃ (bA bT : Nat) (v' : Value) (G : List (Nat × List Value)), a' = ⟨#[.agg #[.int .i64 c.t, .int .i64 c.s, .int .i64 c.k, .int .i64 c.g, .int .u64 c.q, .slice sv c.n cap, .int .i64 m.cnt, .int .i64 m.l.kind, .int .i64 m.l.a, .int .i64 m.l.b, .int .u64 (m.l.old : Nat), .int .u64 (m.l.new : Nat), .bool m.l.done], .int .i64 a, .int .i64 b, .int .u64 (x : Nat), .pointer (some ⟨B, 0, none⟩), undef, undef, undef, .pointer (some ⟨R, 0, none⟩), (cond (D 9) (.pointer (some ⟨bA, 0, none⟩)) undef), (cond (D 10) (.pointer (some ⟨bT, 0, none⟩)) undef), (cond (D 6) (.tuple #[.agg #[.int .i64 c.t, .int .i64 c.s, .int .i64 c.k, .int .i64 c.g, .int .u64 c.q, v', .int .i64 M.cnt, .int .i64 M.l.kind, .int .i64 M.l.a, .int .i64 M.l.b, .int .u64 (M.l.old : Nat), .int .u64 (M.l.new : Nat), .bool M.l.done], .agg #[.int .i64 M.l.kind, .int .i64 M.l.a, .int .i64 M.l.b, .int .u64 (M.l.old : Nat), .int .u64 (M.l.new : Nat), .bool M.l.done]]) undef), (cond (D 0) (.agg #[.int .i64 c.t, .int .i64 c.s, .int .i64 c.k, .int .i64 c.g, .int .u64 c.q, .slice sv c.n cap, .int .i64 m.cnt, .int .i64 m.l.kind, .int .i64 m.l.a, .int .i64 m.l.b, .int .u64 (m.l.old : Nat), .int .u64 (m.l.new : Nat), .bool m.l.done]) undef), (cond (D 1) (.int .i64 a) undef), (cond (D 2) (.int .i64 b) undef), (cond (D 3) (.agg #[.int .i64 a, .int .i64 b]) undef), (cond (D 4) (.int .u64 (x : Nat)) undef), (cond (D 5) (.tuple #[.agg #[.int .i64 c.t, .int .i64 c.s, .int .i64 c.k, .int .i64 c.g, .int .u64 c.q, v', .int .i64 M.cnt, .int .i64 M.l.kind, .int .i64 M.l.a, .int .i64 M.l.b, .int .u64 (M.l.old : Nat), .int .u64 (M.l.new : Nat), .bool M.l.done], .agg #[.int .i64 M.l.kind, .int .i64 M.l.a, .int .i64 M.l.b, .int .u64 (M.l.old : Nat), .int .u64 (M.l.new : Nat), .bool M.l.done]]) undef), (cond (D 7) (.agg #[.int .i64 c.t, .int .i64 c.s, .int .i64 c.k, .int .i64 c.g, .int .u64 c.q, v', .int .i64 M.cnt, .int .i64 M.l.kind, .int .i64 M.l.a, .int .i64 M.l.b, .int .u64 (M.l.old : Nat), .int .u64 (M.l.new : Nat), .bool M.l.done]) undef), (cond (D 8) (.agg #[.int .i64 M.l.kind, .int .i64 M.l.a, .int .i64 M.l.b, .int .u64 (M.l.old : Nat), .int .u64 (M.l.new : Nat), .bool M.l.done]) undef), undef], []⟩ ∧ (D 5 = true → ((v' = .slice sv c.n cap ∧ G = [] ∧ IsWords w (.slice sv c.n cap) c.n M.ws) ∨ ∃ g' cg, v' = .slice (some ⟨g', 0, none⟩) c.n cg ∧ c.n ≤ cg ∧ cg ≤ maxLen ∧ G = [(g', rowW M.ws c.n)])) ∧ (D 5 = false → G = []) ∧ (D 6 = true → D 5 = true) ∧ (D 7 = true → D 5 = true) ∧ (D 11 = true → D 5 = true) ∧ (D 11 = true → D 9 = true) ∧ (D 12 = true → D 10 = true) ∧ St w w' ([(B, [.int .i64 c.t, .int .i64 c.s, .int .i64 c.k, .int .i64 c.g, .int .u64 c.q, .slice sv c.n cap, .int .i64 m.cnt, .int .i64 m.l.kind, .int .i64 m.l.a, .int .i64 m.l.b, .int .u64 (m.l.old : Nat), .int .u64 (m.l.new : Nat), .bool m.l.done]), (R, [.int .i64 0, .int .i64 0, .int .i64 0, .int .i64 0, .int .u64 0, .slice none 0 0, .int .i64 0, .int .i64 0, .int .i64 0, .int .i64 0, .int .u64 0, .int .u64 0, .bool false])] ++ G ++ cond (D 9) [(bA, cond (D 11) [.int .i64 c.t, .int .i64 c.s, .int .i64 c.k, .int .i64 c.g, .int .u64 c.q, v', .int .i64 M.cnt, .int .i64 M.l.kind, .int .i64 M.l.a, .int .i64 M.l.b, .int .u64 (M.l.old : Nat), .int .u64 (M.l.new : Nat), .bool M.l.done] [.int .i64 0, .int .i64 0, .int .i64 0, .int .i64 0, .int .u64 0, .slice none 0 0, .int .i64 0, .int .i64 0, .int .i64 0, .int .i64 0, .int .u64 0, .int .u64 0, .bool false])] [] ++ cond (D 10) [(bT, cond (D 12) [.int .i64 M.l.kind, .int .i64 M.l.a, .int .i64 M.l.b, .int .u64 (M.l.old : Nat), .int .u64 (M.l.new : Nat), .bool M.l.done] [.int .i64 0, .int .i64 0, .int .i64 0, .int .u64 0, .int .u64 0, .bool false])] [])) (by kernel_rfl) ?acyc ?start ?steps ?ends
  case acyc =>
    intro i o hi e he hb
    exact og_acyc (by kernel_rfl) hi he hb
  case start => exact ⟨0, 0, .nilIface, [], rfl, (fun h => by cases h), (fun _ => rfl), (fun h => by cases h), (fun h => by cases h), (fun h => by cases h), (fun h => by cases h), (fun h => by cases h), hS.drew⟩
  case steps =>
    intro i o hi D a' w' hD hpre hI
    obtain ⟨bA, bT, v', G, rfl, hRel, hG, hcM, hcX, hcS, hcA, hcT, hS⟩ := hI
    match i, hi with
    | 0, hi =>
      cases hi
      refine wpOp_step rfl (fun K hK => ?_)
      refine stp_val rfl (yif_load (S := fun q => q = w') rfl _ _ rfl _ _ rfl _ (fun _ h => h ▸ hS.get 0 rfl) _ row_rmem (by exact rfl) _ (by dsimp only [cutL, List.drop, List.take]; first | done | exact rfl)) rfl ?_
      exact hK _ _ ⟨bA, bT, v', G, rfl, hRel, hG, hcM, hcX, hcS, hcA, hcT, hS⟩
    | 1, hi =>
      cases hi
      refine wpOp_step rfl (fun K hK => ?_)
      refine stp_val rfl (by exact yif_moveI rfl _ (.inl rfl) _ _ rfl) rfl ?_
      exact hK _ _ ⟨bA, bT, v', G, rfl, hRel, hG, hcM, hcX, hcS, hcA, hcT, hS⟩
    | 2, hi =>
      cases hi
      refine wpOp_step rfl (fun K hK => ?_)
      refine stp_val rfl (by exact yif_moveI rfl _ (.inl rfl) _ _ rfl) rfl ?_
      exact hK _ _ ⟨bA, bT, v', G, rfl, hRel, hG, hcM, hcX, hcS, hcA, hcT, hS⟩
    | 3, hi =>
      cases hi
      have d1 : D 1 = true := og_pre hpre (by kernel_rfl)
      have d2 : D 2 = true := og_pre hpre (by kernel_rfl)
      refine wpOp_step rfl (fun K hK => ?_)
      refine stp_call rfl _ _ _ rfl egSp _ (list2_eq (cond_at d1 rfl) (cond_at d2 rfl)) _ rfl ?_
      refine (rSpot_any _ _ _).mono ?_
      rintro e u ⟨rfl, hb⟩
      exact ⟨_, rfl, hK _ _ ⟨bA, bT, v', G, rfl, hRel, hG, hcM, hcX, hcS, hcA, hcT, hS.call hb⟩⟩
    | 4, hi =>
      cases hi
      refine wpOp_step rfl (fun K hK => ?_)
      refine stp_val rfl (by exact yif_moveI rfl _ (.inl rfl) _ _ rfl) rfl ?_
      exact hK _ _ ⟨bA, bT, v', G, rfl, hRel, hG, hcM, hcX, hcS, hcA, hcT, hS⟩
    | 5, hi =>
      cases hi
      have d0 : D 0 = true := og_pre hpre (by kernel_rfl)
      have d3 : D 3 = true := og_pre hpre (by kernel_rfl)
      have d4 : D 4 = true := og_pre hpre (by kernel_rfl)
      refine wpOp_step rfl (fun K hK => ?_)
      refine stp_call rfl _ _ _ rfl egTo _ (list5_eq (cond_at d0 rfl) rfl (cond_at d3 rfl) rfl (cond_at d4 rfl)) _ rfl ?_
      refine ((unhide HT) _ (((unhide HV).low.below hS.bel).is hS.bel.size)).mono ?_
      rintro e w4 ⟨vn, rfl, hI, hF, hb⟩
      obtain rfl := hG hD
      have m0 := og_not hcM hD
      have x0 := og_not hcX hD
      have z0 := og_not hcS hD
      refine ⟨_, rfl, ?_⟩
      rcases hF with rfl | ⟨g', cg, rfl, lg, hc1, hc2, hGb⟩
      · exact hK _ _ ⟨bA, bT, _, [], (by simp only [m0, x0]; rfl), (fun _ => .inl ⟨rfl, rfl, words_back (unhide HV) hI (hS.call hb).bel (Below.refl _ _)⟩), (fun _ => rfl), (fun _ => rfl), (fun _ => rfl), (fun _ => rfl), hcA, hcT, (by have h := hS.call hb; rw [z0] at h; show St w w4 (_ ++ _ ++ cond (D 9) [(bA, cond (D 11) _ _)] _ ++ _); rw [z0]; exact h)⟩
      · exact hK _ _ ⟨bA, bT, _, [(g', rowW M.ws c.n)], (by simp only [m0, x0]; rfl), (fun _ => .inr ⟨g', cg, rfl, hc1, hc2, rfl⟩), (fun h => by cases h), (fun _ => rfl), (fun _ => rfl), (fun _ => rfl), hcA, hcT, (by have h := hS.add hb hGb lg; rw [z0] at h; show St w w4 (_ ++ _ ++ cond (D 9) [(bA, cond (D 11) _ _)] _ ++ _); rw [z0]; exact h.perm (perm_last _))⟩
    | 6, hi =>
      cases hi
      have d5 : D 5 = true := og_pre hpre (by kernel_rfl)
      refine wpOp_step rfl (fun K hK => ?_)
      refine stp_val rfl (by exact yif_mv rfl (.tmp 17) rfl _ (cond_at d5 rfl)) rfl ?_
      exact hK _ _ ⟨bA, bT, v', G, rfl, hRel, hG, (fun _ => d5), hcX, hcS, hcA, hcT, hS⟩
    | 7, hi =>
      cases hi
      have d6 : D 6 = true := og_pre hpre (by kernel_rfl)
      refine wpOp_step rfl (fun K hK => ?_)
      refine stp_val rfl (by refine yif_extract rfl (.tmp 11) 0 rfl [.agg #[.int .i64 c.t, .int .i64 c.s, .int .i64 c.k, .int .i64 c.g, .int .u64 c.q, v', .int .i64 M.cnt, .int .i64 M.l.kind, .int .i64 M.l.a, .int .i64 M.l.b, .int .u64 (M.l.old : Nat), .int .u64 (M.l.new : Nat), .bool M.l.done], .agg #[.int .i64 M.l.kind, .int .i64 M.l.a, .int .i64 M.l.b, .int .u64 (M.l.old : Nat), .int .u64 (M.l.new : Nat), .bool M.l.done]] ?_ _ rfl; exact cond_at d6 rfl) rfl ?_
      exact hK _ _ ⟨bA, bT, v', G, rfl, hRel, hG, hcM, (fun _ => hcM d6), hcS, hcA, hcT, hS⟩
    | 8, hi =>
      cases hi
      have d6 : D 6 = true := og_pre hpre (by kernel_rfl)
      refine wpOp_step rfl (fun K hK => ?_)
      refine stp_val rfl (by refine yif_extract rfl (.tmp 11) 1 rfl [.agg #[.int .i64 c.t, .int .i64 c.s, .int .i64 c.k, .int .i64 c.g, .int .u64 c.q, v', .int .i64 M.cnt, .int .i64 M.l.kind, .int .i64 M.l.a, .int .i64 M.l.b, .int .u64 (M.l.old : Nat), .int .u64 (M.l.new : Nat), .bool M.l.done], .agg #[.int .i64 M.l.kind, .int .i64 M.l.a, .int .i64 M.l.b, .int .u64 (M.l.old : Nat), .int .u64 (M.l.new : Nat), .bool M.l.done]] ?_ _ rfl; exact cond_at d6 rfl) rfl ?_
      exact hK _ _ ⟨bA, bT, v', G, rfl, hRel, hG, hcM, hcX, hcS, hcA, hcT, hS⟩
    | 9, hi =>
      cases hi
      refine wpOp_step rfl (fun K hK => ?_)
      have e0 := og_not hcA hD
      refine stp_alloc hS rfl _ rfl _ zer_rmem _ rfl _ rfl _ (fun _ => rfl) ?_
      intro bn u hS'
      rw [hD] at hS'
      refine hK _ _ ⟨bn, bT, v', G, rfl, hRel, hG, hcM, hcX, hcS, (fun _ => rfl), hcT, ?_⟩
      show St w u (_ ++ G ++ [(bn, cond (D 11) _ _)] ++ _)
      rw [e0]
      exact hS'.perm (perm_mid _)
    | 10, hi =>
      cases hi
      refine wpOp_step rfl (fun K hK => ?_)
      have e0 := og_not hcT hD
      refine stp_alloc hS rfl _ rfl _ zer_rtch _ rfl _ rfl _ (fun _ => rfl) ?_
      intro bn u hS'
      rw [hD] at hS'
      refine hK _ _ ⟨bA, bn, v', G, rfl, hRel, hG, hcM, hcX, hcS, hcA, (fun _ => rfl), ?_⟩
      show St w u (_ ++ G ++ _ ++ [(bn, cond (D 12) _ _)])
      rw [e0]
      rw [cond_false, List.append_nil] at hS'
      exact hS'
    | 11, hi =>
      cases hi
      have d0 : D 0 = true := og_pre hpre (by kernel_rfl)
      have d1 : D 1 = true := og_pre hpre (by kernel_rfl)
      have d2 : D 2 = true := og_pre hpre (by kernel_rfl)
      have d3 : D 3 = true := og_pre hpre (by kernel_rfl)
      have d4 : D 4 = true := og_pre hpre (by kernel_rfl)
      have d5 : D 5 = true := og_pre hpre (by kernel_rfl)
      have d6 : D 6 = true := og_pre hpre (by kernel_rfl)
      have d7 : D 7 = true := og_pre hpre (by kernel_rfl)
      have d9 : D 9 = true := og_pre hpre (by kernel_rfl)
      have d10 : D 10 = true := og_pre hpre (by kernel_rfl)
      refine wpOp_step rfl (fun K hK => ?_)
      rw [d9, hD, cond_true, cond_false] at hS
      rcases hRel d5 with ⟨rfl, rfl, h3⟩ | ⟨g', cg, rfl, hc1, hc2, rfl⟩
      · refine stp_store hS 2 rfl _ _ _ rfl _ _ (cond_at d9 rfl) _ rfl _ (cond_at d7 rfl) _ siz_rmem (by exact rfl) (by exact rfl) (by exact rfl) rfl ?_
        intro u hS'
        refine hK _ _ ⟨bA, bT, _, _, rfl, (fun _ => .inl ⟨rfl, rfl, h3⟩), hG, hcM, hcX, (fun _ => d5), (fun _ => d9), hcT, ?_⟩
        show St w u (_ ++ _ ++ cond (D 9) _ _ ++ _)
        rw [d9]
        exact hS'
      · refine stp_store hS 3 rfl _ _ _ rfl _ _ (cond_at d9 rfl) _ rfl _ (cond_at d7 rfl) _ siz_rmem (by exact rfl) (by exact rfl) (by exact rfl) rfl ?_
        intro u hS'
        refine hK _ _ ⟨bA, bT, _, _, rfl, (fun _ => .inr ⟨g', cg, rfl, hc1, hc2, rfl⟩), hG, hcM, hcX, (fun _ => d5), (fun _ => d9), hcT, ?_⟩
        show St w u (_ ++ _ ++ cond (D 9) _ _ ++ _)
        rw [d9]
        exact hS'
    | 12, hi =>
      cases hi
      have d0 : D 0 = true := og_pre hpre (by kernel_rfl)
      have d1 : D 1 = true := og_pre hpre (by kernel_rfl)
      have d2 : D 2 = true := og_pre hpre (by kernel_rfl)
      have d3 : D 3 = true := og_pre hpre (by kernel_rfl)
      have d4 : D 4 = true := og_pre hpre (by kernel_rfl)
      have d5 : D 5 = true := og_pre hpre (by kernel_rfl)
      have d6 : D 6 = true := og_pre hpre (by kernel_rfl)
      have d7 : D 7 = true := og_pre hpre (by kernel_rfl)
      have d8 : D 8 = true := og_pre hpre (by kernel_rfl)
      have d9 : D 9 = true := og_pre hpre (by kernel_rfl)
      have d10 : D 10 = true := og_pre hpre (by kernel_rfl)
      have d11 : D 11 = true := og_pre hpre (by kernel_rfl)
      refine wpOp_step rfl (fun K hK => ?_)
      rw [d9, d11, d10, hD, cond_true, cond_true, cond_true, cond_false] at hS
      rcases hRel d5 with ⟨rfl, rfl, h3⟩ | ⟨g', cg, rfl, hc1, hc2, rfl⟩
      · refine stp_store hS 3 rfl _ _ _ rfl _ _ (cond_at d10 rfl) _ rfl _ (cond_at d8 rfl) _ siz_rtch (by exact rfl) (by exact rfl) (by exact rfl) rfl ?_
        intro u hS'
        refine hK _ _ ⟨bA, bT, _, _, rfl, (fun _ => .inl ⟨rfl, rfl, h3⟩), hG, hcM, hcX, hcS, hcA, (fun _ => d10), ?_⟩
        show St w u (_ ++ _ ++ cond (D 9) [(bA, cond (D 11) _ _)] _ ++ cond (D 10) _ _)
        rw [d9, d11, d10]
        exact hS'
      · refine stp_store hS 4 rfl _ _ _ rfl _ _ (cond_at d10 rfl) _ rfl _ (cond_at d8 rfl) _ siz_rtch (by exact rfl) (by exact rfl) (by exact rfl) rfl ?_
        intro u hS'
        refine hK _ _ ⟨bA, bT, _, _, rfl, (fun _ => .inr ⟨g', cg, rfl, hc1, hc2, rfl⟩), hG, hcM, hcX, hcS, hcA, (fun _ => d10), ?_⟩
        show St w u (_ ++ _ ++ cond (D 9) [(bA, cond (D 11) _ _)] _ ++ cond (D 10) _ _)
        rw [d9, d11, d10]
        exact hS'
    | i + 13, hi => simp at hi
  case ends =>
    intro D a' w' hall hI
    obtain ⟨bA, bT, v', G, rfl, hRel, _, _, _, _, _, _, hS⟩ := hI
    have d0 : D 0 = true := hall 0 (by decide)
    have d1 : D 1 = true := hall 1 (by decide)
    have d2 : D 2 = true := hall 2 (by decide)
    have d3 : D 3 = true := hall 3 (by decide)
    have d4 : D 4 = true := hall 4 (by decide)
    have d5 : D 5 = true := hall 5 (by decide)
    have d6 : D 6 = true := hall 6 (by decide)
    have d7 : D 7 = true := hall 7 (by decide)
    have d8 : D 8 = true := hall 8 (by decide)
    have d9 : D 9 = true := hall 9 (by decide)
    have d10 : D 10 = true := hall 10 (by decide)
    have d11 : D 11 = true := hall 11 (by decide)
    have d12 : D 12 = true := hall 12 (by decide)
    rw [d9, d11, d10, d12, cond_true, cond_true, cond_true, cond_true] at hS
    have hRl := hRel d5
    simp only [d0, d1, d2, d3, d4, d5, d6, d7, d8, d9, d10, cond_true]
    clear hRel hall d0 d1 d2 d3 d4 d5 d6 d7 d8 d9 d10 d11 d12
    rcases hRl with ⟨rfl, rfl, h3⟩ | ⟨g', cg, rfl, hc1, hc2, rfl⟩
    · dsimp only [List.cons_append, List.nil_append, List.append_nil] at hS
      go_wp2_with (first | (refine wpl_box hS rfl _ _ rfl _ rfl _ (by intro _; simp only [Act.put, List.setIfInBounds_toArray, List.set_cons_zero, List.set_cons_succ]; first | done | exact rfl) ?_; clear hS; intro _ _ hS; dsimp only [blit, List.set, List.cons_append, List.nil_append, Value.cells, List.toList_toArray] at hS) | (refine wpl_alloc hS rfl _ rfl _ (zer_any rfl) _ (by intro _; simp only [Act.put, List.setIfInBounds_toArray, List.set_cons_zero, List.set_cons_succ]; first | done | exact rfl) ?_; clear hS; intro _ _ hS; dsimp only [blit, List.set, List.cons_append, List.nil_append, Value.cells, List.toList_toArray] at hS) | (refine wpl_ld hS rfl _ _ rfl _ _ rfl ?_; (first | refine ⟨0, _, rfl, ?_⟩ | refine ⟨1, _, rfl, ?_⟩ | refine ⟨2, _, rfl, ?_⟩ | refine ⟨3, _, rfl, ?_⟩ | refine ⟨4, _, rfl, ?_⟩ | refine ⟨5, _, rfl, ?_⟩ | refine ⟨6, _, rfl, ?_⟩ | refine ⟨7, _, rfl, ?_⟩ | refine ⟨8, _, rfl, ?_⟩ | refine ⟨9, _, rfl, ?_⟩); first | refine .inl ⟨_, one_any rfl, rfl, _, (by simp only [Act.put, List.setIfInBounds_toArray, List.set_cons_zero, List.set_cons_succ]; first | done | exact rfl), ?_⟩ | refine .inr ⟨_, _, row_any rfl, rfl, (by dsimp only [cutL, List.drop, List.take]; first | done | exact rfl), _, (by simp only [Act.put, List.setIfInBounds_toArray, List.set_cons_zero, List.set_cons_succ]; first | done | exact rfl), ?_⟩) | (refine wpl_st hS rfl _ _ _ rfl rfl _ _ rfl ?_; (first | refine ⟨0, _, rfl, ?_⟩ | refine ⟨1, _, rfl, ?_⟩ | refine ⟨2, _, rfl, ?_⟩ | refine ⟨3, _, rfl, ?_⟩ | refine ⟨4, _, rfl, ?_⟩ | refine ⟨5, _, rfl, ?_⟩ | refine ⟨6, _, rfl, ?_⟩ | refine ⟨7, _, rfl, ?_⟩ | refine ⟨8, _, rfl, ?_⟩ | refine ⟨9, _, rfl, ?_⟩); refine ⟨_, (by first | exact shA rfl | exact shI rfl | exact shB rfl | exact shS rfl | exact shP rfl | exact shF rfl | exact shN rfl), _, siz_any rfl, (by exact rfl), (by exact rfl), (by exact rfl), ?_⟩; clear hS; intro _ hS; dsimp only [blit, List.set, List.cons_append, List.nil_append, Value.cells, List.toList_toArray] at hS))
      go_wp2
      have hZ := hS.get 1 rfl
      refine bodyPost_ret (v := .agg #[.int .i64 c.t, .int .i64 c.s, .int .i64 c.k, .int .i64 c.g, .int .u64 c.q, .slice sv c.n cap, .int .i64 M.cnt, .int .i64 M.l.kind, .int .i64 M.l.a, .int .i64 M.l.b, .int .u64 (M.l.old : Nat), .int .u64 (M.l.new : Nat), .bool M.l.done]) (by simp [results, Tryz.results46, go_sem, hZ.cell 0 _ rfl, hZ.cell 1 _ rfl, hZ.cell 2 _ rfl, hZ.cell 3 _ rfl, hZ.cell 4 _ rfl, hZ.cell 5 _ rfl, hZ.cell 6 _ rfl, hZ.cell 7 _ rfl, hZ.cell 8 _ rfl, hZ.cell 9 _ rfl, hZ.cell 10 _ rfl, hZ.cell 11 _ rfl, hZ.cell 12 _ rfl]) rfl ?_
      exact ⟨_, rfl, (h3.low.below hS.bel).is hS.bel.size, .inl rfl, hS.bel⟩
    · dsimp only [List.cons_append, List.nil_append, List.append_nil] at hS
      go_wp2_with (first | (refine wpl_box hS rfl _ _ rfl _ rfl _ (by intro _; simp only [Act.put, List.setIfInBounds_toArray, List.set_cons_zero, List.set_cons_succ]; first | done | exact rfl) ?_; clear hS; intro _ _ hS; dsimp only [blit, List.set, List.cons_append, List.nil_append, Value.cells, List.toList_toArray] at hS) | (refine wpl_alloc hS rfl _ rfl _ (zer_any rfl) _ (by intro _; simp only [Act.put, List.setIfInBounds_toArray, List.set_cons_zero, List.set_cons_succ]; first | done | exact rfl) ?_; clear hS; intro _ _ hS; dsimp only [blit, List.set, List.cons_append, List.nil_append, Value.cells, List.toList_toArray] at hS) | (refine wpl_ld hS rfl _ _ rfl _ _ rfl ?_; (first | refine ⟨0, _, rfl, ?_⟩ | refine ⟨1, _, rfl, ?_⟩ | refine ⟨2, _, rfl, ?_⟩ | refine ⟨3, _, rfl, ?_⟩ | refine ⟨4, _, rfl, ?_⟩ | refine ⟨5, _, rfl, ?_⟩ | refine ⟨6, _, rfl, ?_⟩ | refine ⟨7, _, rfl, ?_⟩ | refine ⟨8, _, rfl, ?_⟩ | refine ⟨9, _, rfl, ?_⟩); first | refine .inl ⟨_, one_any rfl, rfl, _, (by simp only [Act.put, List.setIfInBounds_toArray, List.set_cons_zero, List.set_cons_succ]; first | done | exact rfl), ?_⟩ | refine .inr ⟨_, _, row_any rfl, rfl, (by dsimp only [cutL, List.drop, List.take]; first | done | exact rfl), _, (by simp only [Act.put, List.setIfInBounds_toArray, List.set_cons_zero, List.set_cons_succ]; first | done | exact rfl), ?_⟩) | (refine wpl_st hS rfl _ _ _ rfl rfl _ _ rfl ?_; (first | refine ⟨0, _, rfl, ?_⟩ | refine ⟨1, _, rfl, ?_⟩ | refine ⟨2, _, rfl, ?_⟩ | refine ⟨3, _, rfl, ?_⟩ | refine ⟨4, _, rfl, ?_⟩ | refine ⟨5, _, rfl, ?_⟩ | refine ⟨6, _, rfl, ?_⟩ | refine ⟨7, _, rfl, ?_⟩ | refine ⟨8, _, rfl, ?_⟩ | refine ⟨9, _, rfl, ?_⟩); refine ⟨_, (by first | exact shA rfl | exact shI rfl | exact shB rfl | exact shS rfl | exact shP rfl | exact shF rfl | exact shN rfl), _, siz_any rfl, (by exact rfl), (by exact rfl), (by exact rfl), ?_⟩; clear hS; intro _ hS; dsimp only [blit, List.set, List.cons_append, List.nil_append, Value.cells, List.toList_toArray] at hS))
      go_wp2
      have hZ := hS.get 1 rfl
      refine bodyPost_ret (v := .agg #[.int .i64 c.t, .int .i64 c.s, .int .i64 c.k, .int .i64 c.g, .int .u64 c.q, .slice (some ⟨g', 0, none⟩) c.n cg, .int .i64 M.cnt, .int .i64 M.l.kind, .int .i64 M.l.a, .int .i64 M.l.b, .int .u64 (M.l.old : Nat), .int .u64 (M.l.new : Nat), .bool M.l.done]) (by simp [results, Tryz.results46, go_sem, hZ.cell 0 _ rfl, hZ.cell 1 _ rfl, hZ.cell 2 _ rfl, hZ.cell 3 _ rfl, hZ.cell 4 _ rfl, hZ.cell 5 _ rfl, hZ.cell 6 _ rfl, hZ.cell 7 _ rfl, hZ.cell 8 _ rfl, hZ.cell 9 _ rfl, hZ.cell 10 _ rfl, hZ.cell 11 _ rfl, hZ.cell 12 _ rfl]) rfl ?_
      exact ⟨_, rfl, .inr ⟨g', 0, cg, rfl, hn0, hc1, hc2, (hS.get 2 rfl).lt, fun j hj => ⟨by rw [Nat.zero_add]; exact (hS.get 2 rfl).cell j _ (rowW_get _ c.n j hj), (unhide HWD) j hj⟩⟩, .inr ⟨g', cg, rfl, hS.low (g', _) (List.mem_of_getElem? (i := 2) rfl), hc1, hc2, hS.get 2 rfl⟩, hS.bel⟩
end
section
set_option maxRecDepth 100000
open Go.RowKit Go.Sort
set_option maxHeartbeats 8000000 in
theorem rSwap_any (c : Um.Cf) (v : Value) (m M : Um.Mm) (a b : Int) (o x : Nat) (w : World) (hr : c.r = true) (hv : IsWords w v c.n m.ws) (hx : Um.Word x) (hM : M = Um.mtouch c m 3 a b o x) :
    Calls Tryz.prog 51 #[.agg #[.int .i64 c.t, .int .i64 c.s, .int .i64 c.k, .int .i64 c.g, .int .u64 c.q, v, .int .i64 m.cnt, .int .i64 m.l.kind, .int .i64 m.l.a, .int .i64 m.l.b, .int .u64 (m.l.old : Nat), .int .u64 (m.l.new : Nat), .bool m.l.done], .int .i64 a, .int .i64 b, .int .u64 (o : Nat), .int .u64 (x : Nat)] w fun e W' =>
      ∃ v', e = .returned (.tuple #[.agg #[.int .i64 c.t, .int .i64 c.s, .int .i64 c.k, .int .i64 c.g, .int .u64 c.q, v', .int .i64 M.cnt, .int .i64 M.l.kind, .int .i64 M.l.a, .int .i64 M.l.b, .int .u64 (M.l.old : Nat), .int .u64 (M.l.new : Nat), .bool M.l.done], .bool M.l.done]) ∧ IsWords W' v' c.n M.ws ∧ (v' = v ∨ RFresh w W' v' c.n M.ws) ∧ Below w.heap.size w W' := by
  have hn0 : 0 < c.n := by have := Um.Cf.n_pos hr; omega
  have HWD := hide (show ∀ j, j < c.n → Um.Word (M.ws j) by rw [hM]; exact Um.word_touch (words_word hv) hx)
  have hT := fun w hv => rTouch_any c v m M 3 a b o x w hr hv hx (.inr (.inr (.inl rfl))) hM
  have HV := hide hv
  have HT := hide hT
  obtain ⟨sv, cap, rfl⟩ := words_len hv
  clear hv hT hM hx
  have hS := St.new w
  go_enter Tryz.func51, Tryz.ntmps51
  go_wp2_with (first | (refine wpl_box hS rfl _ _ rfl _ rfl _ (by intro _; simp only [Act.put, List.setIfInBounds_toArray, List.set_cons_zero, List.set_cons_succ]; first | done | exact rfl) ?_; clear hS; intro _ _ hS; dsimp only [blit, List.set, List.cons_append, List.nil_append, Value.cells, List.toList_toArray] at hS) | (refine wpl_alloc hS rfl _ rfl _ (zer_any rfl) _ (by intro _; simp only [Act.put, List.setIfInBounds_toArray, List.set_cons_zero, List.set_cons_succ]; first | done | exact rfl) ?_; clear hS; intro _ _ hS; dsimp only [blit, List.set, List.cons_append, List.nil_append, Value.cells, List.toList_toArray] at hS) | (refine wpl_ld hS rfl _ _ rfl _ _ rfl ?_; (first | refine ⟨0, _, rfl, ?_⟩ | refine ⟨1, _, rfl, ?_⟩ | refine ⟨2, _, rfl, ?_⟩ | refine ⟨3, _, rfl, ?_⟩ | refine ⟨4, _, rfl, ?_⟩ | refine ⟨5, _, rfl, ?_⟩ | refine ⟨6, _, rfl, ?_⟩ | refine ⟨7, _, rfl, ?_⟩ | refine ⟨8, _, rfl, ?_⟩ | refine ⟨9, _, rfl, ?_⟩); first | refine .inl ⟨_, one_any rfl, rfl, _, (by simp only [Act.put, List.setIfInBounds_toArray, List.set_cons_zero, List.set_cons_succ]; first | done | exact rfl), ?_⟩ | refine .inr ⟨_, _, row_any rfl, rfl, (by dsimp only [cutL, List.drop, List.take]; first | done | exact rfl), _, (by simp only [Act.put, List.setIfInBounds_toArray, List.set_cons_zero, List.set_cons_succ]; first | done | exact rfl), ?_⟩) | (refine wpl_st hS rfl _ _ _ rfl rfl _ _ rfl ?_; (first | refine ⟨0, _, rfl, ?_⟩ | refine ⟨1, _, rfl, ?_⟩ | refine ⟨2, _, rfl, ?_⟩ | refine ⟨3, _, rfl, ?_⟩ | refine ⟨4, _, rfl, ?_⟩ | refine ⟨5, _, rfl, ?_⟩ | refine ⟨6, _, rfl, ?_⟩ | refine ⟨7, _, rfl, ?_⟩ | refine ⟨8, _, rfl, ?_⟩ | refine ⟨9, _, rfl, ?_⟩); refine ⟨_, (by first | exact shA rfl | exact shI rfl | exact shB rfl | exact shS rfl | exact shP rfl | exact shF rfl | exact shN rfl), _, siz_any rfl, (by exact rfl), (by exact rfl), (by exact rfl), ?_⟩; clear hS; intro _ hS; dsimp only [blit, List.set, List.cons_append, List.nil_append, Value.cells, List.toList_toArray] at hS))
  rename_i B _ R X _ _
  refine wp_region_og (I := fun D a' w' => ∃ (bA bT : Nat) (v' : Value) (G : List (Nat × List Value)), a' = ⟨#[.agg #[.int .i64 c.t, .int .i64 c.s, .int .i64 c.k, .int .i64 c.g, .int .u64 c.q, .slice sv c.n cap, .int .i64 m.cnt, .int .i64 m.l.kind, .int .i64 m.l.a, .int .i64 m.l.b, .int .u64 (m.l.old : Nat), .int .u64 (m.l.new : Nat), .bool m.l.done], .int .i64 a, .int .i64 b, .int .u64 (o : Nat), .int .u64 (x : Nat), .pointer (some ⟨B, 0, none⟩), undef, undef, undef, undef, .pointer (some ⟨R, 0, none⟩), .bool false, (cond (D 10) (.pointer (some ⟨bA, 0, none⟩)) undef), (cond (D 11) (.pointer (some ⟨bT, 0, none⟩)) undef), (cond (D 7) (.tuple #[.agg #[.int .i64 c.t, .int .i64 c.s, .int .i64 c.k, .int .i64 c.g, .int .u64 c.q, v', .int .i64 M.cnt, .int .i64 M.l.kind, .int .i64 M.l.a, .int .i64 M.l.b, .int .u64 (M.l.old : Nat), .int .u64 (M.l.new : Nat), .bool M.l.done], .agg #[.int .i64 M.l.kind, .int .i64 M.l.a, .int .i64 M.l.b, .int .u64 (M.l.old : Nat), .int .u64 (M.l.new : Nat), .bool M.l.done]]) undef), (cond (D 0) (.agg #[.int .i64 c.t, .int .i64 c.s, .int .i64 c.k, .int .i64 c.g, .int .u64 c.q, .slice sv c.n cap, .int .i64 m.cnt, .int .i64 m.l.kind, .int .i64 m.l.a, .int .i64 m.l.b, .int .u64 (m.l.old : Nat), .int .u64 (m.l.new : Nat), .bool m.l.done]) undef), (cond (D 1) (.int .i64 a) undef), (cond (D 2) (.int .i64 b) undef), (cond (D 3) (.agg #[.int .i64 a, .int .i64 b]) undef), (cond (D 4) (.int .u64 (o : Nat)) undef), (cond (D 5) (.int .u64 (x : Nat)) undef), (cond (D 6) (.tuple #[.agg #[.int .i64 c.t, .int .i64 c.s, .int .i64 c.k, .int .i64 c.g, .int .u64 c.q, v', .int .i64 M.cnt, .int .i64 M.l.kind, .int .i64 M.l.a, .int .i64 M.l.b, .int .u64 (M.l.old : Nat), .int .u64 (M.l.new : Nat), .bool M.l.done], .agg #[.int .i64 M.l.kind, .int .i64 M.l.a, .int .i64 M.l.b, .int .u64 (M.l.old : Nat), .int .u64 (M.l.new : Nat), .bool M.l.done]]) undef), (cond (D 8) (.agg #[.int .i64 c.t, .int .i64 c.s, .int .i64 c.k, .int .i64 c.g, .int .u64 c.q, v', .int .i64 M.cnt, .int .i64 M.l.kind, .int .i64 M.l.a, .int .i64 M.l.b, .int .u64 (M.l.old : Nat), .int .u64 (M.l.new : Nat), .bool M.l.done]) undef), (cond (D 9) (.agg #[.int .i64 M.l.kind, .int .i64 M.l.a, .int .i64 M.l.b, .int .u64 (M.l.old : Nat), .int .u64 (M.l.new : Nat), .bool M.l.done]) undef), undef, undef, undef], []⟩ ∧ (D 6 = true → ((v' = .slice sv c.n cap ∧ G = [] ∧ IsWords w (.slice sv c.n cap) c.n M.ws) ∨ ∃ g' cg, v' = .slice (some ⟨g', 0, none⟩) c.n cg ∧ c.n ≤ cg ∧ cg ≤ maxLen ∧ G = [(g', rowW M.ws c.n)])) ∧ (D 6 = false → G = []) ∧ (D 7 = true → D 6 = true) ∧ (D 8 = true → D 6 = true) ∧ (D 12 = true → D 6 = true) ∧ (D 12 = true → D 10 = true) ∧ (D 13 = true → D 11 = true) ∧ St w w' ([(B, [.int .i64 c.t, .int .i64 c.s, .int .i64 c.k, .int .i64 c.g, .int .u64 c.q, .slice sv c.n cap, .int .i64 m.cnt, .int .i64 m.l.kind, .int .i64 m.l.a, .int .i64 m.l.b, .int .u64 (m.l.old : Nat), .int .u64 (m.l.new : Nat), .bool m.l.done]), (R, [.int .i64 0, .int .i64 0, .int .i64 0, .int .i64 0, .int .u64 0, .slice none 0 0, .int .i64 0, .int .i64 0, .int .i64 0, .int .i64 0, .int .u64 0, .int .u64 0, .bool false])] ++ G ++ cond (D 10) [(bA, cond (D 12) [.int .i64 c.t, .int .i64 c.s, .int .i64 c.k, .int .i64 c.g, .int .u64 c.q, v', .int .i64 M.cnt, .int .i64 M.l.kind, .int .i64 M.l.a, .int .i64 M.l.b, .int .u64 (M.l.old : Nat), .int .u64 (M.l.new : Nat), .bool M.l.done] [.int .i64 0, .int .i64 0, .int .i64 0, .int .i64 0, .int .u64 0, .slice none 0 0, .int .i64 0, .int .i64 0, .int .i64 0, .int .i64 0, .int .u64 0, .int .u64 0, .bool false])] [] ++ cond (D 11) [(bT, cond (D 13) [.int .i64 M.l.kind, .int .i64 M.l.a, .int .i64 M.l.b, .int .u64 (M.l.old : Nat), .int .u64 (M.l.new : Nat), .bool M.l.done] [.int .i64 0, .int .i64 0, .int .i64 0, .int .u64 0, .int .u64 0, .bool false])] [])) (by kernel_rfl) ?acyc ?start ?steps ?ends
  case acyc =>
    intro i o hi e he hb
    exact og_acyc (by kernel_rfl) hi he hb
  case start => exact ⟨0, 0, .nilIface, [], rfl, (fun h => by cases h), (fun _ => rfl), (fun h => by cases h), (fun h => by cases h), (fun h => by cases h), (fun h => by cases h), (fun h => by cases h), hS.drew⟩
  case steps =>
    intro i o hi D a' w' hD hpre hI
    obtain ⟨bA, bT, v', G, rfl, hRel, hG, hcM, hcX, hcS, hcA, hcT, hS⟩ := hI
    match i, hi with
    | 0, hi =>
      cases hi
      refine wpOp_step rfl (fun K hK => ?_)
      refine stp_val rfl (yif_load (S := fun q => q = w') rfl _ _ rfl _ _ rfl _ (fun _ h => h ▸ hS.get 0 rfl) _ row_rmem (by exact rfl) _ (by dsimp only [cutL, List.drop, List.take]; first | done | exact rfl)) rfl ?_
      exact hK _ _ ⟨bA, bT, v', G, rfl, hRel, hG, hcM, hcX, hcS, hcA, hcT, hS⟩
    | 1, hi =>
      cases hi
      refine wpOp_step rfl (fun K hK => ?_)
      refine stp_val rfl (by exact yif_moveI rfl _ (.inl rfl) _ _ rfl) rfl ?_
      exact hK _ _ ⟨bA, bT, v', G, rfl, hRel, hG, hcM, hcX, hcS, hcA, hcT, hS⟩
    | 2, hi =>
      cases hi
      refine wpOp_step rfl (fun K hK => ?_)
      refine stp_val rfl (by exact yif_moveI rfl _ (.inl rfl) _ _ rfl) rfl ?_
      exact hK _ _ ⟨bA, bT, v', G, rfl, hRel, hG, hcM, hcX, hcS, hcA, hcT, hS⟩
    | 3, hi =>
      cases hi
      have d1 : D 1 = true := og_pre hpre (by kernel_rfl)
      have d2 : D 2 = true := og_pre hpre (by kernel_rfl)
      refine wpOp_step rfl (fun K hK => ?_)
      refine stp_call rfl _ _ _ rfl egSp _ (list2_eq (cond_at d1 rfl) (cond_at d2 rfl)) _ rfl ?_
      refine (rSpot_any _ _ _).mono ?_
      rintro e u ⟨rfl, hb⟩
      exact ⟨_, rfl, hK _ _ ⟨bA, bT, v', G, rfl, hRel, hG, hcM, hcX, hcS, hcA, hcT, hS.call hb⟩⟩
    | 4, hi =>
      cases hi
      refine wpOp_step rfl (fun K hK => ?_)
      refine stp_val rfl (by exact yif_moveI rfl _ (.inl rfl) _ _ rfl) rfl ?_
      exact hK _ _ ⟨bA, bT, v', G, rfl, hRel, hG, hcM, hcX, hcS, hcA, hcT, hS⟩
    | 5, hi =>
      cases hi
      refine wpOp_step rfl (fun K hK => ?_)
      refine stp_val rfl (by exact yif_moveI rfl _ (.inl rfl) _ _ rfl) rfl ?_
      exact hK _ _ ⟨bA, bT, v', G, rfl, hRel, hG, hcM, hcX, hcS, hcA, hcT, hS⟩
    | 6, hi =>
      cases hi
      have d0 : D 0 = true := og_pre hpre (by kernel_rfl)
      have d3 : D 3 = true := og_pre hpre (by kernel_rfl)
      have d4 : D 4 = true := og_pre hpre (by kernel_rfl)
      have d5 : D 5 = true := og_pre hpre (by kernel_rfl)
      refine wpOp_step rfl (fun K hK => ?_)
      refine stp_call rfl _ _ _ rfl egTo _ (list5_eq (cond_at d0 rfl) rfl (cond_at d3 rfl) (cond_at d4 rfl) (cond_at d5 rfl)) _ rfl ?_
      refine ((unhide HT) _ (((unhide HV).low.below hS.bel).is hS.bel.size)).mono ?_
      rintro e w4 ⟨vn, rfl, hI, hF, hb⟩
      obtain rfl := hG hD
      have m0 := og_not hcM hD
      have x0 := og_not hcX hD
      have z0 := og_not hcS hD
      refine ⟨_, rfl, ?_⟩
      rcases hF with rfl | ⟨g', cg, rfl, lg, hc1, hc2, hGb⟩
      · exact hK _ _ ⟨bA, bT, _, [], (by simp only [m0, x0]; rfl), (fun _ => .inl ⟨rfl, rfl, words_back (unhide HV) hI (hS.call hb).bel (Below.refl _ _)⟩), (fun _ => rfl), (fun _ => rfl), (fun _ => rfl), (fun _ => rfl), hcA, hcT, (by have h := hS.call hb; rw [z0] at h; show St w w4 (_ ++ _ ++ cond (D 10) [(bA, cond (D 12) _ _)] _ ++ _); rw [z0]; exact h)⟩
      · exact hK _ _ ⟨bA, bT, _, [(g', rowW M.ws c.n)], (by simp only [m0, x0]; rfl), (fun _ => .inr ⟨g', cg, rfl, hc1, hc2, rfl⟩), (fun h => by cases h), (fun _ => rfl), (fun _ => rfl), (fun _ => rfl), hcA, hcT, (by have h := hS.add hb hGb lg; rw [z0] at h; show St w w4 (_ ++ _ ++ cond (D 10) [(bA, cond (D 12) _ _)] _ ++ _); rw [z0]; exact h.perm (perm_last _))⟩
    | 7, hi =>
      cases hi
      have d6 : D 6 = true := og_pre hpre (by kernel_rfl)
      refine wpOp_step rfl (fun K hK => ?_)
      refine stp_val rfl (by exact yif_mv rfl (.tmp 21) rfl _ (cond_at d6 rfl)) rfl ?_
      exact hK _ _ ⟨bA, bT, v', G, rfl, hRel, hG, (fun _ => d6), hcX, hcS, hcA, hcT, hS⟩
    | 8, hi =>
      cases hi
      have d7 : D 7 = true := og_pre hpre (by kernel_rfl)
      refine wpOp_step rfl (fun K hK => ?_)
      refine stp_val rfl (by refine yif_extract rfl (.tmp 14) 0 rfl [.agg #[.int .i64 c.t, .int .i64 c.s, .int .i64 c.k, .int .i64 c.g, .int .u64 c.q, v', .int .i64 M.cnt, .int .i64 M.l.kind, .int .i64 M.l.a, .int .i64 M.l.b, .int .u64 (M.l.old : Nat), .int .u64 (M.l.new : Nat), .bool M.l.done], .agg #[.int .i64 M.l.kind, .int .i64 M.l.a, .int .i64 M.l.b, .int .u64 (M.l.old : Nat), .int .u64 (M.l.new : Nat), .bool M.l.done]] ?_ _ rfl; exact cond_at d7 rfl) rfl ?_
      exact hK _ _ ⟨bA, bT, v', G, rfl, hRel, hG, hcM, (fun _ => hcM d7), hcS, hcA, hcT, hS⟩
    | 9, hi =>
      cases hi
      have d7 : D 7 = true := og_pre hpre (by kernel_rfl)
      refine wpOp_step rfl (fun K hK => ?_)
      refine stp_val rfl (by refine yif_extract rfl (.tmp 14) 1 rfl [.agg #[.int .i64 c.t, .int .i64 c.s, .int .i64 c.k, .int .i64 c.g, .int .u64 c.q, v', .int .i64 M.cnt, .int .i64 M.l.kind, .int .i64 M.l.a, .int .i64 M.l.b, .int .u64 (M.l.old : Nat), .int .u64 (M.l.new : Nat), .bool M.l.done], .agg #[.int .i64 M.l.kind, .int .i64 M.l.a, .int .i64 M.l.b, .int .u64 (M.l.old : Nat), .int .u64 (M.l.new : Nat), .bool M.l.done]] ?_ _ rfl; exact cond_at d7 rfl) rfl ?_
      exact hK _ _ ⟨bA, bT, v', G, rfl, hRel, hG, hcM, hcX, hcS, hcA, hcT, hS⟩
    | 10, hi =>
      cases hi
      refine wpOp_step rfl (fun K hK => ?_)
      have e0 := og_not hcA hD
      refine stp_alloc hS rfl _ rfl _ zer_rmem _ rfl _ rfl _ (fun _ => rfl) ?_
      intro bn u hS'
      rw [hD] at hS'
      refine hK _ _ ⟨bn, bT, v', G, rfl, hRel, hG, hcM, hcX, hcS, (fun _ => rfl), hcT, ?_⟩
      show St w u (_ ++ G ++ [(bn, cond (D 12) _ _)] ++ _)
      rw [e0]
      exact hS'.perm (perm_mid _)
    | 11, hi =>
      cases hi
      refine wpOp_step rfl (fun K hK => ?_)
      have e0 := og_not hcT hD
      refine stp_alloc hS rfl _ rfl _ zer_rtch _ rfl _ rfl _ (fun _ => rfl) ?_
      intro bn u hS'
      rw [hD] at hS'
      refine hK _ _ ⟨bA, bn, v', G, rfl, hRel, hG, hcM, hcX, hcS, hcA, (fun _ => rfl), ?_⟩
      show St w u (_ ++ G ++ _ ++ [(bn, cond (D 13) _ _)])
      rw [e0]
      rw [cond_false, List.append_nil] at hS'
      exact hS'
    | 12, hi =>
      cases hi
      have d0 : D 0 = true := og_pre hpre (by kernel_rfl)
      have d1 : D 1 = true := og_pre hpre (by kernel_rfl)
      have d2 : D 2 = true := og_pre hpre (by kernel_rfl)
      have d3 : D 3 = true := og_pre hpre (by kernel_rfl)
      have d4 : D 4 = true := og_pre hpre (by kernel_rfl)
      have d5 : D 5 = true := og_pre hpre (by kernel_rfl)
      have d6 : D 6 = true := og_pre hpre (by kernel_rfl)
      have d7 : D 7 = true := og_pre hpre (by kernel_rfl)
      have d8 : D 8 = true := og_pre hpre (by kernel_rfl)
      have d10 : D 10 = true := og_pre hpre (by kernel_rfl)
      have d11 : D 11 = true := og_pre hpre (by kernel_rfl)
      refine wpOp_step rfl (fun K hK => ?_)
      rw [d10, hD, cond_true, cond_false] at hS
      rcases hRel d6 with ⟨rfl, rfl, h3⟩ | ⟨g', cg, rfl, hc1, hc2, rfl⟩
      · refine stp_store hS 2 rfl _ _ _ rfl _ _ (cond_at d10 rfl) _ rfl _ (cond_at d8 rfl) _ siz_rmem (by exact rfl) (by exact rfl) (by exact rfl) rfl ?_
        intro u hS'
        refine hK _ _ ⟨bA, bT, _, _, rfl, (fun _ => .inl ⟨rfl, rfl, h3⟩), hG, hcM, hcX, (fun _ => d6), (fun _ => d10), hcT, ?_⟩
        show St w u (_ ++ _ ++ cond (D 10) _ _ ++ _)
        rw [d10]
        exact hS'
      · refine stp_store hS 3 rfl _ _ _ rfl _ _ (cond_at d10 rfl) _ rfl _ (cond_at d8 rfl) _ siz_rmem (by exact rfl) (by exact rfl) (by exact rfl) rfl ?_
        intro u hS'
        refine hK _ _ ⟨bA, bT, _, _, rfl, (fun _ => .inr ⟨g', cg, rfl, hc1, hc2, rfl⟩), hG, hcM, hcX, (fun _ => d6), (fun _ => d10), hcT, ?_⟩
        show St w u (_ ++ _ ++ cond (D 10) _ _ ++ _)
        rw [d10]
        exact hS'
    | 13, hi =>
      cases hi
      have d0 : D 0 = true := og_pre hpre (by kernel_rfl)
      have d1 : D 1 = true := og_pre hpre (by kernel_rfl)
      have d2 : D 2 = true := og_pre hpre (by kernel_rfl)
      have d3 : D 3 = true := og_pre hpre (by kernel_rfl)
      have d4 : D 4 = true := og_pre hpre (by kernel_rfl)
      have d5 : D 5 = true := og_pre hpre (by kernel_rfl)
      have d6 : D 6 = true := og_pre hpre (by kernel_rfl)
      have d7 : D 7 = true := og_pre hpre (by kernel_rfl)
      have d8 : D 8 = true := og_pre hpre (by kernel_rfl)
      have d9 : D 9 = true := og_pre hpre (by kernel_rfl)
      have d10 : D 10 = true := og_pre hpre (by kernel_rfl)
      have d11 : D 11 = true := og_pre hpre (by kernel_rfl)
      have d12 : D 12 = true := og_pre hpre (by kernel_rfl)
      refine wpOp_step rfl (fun K hK => ?_)
      rw [d10, d12, d11, hD, cond_true, cond_true, cond_true, cond_false] at hS
      rcases hRel d6 with ⟨rfl, rfl, h3⟩ | ⟨g', cg, rfl, hc1, hc2, rfl⟩
      · refine stp_store hS 3 rfl _ _ _ rfl _ _ (cond_at d11 rfl) _ rfl _ (cond_at d9 rfl) _ siz_rtch (by exact rfl) (by exact rfl) (by exact rfl) rfl ?_
        intro u hS'
        refine hK _ _ ⟨bA, bT, _, _, rfl, (fun _ => .inl ⟨rfl, rfl, h3⟩), hG, hcM, hcX, hcS, hcA, (fun _ => d11), ?_⟩
        show St w u (_ ++ _ ++ cond (D 10) [(bA, cond (D 12) _ _)] _ ++ cond (D 11) _ _)
        rw [d10, d12, d11]
        exact hS'
      · refine stp_store hS 4 rfl _ _ _ rfl _ _ (cond_at d11 rfl) _ rfl _ (cond_at d9 rfl) _ siz_rtch (by exact rfl) (by exact rfl) (by exact rfl) rfl ?_
        intro u hS'
        refine hK _ _ ⟨bA, bT, _, _, rfl, (fun _ => .inr ⟨g', cg, rfl, hc1, hc2, rfl⟩), hG, hcM, hcX, hcS, hcA, (fun _ => d11), ?_⟩
        show St w u (_ ++ _ ++ cond (D 10) [(bA, cond (D 12) _ _)] _ ++ cond (D 11) _ _)
        rw [d10, d12, d11]
        exact hS'
    | i + 14, hi => simp at hi
  case ends =>
    intro D a' w' hall hI
    obtain ⟨bA, bT, v', G, rfl, hRel, _, _, _, _, _, _, hS⟩ := hI
    have d0 : D 0 = true := hall 0 (by decide)
    have d1 : D 1 = true := hall 1 (by decide)
    have d2 : D 2 = true := hall 2 (by decide)
    have d3 : D 3 = true := hall 3 (by decide)
    have d4 : D 4 = true := hall 4 (by decide)
    have d5 : D 5 = true := hall 5 (by decide)
    have d6 : D 6 = true := hall 6 (by decide)
    have d7 : D 7 = true := hall 7 (by decide)
    have d8 : D 8 = true := hall 8 (by decide)
    have d9 : D 9 = true := hall 9 (by decide)
    have d10 : D 10 = true := hall 10 (by decide)
    have d11 : D 11 = true := hall 11 (by decide)
    have d12 : D 12 = true := hall 12 (by decide)
    have d13 : D 13 = true := hall 13 (by decide)
    rw [d10, d12, d11, d13, cond_true, cond_true, cond_true, cond_true] at hS
    have hRl := hRel d6
    simp only [d0, d1, d2, d3, d4, d5, d6, d7, d8, d9, d10, d11, cond_true]
    clear hRel hall d0 d1 d2 d3 d4 d5 d6 d7 d8 d9 d10 d11 d12 d13
    rcases hRl with ⟨rfl, rfl, h3⟩ | ⟨g', cg, rfl, hc1, hc2, rfl⟩
    · dsimp only [List.cons_append, List.nil_append, List.append_nil] at hS
      go_wp2_with fail
      refine wp_region_held (S := fun q => BlkAt q bA [.int .i64 c.t, .int .i64 c.s, .int .i64 c.k, .int .i64 c.g, .int .u64 c.q, .slice sv c.n cap, .int .i64 M.cnt, .int .i64 M.l.kind, .int .i64 M.l.a, .int .i64 M.l.b, .int .u64 (M.l.old : Nat), .int .u64 (M.l.new : Nat), .bool M.l.done] ∧ BlkAt q bT [.int .i64 M.l.kind, .int .i64 M.l.a, .int .i64 M.l.b, .int .u64 (M.l.old : Nat), .int .u64 (M.l.new : Nat), .bool M.l.done]) (by kernel_rfl) ?_
      show wpAnyH Tryz.prog .any _ _ _ 5 _ _ (World.drew w')
      replace hS := hS.drew
      have hM : BlkAt (World.drew w') bA [.int .i64 c.t, .int .i64 c.s, .int .i64 c.k, .int .i64 c.g, .int .u64 c.q, .slice sv c.n cap, .int .i64 M.cnt, .int .i64 M.l.kind, .int .i64 M.l.a, .int .i64 M.l.b, .int .u64 (M.l.old : Nat), .int .u64 (M.l.new : Nat), .bool M.l.done] ∧ BlkAt (World.drew w') bT [.int .i64 M.l.kind, .int .i64 M.l.a, .int .i64 M.l.b, .int .u64 (M.l.old : Nat), .int .u64 (M.l.new : Nat), .bool M.l.done] := ⟨hS.get 2 rfl, hS.get 3 rfl⟩
      refine held_take (i := 0) rfl (by kernel_rfl) (by kernel_rfl) (by kernel_rfl) (fun _ _ _ h => h) (yif_load rfl _ _ rfl _ _ rfl _ (fun _ h => h.1) _ row_rmem (by exact rfl) _ (by dsimp only [cutL, List.drop, List.take]; first | done | exact rfl)) hM (some 24) rfl _ (by simp only [Act.put, List.setIfInBounds_toArray, List.set_cons_zero, List.set_cons_succ]; first | done | exact rfl) ?_
      refine held_take (i := 1) rfl (by kernel_rfl) (by kernel_rfl) (by kernel_rfl) (fun _ _ _ h => h) (yif_by rfl _ (fun w => by go_simp; first | done | exact rfl)) hM (some 25) rfl _ (by simp only [Act.put, List.setIfInBounds_toArray, List.set_cons_zero, List.set_cons_succ]; first | done | exact rfl) ?_
      refine held_take (i := 2) rfl (by kernel_rfl) (by kernel_rfl) (by kernel_rfl) (fun _ _ _ h => h) (yif_load1 rfl _ _ rfl _ _ rfl _ (fun _ h => h.2) one_bool _ rfl) hM (some 26) rfl _ (by simp only [Act.put, List.setIfInBounds_toArray, List.set_cons_zero, List.set_cons_succ]; first | done | exact rfl) ?_
      refine wpAnyH_all (rs := [3]) (by kernel_rfl) (by simp) ?_
      refine AllReadyH.cons rfl (fun K hK => ?_) AllReadyH.nil
      · refine stp_store hS 1 rfl _ _ _ rfl _ _ rfl _ rfl _ rfl _ siz_rmem (by exact rfl) (by exact rfl) (by exact rfl) rfl ?_
        clear hS hM
        intro _ hS
        dsimp only [blit, List.set] at hS
        refine hK.out _ _ ⟨hS.get 2 rfl, hS.get 3 rfl⟩ (fun hM => ?_)
        clear hK
        refine held_take (i := 4) rfl (by kernel_rfl) (by kernel_rfl) (by kernel_rfl) (fun _ _ _ h => h) (yif_moveB rfl _ (.inr rfl) _ rfl) hM (some 11) rfl _ (by simp only [Act.put, List.setIfInBounds_toArray, List.set_cons_zero, List.set_cons_succ]; first | done | exact rfl) ?_
        refine wpAnyH_done (by kernel_rfl) ?_ _
        clear hM
        try simp only [Act.put, List.setIfInBounds_toArray, List.set_cons_zero, List.set_cons_succ]
        go_wp2
        have hZ := hS.get 1 rfl
        refine bodyPost_ret (v := .tuple #[.agg #[.int .i64 c.t, .int .i64 c.s, .int .i64 c.k, .int .i64 c.g, .int .u64 c.q, .slice sv c.n cap, .int .i64 M.cnt, .int .i64 M.l.kind, .int .i64 M.l.a, .int .i64 M.l.b, .int .u64 (M.l.old : Nat), .int .u64 (M.l.new : Nat), .bool M.l.done], .bool M.l.done]) (by simp [results, Tryz.results51, go_sem, hZ.cell 0 _ rfl, hZ.cell 1 _ rfl, hZ.cell 2 _ rfl, hZ.cell 3 _ rfl, hZ.cell 4 _ rfl, hZ.cell 5 _ rfl, hZ.cell 6 _ rfl, hZ.cell 7 _ rfl, hZ.cell 8 _ rfl, hZ.cell 9 _ rfl, hZ.cell 10 _ rfl, hZ.cell 11 _ rfl, hZ.cell 12 _ rfl]) rfl ?_
        exact ⟨_, rfl, (h3.low.below hS.bel).is hS.bel.size, .inl rfl, hS.bel⟩
    · dsimp only [List.cons_append, List.nil_append, List.append_nil] at hS
      go_wp2_with fail
      refine wp_region_held (S := fun q => BlkAt q bA [.int .i64 c.t, .int .i64 c.s, .int .i64 c.k, .int .i64 c.g, .int .u64 c.q, .slice (some ⟨g', 0, none⟩) c.n cg, .int .i64 M.cnt, .int .i64 M.l.kind, .int .i64 M.l.a, .int .i64 M.l.b, .int .u64 (M.l.old : Nat), .int .u64 (M.l.new : Nat), .bool M.l.done] ∧ BlkAt q bT [.int .i64 M.l.kind, .int .i64 M.l.a, .int .i64 M.l.b, .int .u64 (M.l.old : Nat), .int .u64 (M.l.new : Nat), .bool M.l.done]) (by kernel_rfl) ?_
      show wpAnyH Tryz.prog .any _ _ _ 5 _ _ (World.drew w')
      replace hS := hS.drew
      have hM : BlkAt (World.drew w') bA [.int .i64 c.t, .int .i64 c.s, .int .i64 c.k, .int .i64 c.g, .int .u64 c.q, .slice (some ⟨g', 0, none⟩) c.n cg, .int .i64 M.cnt, .int .i64 M.l.kind, .int .i64 M.l.a, .int .i64 M.l.b, .int .u64 (M.l.old : Nat), .int .u64 (M.l.new : Nat), .bool M.l.done] ∧ BlkAt (World.drew w') bT [.int .i64 M.l.kind, .int .i64 M.l.a, .int .i64 M.l.b, .int .u64 (M.l.old : Nat), .int .u64 (M.l.new : Nat), .bool M.l.done] := ⟨hS.get 3 rfl, hS.get 4 rfl⟩
      refine held_take (i := 0) rfl (by kernel_rfl) (by kernel_rfl) (by kernel_rfl) (fun _ _ _ h => h) (yif_load rfl _ _ rfl _ _ rfl _ (fun _ h => h.1) _ row_rmem (by exact rfl) _ (by dsimp only [cutL, List.drop, List.take]; first | done | exact rfl)) hM (some 24) rfl _ (by simp only [Act.put, List.setIfInBounds_toArray, List.set_cons_zero, List.set_cons_succ]; first | done | exact rfl) ?_
      refine held_take (i := 1) rfl (by kernel_rfl) (by kernel_rfl) (by kernel_rfl) (fun _ _ _ h => h) (yif_by rfl _ (fun w => by go_simp; first | done | exact rfl)) hM (some 25) rfl _ (by simp only [Act.put, List.setIfInBounds_toArray, List.set_cons_zero, List.set_cons_succ]; first | done | exact rfl) ?_
      refine held_take (i := 2) rfl (by kernel_rfl) (by kernel_rfl) (by kernel_rfl) (fun _ _ _ h => h) (yif_load1 rfl _ _ rfl _ _ rfl _ (fun _ h => h.2) one_bool _ rfl) hM (some 26) rfl _ (by simp only [Act.put, List.setIfInBounds_toArray, List.set_cons_zero, List.set_cons_succ]; first | done | exact rfl) ?_
      refine wpAnyH_all (rs := [3]) (by kernel_rfl) (by simp) ?_
      refine AllReadyH.cons rfl (fun K hK => ?_) AllReadyH.nil
      · refine stp_store hS 1 rfl _ _ _ rfl _ _ rfl _ rfl _ rfl _ siz_rmem (by exact rfl) (by exact rfl) (by exact rfl) rfl ?_
        clear hS hM
        intro _ hS
        dsimp only [blit, List.set] at hS
        refine hK.out _ _ ⟨hS.get 3 rfl, hS.get 4 rfl⟩ (fun hM => ?_)
        clear hK
        refine held_take (i := 4) rfl (by kernel_rfl) (by kernel_rfl) (by kernel_rfl) (fun _ _ _ h => h) (yif_moveB rfl _ (.inr rfl) _ rfl) hM (some 11) rfl _ (by simp only [Act.put, List.setIfInBounds_toArray, List.set_cons_zero, List.set_cons_succ]; first | done | exact rfl) ?_
        refine wpAnyH_done (by kernel_rfl) ?_ _
        clear hM
        try simp only [Act.put, List.setIfInBounds_toArray, List.set_cons_zero, List.set_cons_succ]
        go_wp2
        have hZ := hS.get 1 rfl
        refine bodyPost_ret (v := .tuple #[.agg #[.int .i64 c.t, .int .i64 c.s, .int .i64 c.k, .int .i64 c.g, .int .u64 c.q, .slice (some ⟨g', 0, none⟩) c.n cg, .int .i64 M.cnt, .int .i64 M.l.kind, .int .i64 M.l.a, .int .i64 M.l.b, .int .u64 (M.l.old : Nat), .int .u64 (M.l.new : Nat), .bool M.l.done], .bool M.l.done]) (by simp [results, Tryz.results51, go_sem, hZ.cell 0 _ rfl, hZ.cell 1 _ rfl, hZ.cell 2 _ rfl, hZ.cell 3 _ rfl, hZ.cell 4 _ rfl, hZ.cell 5 _ rfl, hZ.cell 6 _ rfl, hZ.cell 7 _ rfl, hZ.cell 8 _ rfl, hZ.cell 9 _ rfl, hZ.cell 10 _ rfl, hZ.cell 11 _ rfl, hZ.cell 12 _ rfl]) rfl ?_
        exact ⟨_, rfl, .inr ⟨g', 0, cg, rfl, hn0, hc1, hc2, (hS.get 2 rfl).lt, fun j hj => ⟨by rw [Nat.zero_add]; exact (hS.get 2 rfl).cell j _ (rowW_get _ c.n j hj), (unhide HWD) j hj⟩⟩, .inr ⟨g', cg, rfl, hS.low (g', _) (List.mem_of_getElem? (i := 2) rfl), hc1, hc2, hS.get 2 rfl⟩, hS.bel⟩
end
section
set_option maxRecDepth 100000
open Go.RowKit Go.Sort
def WordsOk (c : Um.Cf) (m : Um.Mm) : Prop := ∀ q, q < c.n → Um.Word (m.ws q)
def Fr (w : World) (g g' : Nat) : Prop := g' = g ∨ w.heap.size ≤ g'
theorem Fr.refl (w : World) (g : Nat) : Fr w g g := .inl rfl
theorem Fr.trans {w u : World} {g g1 g2 : Nat} (h : Fr w g g1) (k : Fr u g1 g2) (hs : w.heap.size ≤ u.heap.size) : Fr w g g2 := by
  rcases k with rfl | k
  · exact h
  · exact .inr (Nat.le_trans hs k)
section
variable {bs : List Nat} {w0 w : World} {l e : List (Nat × List Value)} {B C g cg : Nat} {c : Um.Cf} {m : Um.Mm}
theorem Sx.mem (hS : Sx bs w0 w l e) (i j : Nat) (hi : l[i]? = some (B, memL c C m)) (hj : l[j]? = some (C, rowW m.ws c.n)) (hij : i ≠ j) (hr : c.r = true) (hw : WordsOk c m) : MemAt w B C c m :=
  memAt_of (hS.get i hi) (hS.get j hj) (hS.ne i j hi hj hij) hr hw
theorem Sx.memd {w' : World} {M : Um.Mm} (hS : Sx bs w0 w l e) (i j : Nat) (hi : l[i]? = some (B, memL c C m)) (hj : l[j]? = some (C, rowW m.ws c.n)) (hM : MemAt w' B C c M) (hO : Off B C w w') : Sx bs w0 w' (putL l [(i, B, memL c C M), (j, C, rowW M.ws c.n)]) e := by
  refine hS.sets _ (fun u hu => ?_) (Turn.of_off hO) (fun u hu => ?_)
  · rcases (by simpa using hu : u = (i, B, memL c C M) ∨ u = (j, C, rowW M.ws c.n)) with rfl | rfl
    · exact ⟨_, hi⟩
    · exact ⟨_, hj⟩
  · rcases (by simpa using hu : u = (i, B, memL c C M) ∨ u = (j, C, rowW M.ws c.n)) with rfl | rfl
    · exact hM.blkB
    · exact hM.blkC
theorem Sx.words (hS : Sx bs w0 w l e) (k : Nat) (hk : e[k]? = some (g, rowW m.ws c.n)) (hr : c.r = true) (hw : WordsOk c m) (h1 : c.n ≤ cg) (h2 : cg ≤ maxLen) : IsWords w (.slice (some ⟨g, 0, none⟩) c.n cg) c.n m.ws :=
  .inr ⟨g, 0, cg, rfl, by have := Um.Cf.n_pos hr; omega, h1, h2, (hS.getE k hk).lt, fun q hq => ⟨by rw [Nat.zero_add]; exact (hS.getE k hk).cell q _ (rowW_get _ c.n q hq), hw q hq⟩⟩
theorem blk_of_words {w' : World} {ws ws' : Nat → Nat} {n : Nat} (hB : BlkAt w' g (rowW ws n)) (hI : IsWords w' (.slice (some ⟨g, 0, none⟩) n cg) n ws') : BlkAt w' g (rowW ws' n) := by
  refine ⟨hB.lt, fun j v hv => ?_, hB.fz⟩
  have hj : j < n := by have := (List.getElem?_eq_some_iff.1 hv).1; rwa [rowW_len] at this
  rw [rowW_get ws' n j hj] at hv
  cases hv
  rcases hI with ⟨_, _, e, h0⟩ | ⟨b, off, cap, e, _, _, _, _, hc⟩
  · omega
  · simp only [Value.slice.injEq, Option.some.injEq, Addr.mk.injEq] at e
    obtain ⟨⟨rfl, rfl, _⟩, _, _⟩ := e
    have := (hc j hj).1
    rwa [Nat.zero_add] at this
theorem Sx.handed {w' : World} {v' : Value} {M : Um.Mm} (hS : Sx bs w0 w l e) (k : Nat) (hk : e[k]? = some (g, rowW m.ws c.n)) (h1 : c.n ≤ cg) (h2 : cg ≤ maxLen) (hI : IsWords w' v' c.n M.ws) (hF : v' = (.slice (some ⟨g, 0, none⟩) c.n cg) ∨ RFresh w w' v' c.n M.ws) (hb : Below w.heap.size w w') :
    ∃ g' cg', v' = (.slice (some ⟨g', 0, none⟩) c.n cg') ∧ c.n ≤ cg' ∧ cg' ≤ maxLen ∧ Fr w g g' ∧ Sx bs w0 w' l (e.set k (g', rowW M.ws c.n)) := by
  rcases hF with rfl | ⟨g', cg', rfl, lg, hc1, hc2, hG⟩
  · exact ⟨g, cg, rfl, h1, h2, .inl rfl, hS.ref hb k hk (.inl rfl) (blk_of_words ((hS.getE k hk).below hb) hI)⟩
  · exact ⟨g', cg', rfl, hc1, hc2, .inr lg, hS.ref hb k hk (.inr lg) hG⟩
theorem mLoad_x (hS : Sx bs w0 w l e) (i j : Nat) (hi : l[i]? = some (B, memL c C m)) (hj : l[j]? = some (C, rowW m.ws c.n)) (hij : i ≠ j) (hr : c.r = true) (hw : WordsOk c m) (a b : Int) (hb0 : -9223372036854775808 ≤ b) (hb1 : b ≤ 9223372036854775807) (M : Um.Mm) (hM : M = Um.mtouch c m 1 a b 0 0) :
    Calls Tryz.prog 35 #[.pointer (some ⟨B, 0, none⟩), (.agg #[.int .i64 a, .int .i64 b])] w fun r w' => r = .returned (.int .u64 (M.l.old : Nat)) ∧ WordsOk c M ∧ Sx bs w0 w' (putL l [(i, B, memL c C M), (j, C, rowW M.ws c.n)]) e := by
  refine (mLoad_any (hS.mem i j hi hj hij hr hw) a b hb0 hb1 M hM).mono ?_
  rintro r w' ⟨rfl, h1, h2⟩
  exact ⟨rfl, h1.wd, hS.memd i j hi hj h1 h2⟩
theorem rLoad_x (hS : Sx bs w0 w l e) (k : Nat) (hk : e[k]? = some (g, rowW m.ws c.n)) (hr : c.r = true) (hw : WordsOk c m) (h1 : c.n ≤ cg) (h2 : cg ≤ maxLen) (a b : Int) (M : Um.Mm) (hM : M = Um.mtouch c m 1 a b 0 0) :
    Calls Tryz.prog 48 #[(.agg #[.int .i64 c.t, .int .i64 c.s, .int .i64 c.k, .int .i64 c.g, .int .u64 c.q, (.slice (some ⟨g, 0, none⟩) c.n cg), .int .i64 m.cnt, .int .i64 m.l.kind, .int .i64 m.l.a, .int .i64 m.l.b, .int .u64 (m.l.old : Nat), .int .u64 (m.l.new : Nat), .bool m.l.done]), .int .i64 a, .int .i64 b] w fun r w' => ∃ g' cg', r = .returned (.tuple #[(.agg #[.int .i64 c.t, .int .i64 c.s, .int .i64 c.k, .int .i64 c.g, .int .u64 c.q, (.slice (some ⟨g', 0, none⟩) c.n cg'), .int .i64 M.cnt, .int .i64 M.l.kind, .int .i64 M.l.a, .int .i64 M.l.b, .int .u64 (M.l.old : Nat), .int .u64 (M.l.new : Nat), .bool M.l.done]), .int .u64 (M.l.old : Nat)]) ∧ c.n ≤ cg' ∧ cg' ≤ maxLen ∧ Fr w g g' ∧ WordsOk c M ∧ Sx bs w0 w' l (e.set k (g', rowW M.ws c.n)) := by
  refine (rLoad_any c (.slice (some ⟨g, 0, none⟩) c.n cg) m M a b w hr (hS.words k hk hr hw h1 h2) hM).mono ?_
  rintro r w' ⟨v', rfl, hI, hF, hb⟩
  obtain ⟨g', cg', rfl, q1, q2, q3, q4⟩ := hS.handed k hk h1 h2 hI hF hb
  exact ⟨g', cg', rfl, q1, q2, q3, by rw [hM]; exact Um.word_touch hw (by unfold Um.Word; omega), q4⟩
theorem mStore_x (hS : Sx bs w0 w l e) (i j : Nat) (hi : l[i]? = some (B, memL c C m)) (hj : l[j]? = some (C, rowW m.ws c.n)) (hij : i ≠ j) (hr : c.r = true) (hw : WordsOk c m) (a b : Int) (x : Nat) (hx : Um.Word x) (hb0 : -9223372036854775808 ≤ b) (hb1 : b ≤ 9223372036854775807) (M : Um.Mm) (hM : M = Um.mtouch c m 2 a b 0 x) :
    Calls Tryz.prog 33 #[.pointer (some ⟨B, 0, none⟩), (.agg #[.int .i64 a, .int .i64 b]), .int .u64 (x : Nat)] w fun r w' => r = .returned (.tuple #[]) ∧ WordsOk c M ∧ Sx bs w0 w' (putL l [(i, B, memL c C M), (j, C, rowW M.ws c.n)]) e := by
  refine (mStore_any (hS.mem i j hi hj hij hr hw) a b x hx hb0 hb1 M hM).mono ?_
  rintro r w' ⟨rfl, h1, h2⟩
  exact ⟨rfl, h1.wd, hS.memd i j hi hj h1 h2⟩
theorem rStore_x (hS : Sx bs w0 w l e) (k : Nat) (hk : e[k]? = some (g, rowW m.ws c.n)) (hr : c.r = true) (hw : WordsOk c m) (h1 : c.n ≤ cg) (h2 : cg ≤ maxLen) (a b : Int) (x : Nat) (hx : Um.Word x) (M : Um.Mm) (hM : M = Um.mtouch c m 2 a b 0 x) :
    Calls Tryz.prog 46 #[(.agg #[.int .i64 c.t, .int .i64 c.s, .int .i64 c.k, .int .i64 c.g, .int .u64 c.q, (.slice (some ⟨g, 0, none⟩) c.n cg), .int .i64 m.cnt, .int .i64 m.l.kind, .int .i64 m.l.a, .int .i64 m.l.b, .int .u64 (m.l.old : Nat), .int .u64 (m.l.new : Nat), .bool m.l.done]), .int .i64 a, .int .i64 b, .int .u64 (x : Nat)] w fun r w' => ∃ g' cg', r = .returned ((.agg #[.int .i64 c.t, .int .i64 c.s, .int .i64 c.k, .int .i64 c.g, .int .u64 c.q, (.slice (some ⟨g', 0, none⟩) c.n cg'), .int .i64 M.cnt, .int .i64 M.l.kind, .int .i64 M.l.a, .int .i64 M.l.b, .int .u64 (M.l.old : Nat), .int .u64 (M.l.new : Nat), .bool M.l.done])) ∧ c.n ≤ cg' ∧ cg' ≤ maxLen ∧ Fr w g g' ∧ WordsOk c M ∧ Sx bs w0 w' l (e.set k (g', rowW M.ws c.n)) := by
  refine (rStore_any c (.slice (some ⟨g, 0, none⟩) c.n cg) m M a b x w hr (hS.words k hk hr hw h1 h2) hx hM).mono ?_
  rintro r w' ⟨v', rfl, hI, hF, hb⟩
  obtain ⟨g', cg', rfl, q1, q2, q3, q4⟩ := hS.handed k hk h1 h2 hI hF hb
  exact ⟨g', cg', rfl, q1, q2, q3, by rw [hM]; exact Um.word_touch hw hx, q4⟩
theorem mSwap_x (hS : Sx bs w0 w l e) (i j : Nat) (hi : l[i]? = some (B, memL c C m)) (hj : l[j]? = some (C, rowW m.ws c.n)) (hij : i ≠ j) (hr : c.r = true) (hw : WordsOk c m) (a b : Int) (o x : Nat) (hx : Um.Word x) (hb0 : -9223372036854775808 ≤ b) (hb1 : b ≤ 9223372036854775807) (M : Um.Mm) (hM : M = Um.mtouch c m 3 a b o x) :
    Calls Tryz.prog 132 #[.pointer (some ⟨B, 0, none⟩), (.agg #[.int .i64 a, .int .i64 b]), .int .u64 (o : Nat), .int .u64 (x : Nat)] w fun r w' => r = .returned (.bool M.l.done) ∧ WordsOk c M ∧ Sx bs w0 w' (putL l [(i, B, memL c C M), (j, C, rowW M.ws c.n)]) e := by
  refine (mSwap_any (hS.mem i j hi hj hij hr hw) a b o x hx hb0 hb1 M hM).mono ?_
  rintro r w' ⟨rfl, h1, h2⟩
  exact ⟨rfl, h1.wd, hS.memd i j hi hj h1 h2⟩
theorem rSwap_x (hS : Sx bs w0 w l e) (k : Nat) (hk : e[k]? = some (g, rowW m.ws c.n)) (hr : c.r = true) (hw : WordsOk c m) (h1 : c.n ≤ cg) (h2 : cg ≤ maxLen) (a b : Int) (o x : Nat) (hx : Um.Word x) (M : Um.Mm) (hM : M = Um.mtouch c m 3 a b o x) :
    Calls Tryz.prog 51 #[(.agg #[.int .i64 c.t, .int .i64 c.s, .int .i64 c.k, .int .i64 c.g, .int .u64 c.q, (.slice (some ⟨g, 0, none⟩) c.n cg), .int .i64 m.cnt, .int .i64 m.l.kind, .int .i64 m.l.a, .int .i64 m.l.b, .int .u64 (m.l.old : Nat), .int .u64 (m.l.new : Nat), .bool m.l.done]), .int .i64 a, .int .i64 b, .int .u64 (o : Nat), .int .u64 (x : Nat)] w fun r w' => ∃ g' cg', r = .returned (.tuple #[(.agg #[.int .i64 c.t, .int .i64 c.s, .int .i64 c.k, .int .i64 c.g, .int .u64 c.q, (.slice (some ⟨g', 0, none⟩) c.n cg'), .int .i64 M.cnt, .int .i64 M.l.kind, .int .i64 M.l.a, .int .i64 M.l.b, .int .u64 (M.l.old : Nat), .int .u64 (M.l.new : Nat), .bool M.l.done]), .bool M.l.done]) ∧ c.n ≤ cg' ∧ cg' ≤ maxLen ∧ Fr w g g' ∧ WordsOk c M ∧ Sx bs w0 w' l (e.set k (g', rowW M.ws c.n)) := by
  refine (rSwap_any c (.slice (some ⟨g, 0, none⟩) c.n cg) m M a b o x w hr (hS.words k hk hr hw h1 h2) hx hM).mono ?_
  rintro r w' ⟨v', rfl, hI, hF, hb⟩
  obtain ⟨g', cg', rfl, q1, q2, q3, q4⟩ := hS.handed k hk h1 h2 hI hF hb
  exact ⟨g', cg', rfl, q1, q2, q3, by rw [hM]; exact Um.word_touch hw hx, q4⟩
theorem lAlike_x (hS : Sx bs w0 w l e) (i j : Nat) (hi : l[i]? = some (B, memL c C m)) (hj : l[j]? = some (C, rowW m.ws c.n)) (hij : i ≠ j) (k : Nat) (hk : e[k]? = some (g, rowW m.ws c.n)) (hr : c.r = true) (hw : WordsOk c m) (h1 : c.n ≤ cg) (h2 : cg ≤ maxLen) :
    Calls Tryz.prog 19 #[.pointer (some ⟨B, 0, none⟩), (.agg #[.int .i64 c.t, .int .i64 c.s, .int .i64 c.k, .int .i64 c.g, .int .u64 c.q, (.slice (some ⟨g, 0, none⟩) c.n cg), .int .i64 m.cnt, .int .i64 m.l.kind, .int .i64 m.l.a, .int .i64 m.l.b, .int .u64 (m.l.old : Nat), .int .u64 (m.l.new : Nat), .bool m.l.done])] w fun r w' => r = .returned (.bool true) ∧ Below w.heap.size w w' :=
  lAlike_true (hS.mem i j hi hj hij hr hw) (.slice (some ⟨g, 0, none⟩) c.n cg) (hS.words k hk hr hw h1 h2)
theorem lOf_x (hS : Sx bs w0 w l e) (c : Um.Cf) (v : Value) (ws : Nat → Nat) (hr : c.r = true) (hv : IsWords w v c.n ws) :
    Calls Tryz.prog 10 #[(.agg #[.int .i64 (c.t), .int .i64 (c.s), .int .i64 (c.k), .int .i64 (c.g), .int .u64 (c.q : Int)]), v] w fun r w' => ∃ B C g cg, r = .returned (.tuple #[.pointer (some ⟨B, 0, none⟩), (.agg #[.int .i64 (c.t), .int .i64 (c.s), .int .i64 (c.k), .int .i64 (c.g), .int .u64 (c.q : Int), .slice (some ⟨g, 0, none⟩) c.n cg, .int .i64 0, .int .i64 0, .int .i64 0, .int .i64 0, .int .u64 0, .int .u64 0, .bool false]), .bool true]) ∧
      c.n ≤ cg ∧ cg ≤ maxLen ∧ WordsOk c ⟨ws, 0, Um.noT⟩ ∧ Sx bs w0 w' (l ++ [(B, memL c C ⟨ws, 0, Um.noT⟩), (C, rowW ws c.n)]) (e ++ [(g, rowW ws c.n)]) := by
  refine (lOf_own c v ws w hr hv).mono ?_
  rintro r w' ⟨B, C, g, cg, rfl, h1, h2, h3, h4, hM, h5, h6, hG, hb⟩
  refine ⟨B, C, g, cg, rfl, h5, h6, hM.wd, Sx.shelve ?_⟩
  rw [List.append_assoc]
  refine hS.adds hb _ (fun p hp => ?_) (fun p hp => ?_) ?_
  · rcases (by simpa using hp : p = (B, memL c C ⟨ws, 0, Um.noT⟩) ∨ p = (C, rowW ws c.n) ∨ p = (g, rowW ws c.n)) with rfl | rfl | rfl
    · exact hM.blkB
    · exact hM.blkC
    · exact hG
  · rcases (by simpa using hp : p = (B, memL c C ⟨ws, 0, Um.noT⟩) ∨ p = (C, rowW ws c.n) ∨ p = (g, rowW ws c.n)) with rfl | rfl | rfl
    · exact h1
    · exact h2
    · show w.heap.size ≤ g
      omega
  · have := hM.ne
    simp only [List.cons_append, List.nil_append, List.pairwise_cons, List.mem_cons, List.not_mem_nil, or_false, List.Pairwise.nil, and_true]
    refine ⟨?_, ?_, ?_⟩
    · rintro p (rfl | rfl)
      · exact this
      · show B ≠ g
        omega
    · rintro p rfl
      show C ≠ g
      omega
    · simp
end
end
section
set_option maxRecDepth 100000
open Go.ChangeShapes Go.WideShapes Go.ChangeAt Go.RowKit
theorem cellsPlay12 : Tryz.prog.cellsOf 28 = 4 := by kernel_rfl
theorem ar4d {α : Type} {cs : Array α} (h : cs.size = 4) : ∃ c0 c1 c2 c3, cs = #[c0, c1, c2, c3] := by
  obtain ⟨l⟩ := cs
  match l, h with
  | [c0, c1, c2, c3], _ => exact ⟨c0, c1, c2, c3, rfl⟩
theorem ls4d {α : Type} {cs : List α} (h : cs.length = 4) : ∃ c0 c1 c2 c3, cs = [c0, c1, c2, c3] := by
  match cs, h with
  | [c0, c1, c2, c3], _ => exact ⟨c0, c1, c2, c3, rfl⟩
theorem open_play12 {H : Type} {enc : TypeId × Value → H} {W : World} {base : Nat} {v : Value} {d : DataW H} {p : List MemPlace}
    (hv : Value.okWide Tryz.prog W .any base 28 v) (h : DataW.Trod enc Tryz.prog W 0 (fun _ => true) true 28 v d p) :
    ∃ (x : Nat) (ky st : Int) (la : Option Addr) (nl cl : Nat) (Z : Nat → Pok), v = .agg #[.int .u64 (x : Nat), .int .i64 ky, .int .i64 st, .slice la nl cl] ∧ Um.Word x ∧ (-9223372036854775808 ≤ ky ∧ ky ≤ 9223372036854775807) ∧ nl ≤ cl ∧ PokesAt W la nl Z := by
  obtain ⟨cs, rfl, hsz⟩ := okWide_struct Tryz.underlying28 hv
  obtain ⟨c0, c1, c2, c3, rfl⟩ := ar4d (hsz.trans cellsPlay12)
  obtain ⟨fuel, hf⟩ := h
  obtain ⟨xs, n, _, _, hl, hlen, hx⟩ := DataW.trod_struct Tryz.underlying28 hf
  obtain ⟨y0, y1, y2, y3, rfl⟩ := ls4d hlen
  obtain ⟨r, e0, _, k0⟩ := DataW.trod_int Tryz.underlying22 (hx 0 _ rfl)
  obtain ⟨ky, e1, _, k1⟩ := DataW.trod_int Tryz.underlying3 (hx 1 _ rfl)
  obtain ⟨st, e2, _, _⟩ := DataW.trod_int Tryz.underlying3 (hx 2 _ rfl)
  obtain ⟨la, nl, cl, Z, e3, hnc, hZ⟩ := open_pokes (hx 3 _ rfl)
  obtain ⟨r', rfl, w1⟩ := word_of k0
  simp [Value.cells, cellsWI, cellsWU, cellsPokes] at e0 e1 e2 e3
  subst e0 e1 e2 e3
  exact ⟨r', ky, st, la, nl, cl, Z, rfl, w1, int_of k1, hnc, hZ⟩
end
section
set_option maxRecDepth 100000
open Go.RowKit Go.Sort
section
variable {bs : List Nat} {w0 w w' : World} {l e : List (Nat × List Value)} {b1 b2 b3 : Nat} {c1 c2 c3 d1 d2 d3 : List Value}
theorem Sx.enter3 (hS : Sx bs w0 w l e) (i j k : Nat) (hi : l[i]? = some (b1, c1)) (hj : l[j]? = some (b2, c2)) (hk : l[k]? = some (b3, c3)) (hij : i ≠ j) (hik : i ≠ k) (hjk : j ≠ k) : Sx [b1, b2, b3] w w [(b1, c1), (b2, c2), (b3, c3)] [] :=
  hS.enter [(b1, c1), (b2, c2), (b3, c3)] [] (fun p hp => by
      rcases (by simpa using hp : p = (b1, c1) ∨ p = (b2, c2) ∨ p = (b3, c3)) with rfl | rfl | rfl
      · exact List.mem_of_getElem? hi
      · exact List.mem_of_getElem? hj
      · exact List.mem_of_getElem? hk)
    (by
      have h1 := hS.ne i j hi hj hij
      have h2 := hS.ne i k hi hk hik
      have h3 := hS.ne j k hj hk hjk
      simp [h1, h2, h3]) (by simp)
theorem Sx.back3 {r e' : List (Nat × List Value)} (hS : Sx bs w0 w l e) (i j k : Nat) (hi : l[i]? = some (b1, c1)) (hj : l[j]? = some (b2, c2)) (hk : l[k]? = some (b3, c3)) (hL : Sx [b1, b2, b3] w w' ((b1, d1) :: (b2, d2) :: (b3, d3) :: r) e') : Sx bs w0 w' (putL l [(i, b1, d1), (j, b2, d2), (k, b3, d3)]) e := by
  refine hS.sets _ (fun u hu => ?_) hL.off (fun u hu => ?_)
  · rcases (by simpa using hu : u = (i, b1, d1) ∨ u = (j, b2, d2) ∨ u = (k, b3, d3)) with rfl | rfl | rfl
    · exact ⟨_, hi⟩
    · exact ⟨_, hj⟩
    · exact ⟨_, hk⟩
  · rcases (by simpa using hu : u = (i, b1, d1) ∨ u = (j, b2, d2) ∨ u = (k, b3, d3)) with rfl | rfl | rfl
    · exact hL.get 0 rfl
    · exact hL.get 1 rfl
    · exact hL.get 2 rfl
theorem Sx.enter1 (hS : Sx bs w0 w l e) (i : Nat) (hi : l[i]? = some (b1, c1)) : Sx [b1] w w [(b1, c1)] [] :=
  hS.enter [(b1, c1)] [] (fun p hp => by obtain rfl : p = _ := by simpa using hp
                                         exact List.mem_of_getElem? hi) (List.pairwise_singleton _ _) (by simp)
theorem Sx.back1 {r e' : List (Nat × List Value)} (hS : Sx bs w0 w l e) (i : Nat) (hi : l[i]? = some (b1, c1)) (hL : Sx [b1] w w' ((b1, d1) :: r) e') : Sx bs w0 w' (putL l [(i, b1, d1)]) e := by
  refine hS.sets _ (fun u hu => ?_) hL.off (fun u hu => ?_)
  · obtain rfl : u = _ := by simpa using hu
    exact ⟨_, hi⟩
  · obtain rfl : u = _ := by simpa using hu
    exact hL.get 0 rfl
end
end
section
set_option maxRecDepth 100000
open Go.RowKit
theorem wp_region_ogt {P : Program} {ops : Array Oper} {Q : Exit → Act → World → Prop} {id : Nat} {ts : List Value} {w : World} (J : List Value → (Nat → Bool) → List Value → World → Prop) (hm : P.follows .mixedOrders = true)
    (hac : acycB .any ops = true)
    (h0 : J ts (fun _ => false) ts w.drew)
    (hst : ∀ (i : Nat) (o : Oper), ops[i]? = some o → ∀ D ts' w, D i = false → (∀ e ∈ o.after, Region.binds .any e = true → D e.on = true) → J ts D ts' w → wpOp P ops Q i (fun a' w' => ∃ ts'', a' = ⟨List.toArray ts'', []⟩ ∧ J ts (fun j => j == i || D j) ts'' w') ⟨List.toArray ts', []⟩ w)
    (hen : ∀ D ts' w, (∀ i, i < ops.size → D i = true) → J ts D ts' w → Q .normal ⟨List.toArray ts', []⟩ w) : (Code.region id ops true).wp P Q ⟨List.toArray ts, []⟩ w := by
  refine wp_region_og (fun D a' w' => ∃ ts', a' = ⟨List.toArray ts', []⟩ ∧ J ts D ts' w') hm (fun i o hi e he hb => og_acyc hac hi he hb) ⟨ts, rfl, h0⟩ ?_ ?_
  · rintro i o hi D a w hD hp ⟨ts', rfl, hJ⟩
    exact hst i o hi D ts' w hD hp hJ
  · rintro D a w hall ⟨ts', rfl, hJ⟩
    exact hen D ts' w hall hJ
theorem list4_eq {a a' b b' c c' d d' : Value} (h1 : a = a') (h2 : b = b') (h3 : c = c') (h4 : d = d') : [a, b, c, d] = [a', b', c', d'] := by rw [h1, h2, h3, h4]
theorem list3_eq {a a' b b' c c' : Value} (h1 : a = a') (h2 : b = b') (h3 : c = c') : [a, b, c] = [a', b', c'] := by rw [h1, h2, h3]
theorem nameB {bs : List Nat} {w0 w : World} {l e : List (Nat × List Value)} (_ : Sx bs w0 w l e) (k : Nat) {b : Nat} {cs : List Value} (_ : l[k]? = some (b, cs)) : ∃ b', b' = b := ⟨b, rfl⟩
theorem nameW {bs : List Nat} {w0 w : World} {l e : List (Nat × List Value)} (_ : Sx bs w0 w l e) : ∃ u, u = w := ⟨w, rfl⟩
def putS (ts : List Value) : List (Nat × Value) → List Value
  | [] => ts
  | u :: r => putS (ts.set u.1 u.2) r
end
section
set_option maxRecDepth 100000
open Go.RowKit Go.Sort
def poked (c : Um.Cf) (Z : Nat → Pok) (k : Nat) (m : Um.Mm) : Nat → Um.Mm
  | 0 => m
  | j + 1 => if (Z j).st = (k : Int) then Um.mtouch c (poked c Z k m j) 2 (Z j).k (Z j).a 0 (Z j).v else poked c Z k m j
theorem Turn.cell {bs : List Nat} {w w' : World} (h : Turn bs w w') {p : Addr} (h0 : p.block < w.heap.size) (h1 : p.block ∉ bs) : w'.cell? p = w.cell? p := World.cell?_of_block (w := w) (h.block p.block h0 h1)
theorem PokesAt.turn {bs : List Nat} {w w' : World} {la : Option Addr} {nl : Nat} {Z : Nat → Pok} (h : PokesAt w la nl Z) (t : Turn bs w w') (hn : nl ≠ 0 → ∀ lb off, la = some ⟨lb, off, none⟩ → lb ∉ bs) : PokesAt w' la nl Z := by
  by_cases hn0 : nl = 0
  · exact .inl hn0
  rcases h with h0 | ⟨lb, off, rfl, hlb, hZ⟩
  · exact .inl h0
  · refine .inr ⟨lb, off, rfl, Nat.lt_of_lt_of_le hlb t.size, fun i hi => ?_⟩
    obtain ⟨⟨a1, a2, a3, a4⟩, h5⟩ := hZ i hi
    have e : ∀ o, w'.cell? ⟨lb, o, none⟩ = w.cell? ⟨lb, o, none⟩ := fun o => t.cell hlb (hn hn0 lb off rfl)
    exact ⟨⟨(e _).trans a1, (e _).trans a2, (e _).trans a3, (e _).trans a4⟩, h5⟩
theorem PokesAt.apart {w wr : World} {l e : List (Nat × List Value)} {la : Option Addr} {nl : Nat} {Z : Nat → Pok} (h : PokesAt w la nl Z) (hS : Sx [] w wr l e) (i j : Nat) {B C : Nat} {c1 c2 : List Value} (hi : l[i]? = some (B, c1)) (hj : l[j]? = some (C, c2)) : nl ≠ 0 → ∀ lb off, la = some ⟨lb, off, none⟩ → lb ∉ [B, C] := by
  intro hn lb off hla hm
  rcases h with h0 | ⟨lb', off', e, hlb, _⟩
  · exact hn h0
  · rw [hla] at e
    simp only [Option.some.injEq, Addr.mk.injEq] at e
    obtain ⟨rfl, _⟩ := e
    have h1 := (hS.low _ (List.mem_of_getElem? hi)).resolve_left (by simp)
    have h2 := (hS.low _ (List.mem_of_getElem? hj)).resolve_left (by simp)
    rcases (by simpa using hm : lb = B ∨ lb = C) with rfl | rfl
    · exact Nat.lt_irrefl _ (Nat.lt_of_lt_of_le hlb h1)
    · exact Nat.lt_irrefl _ (Nat.lt_of_lt_of_le hlb h2)
section
variable {bs : List Nat} {w0 w : World} {l e : List (Nat × List Value)} {B C g cg : Nat} {c : Um.Cf} {m : Um.Mm}
set_option maxHeartbeats 8000000 in
theorem poked_x (hS : Sx bs w0 w l e) (i1 i2 i3 : Nat) (hi : l[i1]? = some (B, memL c C m)) (hj : l[i2]? = some (C, rowW m.ws c.n)) (hij : i1 ≠ i2) (hk : e[i3]? = some (g, rowW m.ws c.n)) (hr : c.r = true) (hw : WordsOk c m) (h1 : c.n ≤ cg) (h2 : cg ≤ maxLen)
    (la : Option Addr) (nl cl : Nat) (Z : Nat → Pok) (hnl : nl ≤ 30) (hcl : nl ≤ cl) (hP : PokesAt w la nl Z) (hB : nl ≠ 0 → ∀ lb off, la = some ⟨lb, off, none⟩ → lb ∉ [B, C]) (k : Nat) (M : Um.Mm) (hM : M = poked c Z k m nl) :
    Calls Tryz.prog 16 #[.pointer (some ⟨B, 0, none⟩), (.agg #[.int .i64 c.t, .int .i64 c.s, .int .i64 c.k, .int .i64 c.g, .int .u64 c.q, (.slice (some ⟨g, 0, none⟩) c.n cg), .int .i64 m.cnt, .int .i64 m.l.kind, .int .i64 m.l.a, .int .i64 m.l.b, .int .u64 (m.l.old : Nat), .int .u64 (m.l.new : Nat), .bool m.l.done]), .slice la nl cl, .int .i64 k] w fun r w' => ∃ g' cg', r = .returned ((.agg #[.int .i64 c.t, .int .i64 c.s, .int .i64 c.k, .int .i64 c.g, .int .u64 c.q, (.slice (some ⟨g', 0, none⟩) c.n cg'), .int .i64 M.cnt, .int .i64 M.l.kind, .int .i64 M.l.a, .int .i64 M.l.b, .int .u64 (M.l.old : Nat), .int .u64 (M.l.new : Nat), .bool M.l.done])) ∧ c.n ≤ cg' ∧ cg' ≤ maxLen ∧ WordsOk c M ∧ Sx bs w0 w' (putL l [(i1, B, memL c C M), (i2, C, rowW M.ws c.n)]) (e.set i3 (g', rowW M.ws c.n)) := by
  have HS := hide hS
  have HI := hide (And.intro hi (And.intro hj hk))
  have hL := hS.enter [(B, memL c C m), (C, rowW m.ws c.n)] [(g, rowW m.ws c.n)] (fun p hp => by
      rcases (by simpa using hp : p = (B, memL c C m) ∨ p = (C, rowW m.ws c.n)) with rfl | rfl
      · exact List.mem_of_getElem? hi
      · exact List.mem_of_getElem? hj) (by have := hS.ne i1 i2 hi hj hij; simp [this]) (fun p hp => by
      obtain rfl : p = _ := by simpa using hp
      exact List.mem_of_getElem? hk)
  have HR := hide hr
  have HW0 := hide hw
  have HM := hide hM
  have HP := hide hP
  have HB := hide hB
  clear hS hi hj hij hk hr hw hM hP hB
  have hS : Sx [B, C] w w [(B, memL c C m), (C, rowW m.ws c.n)] [(g, rowW m.ws c.n)] := hL
  clear hL
  go_enter Tryz.func16, Tryz.ntmps16
  go_wp2_with (first | (refine ybox hS (h := ?_); clear hS; intro _ _ hS) | (refine yall hS (h := ?_); clear hS; intro _ _ hS) | refine yld hS (h := ?_) | (refine yst hS (h := ?_); clear hS; intro _ hS))
  obtain ⟨RB, rfl⟩ := nameB hS 2 rfl
  obtain ⟨RR, rfl⟩ := nameB hS 3 rfl
  go_loopw [13] (fun i wr => ∃ (j : Nat) (gj cgj : Nat), j ≤ nl ∧ i = .int .i64 j ∧ c.n ≤ cgj ∧ cgj ≤ maxLen ∧ Hid (Fr w g gj) ∧ Hid (WordsOk c (poked c Z k m j)) ∧ Hid (Sx [B, C] w wr [(B, memL c C (poked c Z k m j)), (C, rowW (poked c Z k m j).ws c.n), (RB, [.int .i64 c.t, .int .i64 c.s, .int .i64 c.k, .int .i64 c.g, .int .u64 c.q, (.slice (some ⟨gj, 0, none⟩) c.n cgj), .int .i64 (poked c Z k m j).cnt, .int .i64 (poked c Z k m j).l.kind, .int .i64 (poked c Z k m j).l.a, .int .i64 (poked c Z k m j).l.b, .int .u64 ((poked c Z k m j).l.old : Nat), .int .u64 ((poked c Z k m j).l.new : Nat), .bool (poked c Z k m j).l.done]), (RR, [.int .i64 0, .int .i64 0, .int .i64 0, .int .i64 0, .int .u64 0, .slice none 0 0, .int .i64 0, .int .i64 0, .int .i64 0, .int .i64 0, .int .u64 0, .int .u64 0, .bool false])] [(gj, rowW (poked c Z k m j).ws c.n)])) (fun i _ => nl - (intOf i).toNat)
  case atStart => exact ⟨0, g, cg, Nat.zero_le _, rfl, h1, h2, hide (Fr.refl w g), HW0, hS⟩
  case round =>
    clear hS HW0 h1 h2
    rename_i wr
    obtain ⟨j, gj, cgj, hj, rfl, h1, h2, HF, HW, HS3⟩ := hrel
    have hS := unhide HS3
    clear HS3
    by_cases hlt : j < nl
    · have hlti : (j : Int) < (nl : Int) := by omega
      have hP2 := (unhide HP).turn hS.off (unhide HB)
      rcases hP2 with h0 | ⟨lb, off, rfl, hlb, hZ⟩
      · omega
      obtain ⟨⟨z0, z1, z2, z3⟩, ⟨hb0, hb1⟩, hx⟩ := hZ j hlt
      clear hZ HP HB
      have HBD := hide (And.intro hb0 hb1)
      have HX := hide hx
      rw [← Nat.add_assoc] at z1 z2 z3
      clear hb0 hb1 hx
      by_cases e1 : (Z j).st = (k : Int)
      · have HE : Hid (poked c Z k m (j + 1) = Um.mtouch c (poked c Z k m j) 2 (Z j).k (Z j).a 0 (Z j).v) := hide (by show (if (Z j).st = (k : Int) then _ else _) = _; rw [if_pos e1])
        rw [e1] at z0
        clear e1
        generalize (Z j).k = kd at *
        generalize (Z j).a = a at *
        generalize (Z j).v = x at *
        go_wp2_with (first | (refine ybox hS (h := ?_); clear hS; intro _ _ hS) | (refine yall hS (h := ?_); clear hS; intro _ _ hS) | refine yld hS (h := ?_) | (refine yst hS (h := ?_); clear hS; intro _ hS))
        refine (mStore_x hS 0 1 rfl rfl (by decide) (unhide HR) (unhide HW) kd a x (unhide HX) (unhide HBD).1 (unhide HBD).2 (poked c Z k m (j + 1)) (unhide HE)).mono ?_
        rintro r u ⟨rfl, hWn, hSn⟩
        clear hS
        have hS := hSn
        clear hSn
        dsimp only [putL, List.set, List.cons_append, List.nil_append] at hS
        have HW5 := hide hWn
        clear hWn
        clear z0 z1 z2 z3
        have hSz := hS.size
        go_wp2_with (first | (refine ybox hS (h := ?_); clear hS; intro _ _ hS) | (refine yall hS (h := ?_); clear hS; intro _ _ hS) | refine yld hS (h := ?_) | (refine yst hS (h := ?_); clear hS; intro _ hS))
        have hSz2 := hS.size
        refine (rStore_x hS 0 rfl (unhide HR) (unhide HW) h1 h2 kd a x (unhide HX) (poked c Z k m (j + 1)) (unhide HE)).mono ?_
        rintro r u ⟨gn, cgn, rfl, q1, q2, hFr, hWn, hSn⟩
        clear hS
        have hS := hSn
        clear hSn
        dsimp only [putL, List.set, List.cons_append, List.nil_append] at hS
        have HW6 := hide hWn
        clear hWn
        go_wp2_with (refine yst hS (h := ?_); clear hS; intro _ hS)
        replace hS := hS.take 4
        dsimp only [List.take] at hS
        have HF6 := hide ((unhide HF).trans hFr hSz2)
        have HS6 := hide hS
        clear hS
        go_wp2
        exact ⟨⟨j + 1, gn, cgn, by omega, by go_num, q1, q2, HF6, HW6, HS6⟩, by simp [intOf]; omega⟩
      · have HE : poked c Z k m (j + 1) = poked c Z k m j := by show (if (Z j).st = (k : Int) then _ else _) = _; rw [if_neg e1]
        rw [← HE] at hS HW
        clear HE
        generalize (Z j).st = sj at *
        have e2 : (sj == (k : Int)) = false := by simpa using e1
        clear e1
        generalize (Z j).k = kd at *
        generalize (Z j).a = a at *
        generalize (Z j).v = x at *
        go_wp2_with (first | (refine ybox hS (h := ?_); clear hS; intro _ _ hS) | (refine yall hS (h := ?_); clear hS; intro _ _ hS) | refine yld hS (h := ?_) | (refine yst hS (h := ?_); clear hS; intro _ hS))
        replace hS := hS.take 4
        dsimp only [List.take] at hS
        have HF6 := hide (unhide HF)
        have HS6 := hide hS
        clear hS
        go_wp2
        exact ⟨⟨j + 1, gj, cgj, by omega, by go_num, h1, h2, HF6, HW, HS6⟩, by simp [intOf]; omega⟩
    · obtain rfl : j = nl := by omega
      have HWe := HW
      rw [← unhide HM] at hS HWe
      go_wp2_with (first | (refine ybox hS (h := ?_); clear hS; intro _ _ hS) | (refine yall hS (h := ?_); clear hS; intro _ _ hS) | refine yld hS (h := ?_) | (refine yst hS (h := ?_); clear hS; intro _ hS))
      have hY := hS.get 3 rfl
      refine bodyPost_ret (v := (.agg #[.int .i64 c.t, .int .i64 c.s, .int .i64 c.k, .int .i64 c.g, .int .u64 c.q, (.slice (some ⟨gj, 0, none⟩) c.n cgj), .int .i64 M.cnt, .int .i64 M.l.kind, .int .i64 M.l.a, .int .i64 M.l.b, .int .u64 (M.l.old : Nat), .int .u64 (M.l.new : Nat), .bool M.l.done])) (by simp [results, Tryz.results16, go_sem, hY.cell 0 _ rfl, hY.cell 1 _ rfl, hY.cell 2 _ rfl, hY.cell 3 _ rfl, hY.cell 4 _ rfl, hY.cell 5 _ rfl, hY.cell 6 _ rfl, hY.cell 7 _ rfl, hY.cell 8 _ rfl, hY.cell 9 _ rfl, hY.cell 10 _ rfl, hY.cell 11 _ rfl, hY.cell 12 _ rfl]) rfl ?_
      refine ⟨gj, cgj, rfl, h1, h2, unhide HWe, (unhide HS).mix [(i1, B, memL c C M), (i2, C, rowW M.ws c.n)] (fun u hu => ?_) hS.off (fun u hu => ?_) i3 (unhide HI).2.2 (unhide HF) (hS.getE 0 rfl)⟩
      · rcases (by simpa using hu : u = (i1, B, memL c C M) ∨ u = (i2, C, rowW M.ws c.n)) with rfl | rfl
        · exact ⟨_, (unhide HI).1⟩
        · exact ⟨_, (unhide HI).2.1⟩
      · rcases (by simpa using hu : u = (i1, B, memL c C M) ∨ u = (i2, C, rowW M.ws c.n)) with rfl | rfl
        · exact hS.get 0 rfl
        · exact hS.get 1 rfl
end
end
end Go.Proofs.YtapgghciieloaaaGreat
namespace Um
set_option maxRecDepth 100000
structure Gs where
  m : Mm
  oth : Int
  later : Bool
structure Ps where
  m : Mm
  ep : Nat
  st : Nat
theorem old_word {c : Cf} {m : Mm} {kind a b : Int} {old v : Nat} (h : ∀ i, i < c.n → Word (m.ws i)) : Word (mtouch c m kind a b old v).l.old := by
  unfold mtouch
  split
  · rename_i hp
    exact h _ (Cf.cl_lt hp)
  · show Word 0
    unfold Word
    omega
end Um
namespace Um
set_option maxRecDepth 100000
def seqN (x : Nat) : Nat := x / 16
def penN (x : Nat) : Int := (x % 16 : Nat) - 1
def setlN (x : Nat) : Nat := x - x % 16
def past (n s : Nat) : Bool := decide (0 < n ∧ n ≤ s)
end Um
namespace Um
set_option maxRecDepth 100000
def stN (x : Nat) : Nat := part x 27 3
def comN (x : Nat) : Nat := moveN x 4 (x.testBit 26)
structure Hs where
  m : Mm
  nx : Nat
  s : Nat
end Um
namespace Go.Proofs.YtapgghciieloaaaGreat
section
set_option maxRecDepth 100000
open Go.RowKit Go.Sort
set_option maxHeartbeats 400000 in
theorem tPast_any (n s : Nat) (w : World) :
    Calls Tryz.prog 166 #[.int .u64 n, .int .u64 s] w fun e w' => e = .returned (.bool (Um.past n s)) ∧ w' = w := by
  by_cases h0 : n = 0
  · subst h0
    rw [show Um.past 0 s = false by unfold Um.past; simp]
    go_enter Tryz.func166, Tryz.ntmps166
    go_wp2
    all_goals go_ret
    all_goals exact ⟨rfl, rfl⟩
  · have h1 : ((n : Int) != 0) = true := by simp; omega
    go_enter Tryz.func166, Tryz.ntmps166
    go_wp2
    go_ret
    refine ⟨ret_bool ?_, rfl⟩
    unfold Um.past
    rw [Bool.eq_iff_iff, decide_eq_true_iff, decide_eq_true_iff]
    omega
set_option maxHeartbeats 400000 in
theorem trPast_any (n s : Nat) (w : World) :
    Calls Tryz.prog 109 #[.int .u64 n, .int .u64 s] w fun e w' => e = .returned (.bool (Um.past n s)) ∧ w' = w := by
  go_enter Tryz.func109, Tryz.ntmps109
  go_wp2
  all_goals go_ret
  all_goals refine ⟨ret_bool ?_, rfl⟩
  all_goals unfold Um.past
  · rw [Bool.eq_iff_iff, decide_eq_true_iff, decide_eq_true_iff]
    omega
  · symm
    apply decide_eq_false
    omega
end
section
set_option maxRecDepth 100000
open Go.RowKit
set_option maxHeartbeats 400000 in
theorem refHas_any (x : Nat) (a b : Int) (w : World) (hx : Um.Word x) :
    Calls Tryz.prog 66 #[.int .u64 x, .int .i64 a, .int .i64 b] w fun e w' => e = .returned (.bool (Um.hasN x a b)) ∧ w' = w := by
  cases ho : Um.okS a b with
  | true =>
    have hlt := Um.bitAt_lt ho
    have e : Um.hasN x a b = x.testBit (Um.bitAt a b) := by unfold Um.hasN; rw [ho]; rfl
    rw [e]
    clear e
    have hat : ∀ w, Calls Tryz.prog 78 #[.int .i64 a, .int .i64 b] w fun e w' => e = .returned (.int .i64 (Um.bitAt a b : Int)) ∧ w' = w := by
      intro w
      have := at_any a b w
      rwa [if_pos ho] at this
    have HA := hide hat
    clear hat
    generalize Um.bitAt a b = k at *
    go_enter Tryz.func66, Tryz.ntmps66
    go_wp2_with (first
      | (go_at_call 78; refine (unhide HA _).mono ?_; rintro e w' ⟨rfl, rfl⟩)
      | (go_at_call 95; refine (bit_any _ _ _ hx (by omega) (by omega)).mono ?_; rintro e w' ⟨rfl, rfl⟩))
    go_ret
    exact ⟨rfl, rfl⟩
  | false =>
    have e : Um.hasN x a b = false := by unfold Um.hasN; rw [ho]; rfl
    rw [e]
    clear e
    have hat : ∀ w, Calls Tryz.prog 78 #[.int .i64 a, .int .i64 b] w fun e w' => e = .returned (.int .i64 (-1)) ∧ w' = w := by
      intro w
      have := at_any a b w
      rwa [if_neg (by simp [ho])] at this
    have HA := hide hat
    clear hat
    go_enter Tryz.func66, Tryz.ntmps66
    go_wp2_with (first
      | (go_at_call 78; refine (unhide HA _).mono ?_; rintro e w' ⟨rfl, rfl⟩))
    go_ret
    exact ⟨rfl, rfl⟩
set_option maxHeartbeats 400000 in
theorem refWith_any (x : Nat) (a b : Int) (w : World) (hx : Um.Word x) :
    Calls Tryz.prog 38 #[.int .u64 x, .int .i64 a, .int .i64 b] w fun e w' => e = .returned (.int .u64 (Um.withN x a b)) ∧ w' = w := by
  cases ho : Um.okS a b with
  | true =>
    have hlt := Um.bitAt_lt ho
    have e : Um.withN x a b = Um.setN x ((Um.bitAt a b : Int).toNat) true := by unfold Um.withN; rw [ho]; rfl
    rw [e]
    clear e
    have hat : ∀ w, Calls Tryz.prog 78 #[.int .i64 a, .int .i64 b] w fun e w' => e = .returned (.int .i64 (Um.bitAt a b : Int)) ∧ w' = w := by
      intro w
      have := at_any a b w
      rwa [if_pos ho] at this
    have HA := hide hat
    clear hat
    generalize Um.bitAt a b = k at *
    go_enter Tryz.func38, Tryz.ntmps38
    go_wp2_with (first
      | (go_at_call 78; refine (unhide HA _).mono ?_; rintro e w' ⟨rfl, rfl⟩)
      | (go_at_call 64; refine (put_any _ _ _ _ hx (by omega) (by omega)).mono ?_; rintro e w' ⟨rfl, rfl⟩))
    go_ret
    exact ⟨rfl, rfl⟩
  | false =>
    have e : Um.withN x a b = x := Um.with_bad _ _ _ ho
    rw [e]
    clear e
    have hat : ∀ w, Calls Tryz.prog 78 #[.int .i64 a, .int .i64 b] w fun e w' => e = .returned (.int .i64 (-1)) ∧ w' = w := by
      intro w
      have := at_any a b w
      rwa [if_neg (by simp [ho])] at this
    have HA := hide hat
    clear hat
    go_enter Tryz.func38, Tryz.ntmps38
    go_wp2_with (first
      | (go_at_call 78; refine (unhide HA _).mono ?_; rintro e w' ⟨rfl, rfl⟩))
    go_ret
    exact ⟨rfl, rfl⟩
set_option maxHeartbeats 400000 in
theorem refAny_any (x : Nat) (a : Int) (w : World) (hx : Um.Word x) :
    Calls Tryz.prog 67 #[.int .u64 x, .int .i64 a] w fun e w' => e = .returned (.bool (Um.anyN x a)) ∧ ∃ n, w' = w.drewN n := by
  by_cases ha : a = 0 ∨ a = 1
  · have e : Um.anyN x a = (decide (0 < Um.part x (12 * a).toNat 12) || x.testBit (24 + a).toNat) := by unfold Um.anyN; simp [ha]
    rw [e]
    have ha0 : 0 ≤ a := by omega
    have ha1 : a ≤ 1 := by omega
    clear e ha
    have hn : ∀ w, Calls Tryz.prog 69 #[.int .u64 x, .int .i64 (12 * a), .int .i64 12] w fun e w' => e = .returned (.int .i64 (Um.part x (12 * a).toNat 12)) ∧ ∃ n, w' = w.drewN n :=
      fun w => number_any x (12 * a) 12 w hx (by omega) (by omega) (by omega) (by omega)
    have HN := hide hn
    clear hn
    generalize Um.part x (12 * a).toNat 12 = k at *
    by_cases hk : 0 < k
    all_goals
      go_enter Tryz.func67, Tryz.ntmps67
      go_wp2_with (first
        | (go_at_call 69; refine (unhide HN _).mono ?_; rintro e w' ⟨rfl, nq, rfl⟩)
        | (go_at_call 95; refine (bit_any _ _ _ hx (by omega) (by omega)).mono ?_; rintro e w' ⟨rfl, rfl⟩))
      go_ret
      refine ⟨ret_bool ?_, ⟨_, rfl⟩⟩
      simp [hk]
  · have h1 : Um.anyN x a = false := by unfold Um.anyN; simp [ha]
    rw [h1]
    clear h1
    go_enter Tryz.func67, Tryz.ntmps67
    go_wp2
    all_goals go_ret
    all_goals first | exact ⟨rfl, ⟨0, rfl⟩⟩ | omega
end
end Go.Proofs.YtapgghciieloaaaGreat
