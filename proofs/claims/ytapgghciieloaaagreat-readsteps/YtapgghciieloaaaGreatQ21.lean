/-
  Texts that the laws stand on, merged (JoinR3).
-/
import Derived.Test.YtapgghciieloaaaGreatQ18

namespace Go.Proofs.YtapgghciieloaaaGreat
section
set_option maxRecDepth 100000
open Go.RowKit Go.Sort
theorem egWi11 (args : Array Value) (w : World) : (callFunc 38 args).run Tryz.prog w = .ok (.enter 38 args) w := by go_simp
set_option maxHeartbeats 8000000 in
theorem rStep11_lay (w : World) (c : Um.Cf) (m M : Um.Mm) (g cg : Nat) (sl sd b : Int) (sn s : Nat) (r2 : Int) (hT : (M.l.done = true → r2 = 2) ∧ (M.l.done = false → r2 = 0)) (hs : Um.Word s) (hB : BlkAt w g (rowW m.ws c.n)) (hr : c.r = true) (hw : WordsOk c m) (h1 : c.n ≤ cg) (h2 : cg ≤ maxLen) (hM : M = Um.mtouch c m 3 4 sl s (Um.withN s sd b)) :
    Calls Tryz.prog 96 #[.agg #[.int .i64 sl, .int .i64 sd, .int .i64 b, .int .u64 (sn : Nat), .int .i64 2, .int .u64 (s : Nat), .int .i64 0], (.agg #[.int .i64 c.t, .int .i64 c.s, .int .i64 c.k, .int .i64 c.g, .int .u64 c.q, (.slice (some ⟨g, 0, none⟩) c.n cg), .int .i64 m.cnt, .int .i64 m.l.kind, .int .i64 m.l.a, .int .i64 m.l.b, .int .u64 (m.l.old : Nat), .int .u64 (m.l.new : Nat), .bool m.l.done])] w fun r w' => ∃ g' cg', r = .returned (.tuple #[.agg #[.int .i64 sl, .int .i64 sd, .int .i64 b, .int .u64 (sn : Nat), .int .i64 0, .int .u64 (s : Nat), .int .i64 r2], (.agg #[.int .i64 c.t, .int .i64 c.s, .int .i64 c.k, .int .i64 c.g, .int .u64 c.q, (.slice (some ⟨g', 0, none⟩) c.n cg'), .int .i64 M.cnt, .int .i64 M.l.kind, .int .i64 M.l.a, .int .i64 M.l.b, .int .u64 (M.l.old : Nat), .int .u64 (M.l.new : Nat), .bool M.l.done])]) ∧ c.n ≤ cg' ∧ cg' ≤ maxLen ∧ Fr w g g' ∧ WordsOk c M ∧ BlkAt w' g' (rowW M.ws c.n) ∧ Below w.heap.size w w' := by
  have hS := Sx.read1 hB
  have HSW := hide hs
  have HT := hide hT
  clear hs hT
  have HR := hide hr
  have HW := hide hw
  have HM := hide hM
  clear hB hr hw hM
  go_enter Tryz.func96, Tryz.ntmps96
  go_wp2_with (first | (refine ybox hS (h := ?_); clear hS; intro _ _ hS) | (refine yall hS (h := ?_); clear hS; intro _ _ hS) | refine yld hS (h := ?_) | (refine yst hS (h := ?_); clear hS; intro _ hS))
  obtain ⟨OB, rfl⟩ := nameB hS 0 rfl
  obtain ⟨MB, rfl⟩ := nameB hS 1 rfl
  obtain ⟨R1, rfl⟩ := nameB hS 2 rfl
  obtain ⟨R2, rfl⟩ := nameB hS 3 rfl
  refine wp_region_ogt (fun ts D ts' w' => ∃ (g' : Nat) (cg' : Nat) (NX : Nat), ts' = putS ts [(63, cond (D 0) (.agg #[.int .i64 c.t, .int .i64 c.s, .int .i64 c.k, .int .i64 c.g, .int .u64 c.q, (.slice (some ⟨g, 0, none⟩) c.n cg), .int .i64 m.cnt, .int .i64 m.l.kind, .int .i64 m.l.a, .int .i64 m.l.b, .int .u64 (m.l.old : Nat), .int .u64 (m.l.new : Nat), .bool m.l.done]) undef), (64, cond (D 1) (.pointer (some ⟨OB, 0, none⟩)) undef), (65, cond (D 2) (.int .i64 sl) undef), (66, cond (D 3) (.pointer (some ⟨OB, 5, none⟩)) undef), (67, cond (D 4) (.int .u64 (s : Nat)) undef), (68, cond (D 5) (.pointer (some ⟨OB, 5, none⟩)) undef), (69, cond (D 6) (.int .u64 (s : Nat)) undef), (70, cond (D 7) (.pointer (some ⟨OB, 1, none⟩)) undef), (71, cond (D 8) (.int .i64 sd) undef), (72, cond (D 9) (.pointer (some ⟨OB, 2, none⟩)) undef), (73, cond (D 10) (.int .i64 b) undef), (74, cond (D 11) (.int .u64 (Um.withN s sd b : Nat)) undef), (75, cond (D 12) (.tuple #[.agg #[.int .i64 c.t, .int .i64 c.s, .int .i64 c.k, .int .i64 c.g, .int .u64 c.q, (.slice (some ⟨g', 0, none⟩) c.n cg'), .int .i64 M.cnt, .int .i64 M.l.kind, .int .i64 M.l.a, .int .i64 M.l.b, .int .u64 (M.l.old : Nat), .int .u64 (M.l.new : Nat), .bool M.l.done], .bool M.l.done]) undef), (62, cond (D 13) (.tuple #[.agg #[.int .i64 c.t, .int .i64 c.s, .int .i64 c.k, .int .i64 c.g, .int .u64 c.q, (.slice (some ⟨g', 0, none⟩) c.n cg'), .int .i64 M.cnt, .int .i64 M.l.kind, .int .i64 M.l.a, .int .i64 M.l.b, .int .u64 (M.l.old : Nat), .int .u64 (M.l.new : Nat), .bool M.l.done], .bool M.l.done]) undef), (76, cond (D 14) (.agg #[.int .i64 c.t, .int .i64 c.s, .int .i64 c.k, .int .i64 c.g, .int .u64 c.q, (.slice (some ⟨g', 0, none⟩) c.n cg'), .int .i64 M.cnt, .int .i64 M.l.kind, .int .i64 M.l.a, .int .i64 M.l.b, .int .u64 (M.l.old : Nat), .int .u64 (M.l.new : Nat), .bool M.l.done]) undef), (77, cond (D 15) (.bool M.l.done) undef), (10, cond (D 16) (.pointer (some ⟨NX, 0, none⟩)) undef), (11, cond (D 18) (.bool M.l.done) undef)] ∧ (D 12 = true → c.n ≤ cg' ∧ cg' ≤ maxLen ∧ Fr w g g' ∧ WordsOk c M) ∧ (D 13 = true → D 12 = true) ∧ (D 14 = true → D 12 = true) ∧ (D 17 = true → D 12 = true) ∧ (D 17 = true → D 16 = true) ∧ Sx [] w w' ([(OB, [.int .i64 sl, .int .i64 sd, .int .i64 b, .int .u64 (sn : Nat), .int .i64 2, .int .u64 (s : Nat), .int .i64 0]), (MB, [.int .i64 c.t, .int .i64 c.s, .int .i64 c.k, .int .i64 c.g, .int .u64 c.q, (.slice (some ⟨g, 0, none⟩) c.n cg), .int .i64 m.cnt, .int .i64 m.l.kind, .int .i64 m.l.a, .int .i64 m.l.b, .int .u64 (m.l.old : Nat), .int .u64 (m.l.new : Nat), .bool m.l.done]), (R1, [.int .i64 0, .int .i64 0, .int .i64 0, .int .u64 0, .int .i64 0, .int .u64 0, .int .i64 0]), (R2, [.int .i64 0, .int .i64 0, .int .i64 0, .int .i64 0, .int .u64 0, .slice none 0 0, .int .i64 0, .int .i64 0, .int .i64 0, .int .i64 0, .int .u64 0, .int .u64 0, .bool false])] ++ cond (D 16) [(NX, cond (D 17) [.int .i64 c.t, .int .i64 c.s, .int .i64 c.k, .int .i64 c.g, .int .u64 c.q, (.slice (some ⟨g', 0, none⟩) c.n cg'), .int .i64 M.cnt, .int .i64 M.l.kind, .int .i64 M.l.a, .int .i64 M.l.b, .int .u64 (M.l.old : Nat), .int .u64 (M.l.new : Nat), .bool M.l.done] [.int .i64 0, .int .i64 0, .int .i64 0, .int .i64 0, .int .u64 0, .slice none 0 0, .int .i64 0, .int .i64 0, .int .i64 0, .int .i64 0, .int .u64 0, .int .u64 0, .bool false])] []) [cond (D 12) (g', rowW M.ws c.n) (g, rowW m.ws c.n)]) (by kernel_rfl) (by kernel_rfl) ?start ?steps ?ends
  case start => exact ⟨0, 0, 0, rfl, (fun h => by cases h), (fun h => by cases h), (fun h => by cases h), (fun h => by cases h), (fun h => by cases h), hS.drew⟩
  case steps =>
   intro i o hi D ts' w' hD hpre hI
   obtain ⟨g', cg', NX, rfl, hc, hm, hx, hz, hA, hS⟩ := hI
   dsimp only [putS, List.set]
   match i, hi with
   | 0, hi =>
    cases hi
    refine wpOp_step rfl (fun K hK => ?_)
    refine stp_val rfl (by refine yif_load (S := fun q => q = w') rfl _ _ rfl _ _ rfl _ (fun _ h => h ▸ hS.get 1 rfl) _ (row_any2 rfl) (by exact rfl) _ (by dsimp only [cutL, List.drop, List.take]; first | done | exact rfl)) rfl ?_
    exact hK _ _ ⟨_, rfl, g', cg', NX, rfl, hc, hm, hx, hz, hA, hS⟩
   | 1, hi =>
    cases hi
    refine wpOp_step rfl (fun K hK => ?_)
    refine stp_val rfl (yif_by rfl _ (fun w => by go_simp; first | done | exact rfl)) rfl ?_
    exact hK _ _ ⟨_, rfl, g', cg', NX, rfl, hc, hm, hx, hz, hA, hS⟩
   | 2, hi =>
    cases hi
    have d1 : D 1 = true := og_pre hpre (by kernel_rfl)
    refine wpOp_step rfl (fun K hK => ?_)
    refine stp_val rfl (by refine yif_load1 (S := fun q => q = w') rfl _ (.tmp 64) rfl OB 0 ?_ _ (fun _ h => h ▸ hS.get 0 rfl) (one_any2 rfl) _ rfl; exact cond_at d1 rfl) rfl ?_
    exact hK _ _ ⟨_, rfl, g', cg', NX, rfl, hc, hm, hx, hz, hA, hS⟩
   | 3, hi =>
    cases hi
    refine wpOp_step rfl (fun K hK => ?_)
    refine stp_val rfl (yif_by rfl _ (fun w => by go_simp; first | done | exact rfl)) rfl ?_
    exact hK _ _ ⟨_, rfl, g', cg', NX, rfl, hc, hm, hx, hz, hA, hS⟩
   | 4, hi =>
    cases hi
    have d3 : D 3 = true := og_pre hpre (by kernel_rfl)
    refine wpOp_step rfl (fun K hK => ?_)
    refine stp_val rfl (by refine yif_load1 (S := fun q => q = w') rfl _ (.tmp 66) rfl OB 5 ?_ _ (fun _ h => h ▸ hS.get 0 rfl) (one_any2 rfl) _ rfl; exact cond_at d3 rfl) rfl ?_
    exact hK _ _ ⟨_, rfl, g', cg', NX, rfl, hc, hm, hx, hz, hA, hS⟩
   | 5, hi =>
    cases hi
    refine wpOp_step rfl (fun K hK => ?_)
    refine stp_val rfl (yif_by rfl _ (fun w => by go_simp; first | done | exact rfl)) rfl ?_
    exact hK _ _ ⟨_, rfl, g', cg', NX, rfl, hc, hm, hx, hz, hA, hS⟩
   | 6, hi =>
    cases hi
    have d5 : D 5 = true := og_pre hpre (by kernel_rfl)
    refine wpOp_step rfl (fun K hK => ?_)
    refine stp_val rfl (by refine yif_load1 (S := fun q => q = w') rfl _ (.tmp 68) rfl OB 5 ?_ _ (fun _ h => h ▸ hS.get 0 rfl) (one_any2 rfl) _ rfl; exact cond_at d5 rfl) rfl ?_
    exact hK _ _ ⟨_, rfl, g', cg', NX, rfl, hc, hm, hx, hz, hA, hS⟩
   | 7, hi =>
    cases hi
    refine wpOp_step rfl (fun K hK => ?_)
    refine stp_val rfl (yif_by rfl _ (fun w => by go_simp; first | done | exact rfl)) rfl ?_
    exact hK _ _ ⟨_, rfl, g', cg', NX, rfl, hc, hm, hx, hz, hA, hS⟩
   | 8, hi =>
    cases hi
    have d7 : D 7 = true := og_pre hpre (by kernel_rfl)
    refine wpOp_step rfl (fun K hK => ?_)
    refine stp_val rfl (by refine yif_load1 (S := fun q => q = w') rfl _ (.tmp 70) rfl OB 1 ?_ _ (fun _ h => h ▸ hS.get 0 rfl) (one_any2 rfl) _ rfl; exact cond_at d7 rfl) rfl ?_
    exact hK _ _ ⟨_, rfl, g', cg', NX, rfl, hc, hm, hx, hz, hA, hS⟩
   | 9, hi =>
    cases hi
    refine wpOp_step rfl (fun K hK => ?_)
    refine stp_val rfl (yif_by rfl _ (fun w => by go_simp; first | done | exact rfl)) rfl ?_
    exact hK _ _ ⟨_, rfl, g', cg', NX, rfl, hc, hm, hx, hz, hA, hS⟩
   | 10, hi =>
    cases hi
    have d9 : D 9 = true := og_pre hpre (by kernel_rfl)
    refine wpOp_step rfl (fun K hK => ?_)
    refine stp_val rfl (by refine yif_load1 (S := fun q => q = w') rfl _ (.tmp 72) rfl OB 2 ?_ _ (fun _ h => h ▸ hS.get 0 rfl) (one_any2 rfl) _ rfl; exact cond_at d9 rfl) rfl ?_
    exact hK _ _ ⟨_, rfl, g', cg', NX, rfl, hc, hm, hx, hz, hA, hS⟩
   | 11, hi =>
    cases hi
    have d6 : D 6 = true := og_pre hpre (by kernel_rfl)
    have d8 : D 8 = true := og_pre hpre (by kernel_rfl)
    have d10 : D 10 = true := og_pre hpre (by kernel_rfl)
    refine wpOp_step rfl (fun K hK => ?_)
    refine stp_call rfl _ _ _ rfl egWi11 _ (lst3_eq (cond_at d6 rfl) (cond_at d8 rfl) (cond_at d10 rfl)) _ rfl ?_
    refine (refWith_any s sd b _ (unhide HSW)).mono ?_
    rintro r u ⟨rfl, hb⟩
    exact ⟨_, rfl, hK _ _ ⟨_, rfl, g', cg', NX, rfl, hc, hm, hx, hz, hA, hb ▸ hS⟩⟩
   | 12, hi =>
    cases hi
    have d0 : D 0 = true := og_pre hpre (by kernel_rfl)
    have d2 : D 2 = true := og_pre hpre (by kernel_rfl)
    have d4 : D 4 = true := og_pre hpre (by kernel_rfl)
    have d11 : D 11 = true := og_pre hpre (by kernel_rfl)
    refine wpOp_step rfl (fun K hK => ?_)
    refine stp_call rfl _ _ _ rfl egSw10 _ (lst5_eq (cond_at d0 rfl) rfl (cond_at d2 rfl) (cond_at d4 rfl) (cond_at d11 rfl)) _ rfl ?_
    have m0 := og_not hm hD
    have x0 := og_not hx hD
    have z0 := og_not hz hD
    rw [hD, cond_false] at hS
    have hSz := hS.size
    refine (rSwap_x hS 0 rfl (unhide HR) (unhide HW) h1 h2 4 sl s (Um.withN s sd b) (Um.with_word (unhide HSW) _ _) M (unhide HM)).mono ?_
    rintro r u ⟨gn, cgn, rfl, q1, q2, hFr, hW2, hSn⟩
    rw [z0] at hSn
    refine ⟨_, rfl, hK _ _ ⟨_, (by simp only [m0, x0]; rfl), gn, cgn, NX, rfl, (fun _ => ⟨q1, q2, (Fr.refl w g).trans hFr hSz, hW2⟩), (fun _ => rfl), (fun _ => rfl), (fun _ => rfl), hA, ?_⟩⟩
    show Sx _ _ _ (_ ++ cond (D 16) [(_, cond (D 17) _ _)] _) _
    rw [z0]
    exact hSn
   | 13, hi =>
    cases hi
    have d12 : D 12 = true := og_pre hpre (by kernel_rfl)
    refine wpOp_step rfl (fun K hK => ?_)
    refine stp_val rfl (by exact yif_mv rfl (.tmp 75) rfl _ (cond_at d12 rfl)) rfl ?_
    exact hK _ _ ⟨_, rfl, g', cg', NX, rfl, hc, (fun _ => d12), hx, hz, hA, hS⟩
   | 14, hi =>
    cases hi
    have d13 : D 13 = true := og_pre hpre (by kernel_rfl)
    refine wpOp_step rfl (fun K hK => ?_)
    refine stp_val rfl (by refine yif_extract rfl (.tmp 62) 0 rfl [.agg #[.int .i64 c.t, .int .i64 c.s, .int .i64 c.k, .int .i64 c.g, .int .u64 c.q, (.slice (some ⟨g', 0, none⟩) c.n cg'), .int .i64 M.cnt, .int .i64 M.l.kind, .int .i64 M.l.a, .int .i64 M.l.b, .int .u64 (M.l.old : Nat), .int .u64 (M.l.new : Nat), .bool M.l.done], .bool M.l.done] ?_ _ rfl; exact cond_at d13 rfl) rfl ?_
    exact hK _ _ ⟨_, rfl, g', cg', NX, rfl, hc, hm, (fun _ => hm d13), hz, hA, hS⟩
   | 15, hi =>
    cases hi
    have d13 : D 13 = true := og_pre hpre (by kernel_rfl)
    refine wpOp_step rfl (fun K hK => ?_)
    refine stp_val rfl (by refine yif_extract rfl (.tmp 62) 1 rfl [.agg #[.int .i64 c.t, .int .i64 c.s, .int .i64 c.k, .int .i64 c.g, .int .u64 c.q, (.slice (some ⟨g', 0, none⟩) c.n cg'), .int .i64 M.cnt, .int .i64 M.l.kind, .int .i64 M.l.a, .int .i64 M.l.b, .int .u64 (M.l.old : Nat), .int .u64 (M.l.new : Nat), .bool M.l.done], .bool M.l.done] ?_ _ rfl; exact cond_at d13 rfl) rfl ?_
    exact hK _ _ ⟨_, rfl, g', cg', NX, rfl, hc, hm, hx, hz, hA, hS⟩
   | 16, hi =>
    cases hi
    refine wpOp_step rfl (fun K hK => ?_)
    have e0 := og_not hA hD
    refine stx_alloc hS rfl _ rfl _ (zer_any2 rfl) _ rfl _ rfl _ (fun _ => rfl) ?_
    intro bn u hS'
    rw [hD, cond_false, List.append_nil] at hS'
    refine hK _ _ ⟨_, rfl, g', cg', bn, rfl, hc, hm, hx, hz, (fun _ => rfl), ?_⟩
    show Sx _ _ _ (_ ++ [(bn, cond (D 17) _ _)]) _
    rw [e0]
    exact hS'
   | 17, hi =>
    cases hi
    have d14 : D 14 = true := og_pre hpre (by kernel_rfl)
    have d16 : D 16 = true := og_pre hpre (by kernel_rfl)
    refine wpOp_step rfl (fun K hK => ?_)
    rw [d16, hD, cond_true, cond_false] at hS
    refine stx_store hS 4 rfl _ _ _ rfl _ _ (cond_at d16 rfl) _ rfl _ (cond_at d14 rfl) _ rfl _ (siz_any2 rfl) (by exact rfl) (by exact rfl) (by exact rfl) rfl ?_
    intro u hS'
    refine hK _ _ ⟨_, rfl, g', cg', NX, rfl, hc, hm, hx, (fun _ => hx d14), (fun _ => d16), ?_⟩
    show Sx _ _ _ (_ ++ cond (D 16) _ _) _
    rw [d16]
    exact hS'
   | 18, hi =>
    cases hi
    have d15 : D 15 = true := og_pre hpre (by kernel_rfl)
    refine wpOp_step rfl (fun K hK => ?_)
    refine stp_val rfl (yif_by rfl _ (fun w => by simp only [d15, cond_true]; go_simp; first | done | exact rfl)) rfl ?_
    exact hK _ _ ⟨_, rfl, g', cg', NX, rfl, hc, hm, hx, hz, hA, hS⟩
   | i + 19, hi => simp at hi
  case ends =>
    intro D ts' w' hall hI
    obtain ⟨g', cg', NX, rfl, hc, hm, hx, hz, hA, hS⟩ := hI
    have d0 : D 0 = true := hall 0 (by decide)
    have d1 : D 1 = true := hall 1 (by decide)
    have d2 : D 2 = true := hall 2 (by decide)
    have d3 : D 3 = true := hall 3 (by decide)
    have d4 : D 4 = true := hall 4 (by decide)
    have d5 : D 5 = true := hall 5 (by decide)
    have d6 : D 6 = true := hall 6 (by decide)
    have d7 : D 7 = true := hall 7 (by decide)
    have d8 : D 8 = true := hall 8 (by decide)
    have d9 : D 9 = true := hall 9 (by decide)
    have d10 : D 10 = true := hall 10 (by decide)
    have d11 : D 11 = true := hall 11 (by decide)
    have d12 : D 12 = true := hall 12 (by decide)
    have d13 : D 13 = true := hall 13 (by decide)
    have d14 : D 14 = true := hall 14 (by decide)
    have d15 : D 15 = true := hall 15 (by decide)
    have d16 : D 16 = true := hall 16 (by decide)
    have d17 : D 17 = true := hall 17 (by decide)
    have d18 : D 18 = true := hall 18 (by decide)
    simp only [d12, d16, d17, cond_true] at hS
    dsimp only [putS, List.set]
    simp only [d0, d1, d2, d3, d4, d5, d6, d7, d8, d9, d10, d11, d12, d13, d14, d15, d16, d18, cond_true]
    obtain ⟨q1, q2, hFr, hW2⟩ := hc d12
    have HW2 := hide hW2
    clear hall hc hm hx hz hA hW2 d0 d1 d2 d3 d4 d5 d6 d7 d8 d9 d10 d11 d12 d13 d14 d15 d16 d17 d18
    dsimp only [List.cons_append, List.nil_append] at hS
    have hdc : M.l.done = true ∨ M.l.done = false := by cases M.l.done <;> simp
    rcases hdc with hd | hd
    · have hr2 := (unhide HT).1 hd
      subst hr2
      simp only [hd]
      clear hd HT
      go_wp2_with (refine yst hS (h := ?_); clear hS; intro _ hS)
      refine wp_ret2 hS 0 4 2 3 (hQ := ?_)
      · intro _ hS'
        clear hS
        have hS := hS'
        clear hS'
        dsimp only [List.set] at hS ⊢
        go_wp2
        have hZ := hS.get 2 rfl
        have hY := hS.get 3 rfl
        refine bodyPost_ret (v := .tuple #[.agg #[.int .i64 sl, .int .i64 sd, .int .i64 b, .int .u64 (sn : Nat), .int .i64 0, .int .u64 (s : Nat), .int .i64 2], (.agg #[.int .i64 c.t, .int .i64 c.s, .int .i64 c.k, .int .i64 c.g, .int .u64 c.q, (.slice (some ⟨g', 0, none⟩) c.n cg'), .int .i64 M.cnt, .int .i64 M.l.kind, .int .i64 M.l.a, .int .i64 M.l.b, .int .u64 (M.l.old : Nat), .int .u64 (M.l.new : Nat), .bool M.l.done])]) (by simp [results, Tryz.results96, go_sem, hZ.cell 0 _ rfl, hZ.cell 1 _ rfl, hZ.cell 2 _ rfl, hZ.cell 3 _ rfl, hZ.cell 4 _ rfl, hZ.cell 5 _ rfl, hZ.cell 6 _ rfl, hY.cell 0 _ rfl, hY.cell 1 _ rfl, hY.cell 2 _ rfl, hY.cell 3 _ rfl, hY.cell 4 _ rfl, hY.cell 5 _ rfl, hY.cell 6 _ rfl, hY.cell 7 _ rfl, hY.cell 8 _ rfl, hY.cell 9 _ rfl, hY.cell 10 _ rfl, hY.cell 11 _ rfl, hY.cell 12 _ rfl]) rfl ?_
        exact ⟨g', cg', rfl, q1, q2, hFr, unhide HW2, hS.getE 0 rfl, hS.bel⟩
    · have hr2 := (unhide HT).2 hd
      subst hr2
      simp only [hd]
      clear hd HT
      go_wp2_with (refine yst hS (h := ?_); clear hS; intro _ hS)
      refine wp_ret2 hS 0 4 2 3 (hQ := ?_)
      · intro _ hS'
        clear hS
        have hS := hS'
        clear hS'
        dsimp only [List.set] at hS ⊢
        go_wp2
        have hZ := hS.get 2 rfl
        have hY := hS.get 3 rfl
        refine bodyPost_ret (v := .tuple #[.agg #[.int .i64 sl, .int .i64 sd, .int .i64 b, .int .u64 (sn : Nat), .int .i64 0, .int .u64 (s : Nat), .int .i64 0], (.agg #[.int .i64 c.t, .int .i64 c.s, .int .i64 c.k, .int .i64 c.g, .int .u64 c.q, (.slice (some ⟨g', 0, none⟩) c.n cg'), .int .i64 M.cnt, .int .i64 M.l.kind, .int .i64 M.l.a, .int .i64 M.l.b, .int .u64 (M.l.old : Nat), .int .u64 (M.l.new : Nat), .bool M.l.done])]) (by simp [results, Tryz.results96, go_sem, hZ.cell 0 _ rfl, hZ.cell 1 _ rfl, hZ.cell 2 _ rfl, hZ.cell 3 _ rfl, hZ.cell 4 _ rfl, hZ.cell 5 _ rfl, hZ.cell 6 _ rfl, hY.cell 0 _ rfl, hY.cell 1 _ rfl, hY.cell 2 _ rfl, hY.cell 3 _ rfl, hY.cell 4 _ rfl, hY.cell 5 _ rfl, hY.cell 6 _ rfl, hY.cell 7 _ rfl, hY.cell 8 _ rfl, hY.cell 9 _ rfl, hY.cell 10 _ rfl, hY.cell 11 _ rfl, hY.cell 12 _ rfl]) rfl ?_
        exact ⟨g', cg', rfl, q1, q2, hFr, unhide HW2, hS.getE 0 rfl, hS.bel⟩
end
end Go.Proofs.YtapgghciieloaaaGreat
