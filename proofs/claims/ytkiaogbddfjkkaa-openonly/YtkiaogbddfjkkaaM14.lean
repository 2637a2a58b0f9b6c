/-
  Texts that the laws stand on, merged (HelpR3, HelpRA, TicketMath, OpenMath, TicketA).
-/
import Derived.Test.YtkiaogbddfjkkaaM1
import Derived.Test.YtkiaogbddfjkkaaM11
import Derived.Test.YtkiaogbddfjkkaaM12
import Derived.Test.YtkiaogbddfjkkaaM13
import Derived.Test.YtkiaogbddfjkkaaM4
import Derived.Test.YtkiaogbddfjkkaaM5
import Derived.Deep.RegionWith
import Derived.Laws.EntriesVeiled
import Derived.Lib.QuietBelow
import Derived.LoopN

/-
  The walks of the document's own help: it settles.
-/
namespace Go.Proofs.Ytkiaogbddfjkkaa
set_option maxRecDepth 100000
open Go.RowKit Go.Sort

set_option maxHeartbeats 8000000 in
theorem rStep8_3 (w : World) (c : Um.Cf) (m M : Um.Mm) (g cg : Nat) (x s : Nat) (hx : Um.Word x) (hs : Um.Word s) (hB : BlkAt w g (rowW m.ws c.n)) (hr : c.r = true) (hw : WordsOk c m) (h1 : c.n ≤ cg) (h2 : cg ≤ maxLen) (hM : M = Um.mtouch c m 3 1 0 x (Um.setlN x)) :
    Calls Try.prog 45 #[.agg #[.int .u64 (x : Nat), .int .i64 3, .int .u64 (s : Nat), .bool false], (.agg #[.int .i64 c.t, .int .i64 c.s, .int .i64 c.k, .int .i64 c.g, .int .u64 c.q, (.slice (some ⟨g, 0, none⟩) c.n cg), .int .i64 m.cnt, .int .i64 m.l.kind, .int .i64 m.l.a, .int .i64 m.l.b, .int .u64 (m.l.old : Nat), .int .u64 (m.l.new : Nat), .bool m.l.done])] w fun r w' => ∃ g' cg', r = .returned (.tuple #[.agg #[.int .u64 (x : Nat), .int .i64 3, .int .u64 (s : Nat), .bool true], (.agg #[.int .i64 c.t, .int .i64 c.s, .int .i64 c.k, .int .i64 c.g, .int .u64 c.q, (.slice (some ⟨g', 0, none⟩) c.n cg'), .int .i64 M.cnt, .int .i64 M.l.kind, .int .i64 M.l.a, .int .i64 M.l.b, .int .u64 (M.l.old : Nat), .int .u64 (M.l.new : Nat), .bool M.l.done])]) ∧ c.n ≤ cg' ∧ cg' ≤ maxLen ∧ Fr w g g' ∧ WordsOk c M ∧ BlkAt w' g' (rowW M.ws c.n) ∧ Below w.heap.size w w' := by
  have hS := Sx.read w [(g, rowW m.ws c.n)] (fun p hp => by obtain rfl : p = _ := by simpa using hp
                                                            exact hB)
  have HR := hide hr
  have HW := hide hw
  have HM := hide hM
  have HXW := hide hx
  have HSW := hide hs
  clear hB hr hw hM hx hs
  go_enter Try.func45, Try.ntmps45
  go_wp2_with (first | (refine wpx_box hS rfl _ _ rfl _ rfl _ (by intro _; simp only [Act.put, List.setIfInBounds_toArray, List.set_cons_zero, List.set_cons_succ]; first | done | exact rfl) ?_; clear hS; intro _ _ hS; dsimp only [blit, List.set, List.cons_append, List.nil_append, Value.cells, List.toList_toArray] at hS) | (refine wpx_alloc hS rfl _ rfl _ (zer_any2 rfl) _ (by intro _; simp only [Act.put, List.setIfInBounds_toArray, List.set_cons_zero, List.set_cons_succ]; first | done | exact rfl) ?_; clear hS; intro _ _ hS; dsimp only [blit, List.set, List.cons_append, List.nil_append, Value.cells, List.toList_toArray] at hS) | (refine wpx_ld hS rfl _ _ rfl _ _ rfl ?_; (first | refine ⟨0, _, rfl, ?_⟩ | refine ⟨1, _, rfl, ?_⟩ | refine ⟨2, _, rfl, ?_⟩ | refine ⟨3, _, rfl, ?_⟩ | refine ⟨4, _, rfl, ?_⟩ | refine ⟨5, _, rfl, ?_⟩ | refine ⟨6, _, rfl, ?_⟩ | refine ⟨7, _, rfl, ?_⟩ | refine ⟨8, _, rfl, ?_⟩ | refine ⟨9, _, rfl, ?_⟩); first | refine .inl ⟨_, one_any2 rfl, rfl, _, (by simp only [Act.put, List.setIfInBounds_toArray, List.set_cons_zero, List.set_cons_succ]; first | done | exact rfl), ?_⟩ | refine .inr ⟨_, _, row_any2 rfl, rfl, (by dsimp only [cutL, List.drop, List.take]; first | done | exact rfl), _, (by simp only [Act.put, List.setIfInBounds_toArray, List.set_cons_zero, List.set_cons_succ]; first | done | exact rfl), ?_⟩) | (refine wpx_st hS rfl _ _ _ rfl rfl _ _ rfl ?_; (first | refine ⟨0, _, rfl, ?_⟩ | refine ⟨1, _, rfl, ?_⟩ | refine ⟨2, _, rfl, ?_⟩ | refine ⟨3, _, rfl, ?_⟩ | refine ⟨4, _, rfl, ?_⟩ | refine ⟨5, _, rfl, ?_⟩ | refine ⟨6, _, rfl, ?_⟩ | refine ⟨7, _, rfl, ?_⟩ | refine ⟨8, _, rfl, ?_⟩ | refine ⟨9, _, rfl, ?_⟩); refine ⟨_, (by first | exact shA rfl | exact shI rfl | exact shB rfl | exact shS rfl | exact shP rfl | exact shF rfl | exact shN rfl), _, siz_any2 rfl, (by exact rfl), (by exact rfl), (by exact rfl), ?_⟩; clear hS; intro _ hS; dsimp only [blit, List.set, List.cons_append, List.nil_append, Value.cells, List.toList_toArray] at hS))
  refine (trUnpack_x hS x (unhide HXW)).mono ?_
  rintro r u ⟨rfl, hSn⟩
  clear hS
  have hS := hSn
  clear hSn
  go_wp2_with (first | (refine wpx_box hS rfl _ _ rfl _ rfl _ (by intro _; simp only [Act.put, List.setIfInBounds_toArray, List.set_cons_zero, List.set_cons_succ]; first | done | exact rfl) ?_; clear hS; intro _ _ hS; dsimp only [blit, List.set, List.cons_append, List.nil_append, Value.cells, List.toList_toArray] at hS) | (refine wpx_alloc hS rfl _ rfl _ (zer_any2 rfl) _ (by intro _; simp only [Act.put, List.setIfInBounds_toArray, List.set_cons_zero, List.set_cons_succ]; first | done | exact rfl) ?_; clear hS; intro _ _ hS; dsimp only [blit, List.set, List.cons_append, List.nil_append, Value.cells, List.toList_toArray] at hS) | (refine wpx_ld hS rfl _ _ rfl _ _ rfl ?_; (first | refine ⟨0, _, rfl, ?_⟩ | refine ⟨1, _, rfl, ?_⟩ | refine ⟨2, _, rfl, ?_⟩ | refine ⟨3, _, rfl, ?_⟩ | refine ⟨4, _, rfl, ?_⟩ | refine ⟨5, _, rfl, ?_⟩ | refine ⟨6, _, rfl, ?_⟩ | refine ⟨7, _, rfl, ?_⟩ | refine ⟨8, _, rfl, ?_⟩ | refine ⟨9, _, rfl, ?_⟩); first | refine .inl ⟨_, one_any2 rfl, rfl, _, (by simp only [Act.put, List.setIfInBounds_toArray, List.set_cons_zero, List.set_cons_succ]; first | done | exact rfl), ?_⟩ | refine .inr ⟨_, _, row_any2 rfl, rfl, (by dsimp only [cutL, List.drop, List.take]; first | done | exact rfl), _, (by simp only [Act.put, List.setIfInBounds_toArray, List.set_cons_zero, List.set_cons_succ]; first | done | exact rfl), ?_⟩) | (refine wpx_st hS rfl _ _ _ rfl rfl _ _ rfl ?_; (first | refine ⟨0, _, rfl, ?_⟩ | refine ⟨1, _, rfl, ?_⟩ | refine ⟨2, _, rfl, ?_⟩ | refine ⟨3, _, rfl, ?_⟩ | refine ⟨4, _, rfl, ?_⟩ | refine ⟨5, _, rfl, ?_⟩ | refine ⟨6, _, rfl, ?_⟩ | refine ⟨7, _, rfl, ?_⟩ | refine ⟨8, _, rfl, ?_⟩ | refine ⟨9, _, rfl, ?_⟩); refine ⟨_, (by first | exact shA rfl | exact shI rfl | exact shB rfl | exact shS rfl | exact shP rfl | exact shF rfl | exact shN rfl), _, siz_any2 rfl, (by exact rfl), (by exact rfl), (by exact rfl), ?_⟩; clear hS; intro _ hS; dsimp only [blit, List.set, List.cons_append, List.nil_append, Value.cells, List.toList_toArray] at hS))
  obtain ⟨HB, rfl⟩ := nameB hS 0 rfl
  obtain ⟨MB, rfl⟩ := nameB hS 1 rfl
  obtain ⟨R1, rfl⟩ := nameB hS 2 rfl
  obtain ⟨R2, rfl⟩ := nameB hS 3 rfl
  obtain ⟨TB, rfl⟩ := nameB hS 4 rfl
  refine wp_region_ogt (fun ts D ts' w' => ∃ (g' : Nat) (cg' : Nat) (NX : Nat), ts' = putS ts [(79, cond (D 0) (.agg #[.int .i64 c.t, .int .i64 c.s, .int .i64 c.k, .int .i64 c.g, .int .u64 c.q, (.slice (some ⟨g, 0, none⟩) c.n cg), .int .i64 m.cnt, .int .i64 m.l.kind, .int .i64 m.l.a, .int .i64 m.l.b, .int .u64 (m.l.old : Nat), .int .u64 (m.l.new : Nat), .bool m.l.done]) undef), (80, cond (D 1) (.pointer (some ⟨HB, 0, none⟩)) undef), (81, cond (D 2) (.int .u64 (x : Nat)) undef), (82, cond (D 3) (.pointer (some ⟨HB, 0, none⟩)) undef), (83, cond (D 4) (.int .u64 (x : Nat)) undef), (84, cond (D 5) (.int .u64 (Um.setlN x : Int)) undef), (85, cond (D 6) (.tuple #[.agg #[.int .i64 c.t, .int .i64 c.s, .int .i64 c.k, .int .i64 c.g, .int .u64 c.q, (.slice (some ⟨g', 0, none⟩) c.n cg'), .int .i64 M.cnt, .int .i64 M.l.kind, .int .i64 M.l.a, .int .i64 M.l.b, .int .u64 (M.l.old : Nat), .int .u64 (M.l.new : Nat), .bool M.l.done], .bool M.l.done]) undef), (78, cond (D 7) (.tuple #[.agg #[.int .i64 c.t, .int .i64 c.s, .int .i64 c.k, .int .i64 c.g, .int .u64 c.q, (.slice (some ⟨g', 0, none⟩) c.n cg'), .int .i64 M.cnt, .int .i64 M.l.kind, .int .i64 M.l.a, .int .i64 M.l.b, .int .u64 (M.l.old : Nat), .int .u64 (M.l.new : Nat), .bool M.l.done], .bool M.l.done]) undef), (86, cond (D 8) (.agg #[.int .i64 c.t, .int .i64 c.s, .int .i64 c.k, .int .i64 c.g, .int .u64 c.q, (.slice (some ⟨g', 0, none⟩) c.n cg'), .int .i64 M.cnt, .int .i64 M.l.kind, .int .i64 M.l.a, .int .i64 M.l.b, .int .u64 (M.l.old : Nat), .int .u64 (M.l.new : Nat), .bool M.l.done]) undef), (87, cond (D 9) (.bool M.l.done) undef), (13, cond (D 10) (.pointer (some ⟨NX, 0, none⟩)) undef), (14, cond (D 12) (.bool M.l.done) undef)] ∧ (D 6 = true → c.n ≤ cg' ∧ cg' ≤ maxLen ∧ Fr w g g' ∧ WordsOk c M) ∧ (D 7 = true → D 6 = true) ∧ (D 8 = true → D 6 = true) ∧ (D 11 = true → D 6 = true) ∧ (D 11 = true → D 10 = true) ∧ Sx [] w w' ([(HB, [.int .u64 (x : Nat), .int .i64 3, .int .u64 (s : Nat), .bool false]), (MB, [.int .i64 c.t, .int .i64 c.s, .int .i64 c.k, .int .i64 c.g, .int .u64 c.q, (.slice (some ⟨g, 0, none⟩) c.n cg), .int .i64 m.cnt, .int .i64 m.l.kind, .int .i64 m.l.a, .int .i64 m.l.b, .int .u64 (m.l.old : Nat), .int .u64 (m.l.new : Nat), .bool m.l.done]), (R1, [.int .u64 0, .int .i64 0, .int .u64 0, .bool false]), (R2, [.int .i64 0, .int .i64 0, .int .i64 0, .int .i64 0, .int .u64 0, .slice none 0 0, .int .i64 0, .int .i64 0, .int .i64 0, .int .i64 0, .int .u64 0, .int .u64 0, .bool false]), (TB, [.int .u64 (Um.seqN x : Int), .int .i64 (Um.penN x)])] ++ cond (D 10) [(NX, cond (D 11) [.int .i64 c.t, .int .i64 c.s, .int .i64 c.k, .int .i64 c.g, .int .u64 c.q, (.slice (some ⟨g', 0, none⟩) c.n cg'), .int .i64 M.cnt, .int .i64 M.l.kind, .int .i64 M.l.a, .int .i64 M.l.b, .int .u64 (M.l.old : Nat), .int .u64 (M.l.new : Nat), .bool M.l.done] [.int .i64 0, .int .i64 0, .int .i64 0, .int .i64 0, .int .u64 0, .slice none 0 0, .int .i64 0, .int .i64 0, .int .i64 0, .int .i64 0, .int .u64 0, .int .u64 0, .bool false])] []) [cond (D 6) (g', rowW M.ws c.n) (g, rowW m.ws c.n)]) (by kernel_rfl) (by kernel_rfl) ?start ?steps ?ends
  case start => exact ⟨0, 0, 0, rfl, (fun h => by cases h), (fun h => by cases h), (fun h => by cases h), (fun h => by cases h), (fun h => by cases h), hS.drew⟩
  case steps =>
    intro i o hi D ts' w' hD hpre hI
    obtain ⟨g', cg', NX, rfl, hc, hm, hx, hz, hA, hS⟩ := hI
    dsimp only [putS, List.set]
    match i, hi with
    | 0, hi =>
      cases hi
      refine wpOp_step rfl (fun K hK => ?_)
      refine stp_val rfl (by refine yif_load (S := fun q => q = w') rfl _ _ rfl _ _ rfl _ (fun _ h => h ▸ hS.get 1 rfl) _ (row_any2 rfl) (by exact rfl) _ (by dsimp only [cutL, List.drop, List.take]; first | done | exact rfl)) rfl ?_
      exact hK _ _ ⟨_, rfl, g', cg', NX, rfl, hc, hm, hx, hz, hA, hS⟩
    | 1, hi =>
      cases hi
      refine wpOp_step rfl (fun K hK => ?_)
      refine stp_val rfl (yif_by rfl _ (fun w => by go_simp; first | done | exact rfl)) rfl ?_
      exact hK _ _ ⟨_, rfl, g', cg', NX, rfl, hc, hm, hx, hz, hA, hS⟩
    | 2, hi =>
      cases hi
      have d1 : D 1 = true := og_pre hpre (j := 1) (by kernel_rfl)
      refine wpOp_step rfl (fun K hK => ?_)
      refine stp_val rfl (by refine yif_load1 (S := fun q => q = w') rfl _ (.tmp 80) rfl HB 0 ?_ _ (fun _ h => h ▸ hS.get 0 rfl) (one_any2 rfl) _ rfl; exact cond_at d1 rfl) rfl ?_
      exact hK _ _ ⟨_, rfl, g', cg', NX, rfl, hc, hm, hx, hz, hA, hS⟩
    | 3, hi =>
      cases hi
      refine wpOp_step rfl (fun K hK => ?_)
      refine stp_val rfl (yif_by rfl _ (fun w => by go_simp; first | done | exact rfl)) rfl ?_
      exact hK _ _ ⟨_, rfl, g', cg', NX, rfl, hc, hm, hx, hz, hA, hS⟩
    | 4, hi =>
      cases hi
      have d3 : D 3 = true := og_pre hpre (j := 3) (by kernel_rfl)
      refine wpOp_step rfl (fun K hK => ?_)
      refine stp_val rfl (by refine yif_load1 (S := fun q => q = w') rfl _ (.tmp 82) rfl HB 0 ?_ _ (fun _ h => h ▸ hS.get 0 rfl) (one_any2 rfl) _ rfl; exact cond_at d3 rfl) rfl ?_
      exact hK _ _ ⟨_, rfl, g', cg', NX, rfl, hc, hm, hx, hz, hA, hS⟩
    | 5, hi =>
      cases hi
      have d4 : D 4 = true := og_pre hpre (j := 4) (by kernel_rfl)
      refine wpOp_step rfl (fun K hK => ?_)
      refine stp_call rfl _ _ _ rfl egSe _ (list1_eq (cond_at d4 rfl)) _ rfl ?_
      refine (trSettled_x hS x (unhide HXW)).mono ?_
      rintro r u ⟨rfl, hS2⟩
      exact ⟨_, rfl, hK _ _ ⟨_, rfl, g', cg', NX, rfl, hc, hm, hx, hz, hA, hS2⟩⟩
    | 6, hi =>
      cases hi
      have d0 : D 0 = true := og_pre hpre (j := 0) (by kernel_rfl)
      have d2 : D 2 = true := og_pre hpre (j := 2) (by kernel_rfl)
      have d5 : D 5 = true := og_pre hpre (j := 5) (by kernel_rfl)
      refine wpOp_step rfl (fun K hK => ?_)
      refine stp_call rfl _ _ _ rfl egRSw _ (list5_eq (cond_at d0 rfl) rfl rfl (cond_at d2 rfl) (cond_at d5 rfl)) _ rfl ?_
      have m0 := og_not hm hD
      have x0 := og_not hx hD
      have z0 := og_not hz hD
      rw [hD, cond_false] at hS
      have hSz := hS.size
      refine (rSwap_x hS 0 rfl (unhide HR) (unhide HW) h1 h2 1 0 x (Um.setlN x) (Um.setl_word (unhide HXW)) M (unhide HM)).mono ?_
      rintro r u ⟨gn, cgn, rfl, q1, q2, hFr, hW2, hSn⟩
      rw [z0] at hSn
      refine ⟨_, rfl, hK _ _ ⟨_, (by simp only [m0, x0]; rfl), gn, cgn, NX, rfl, (fun _ => ⟨q1, q2, (Fr.refl w g).trans hFr hSz, hW2⟩), (fun _ => rfl), (fun _ => rfl), (fun _ => rfl), hA, ?_⟩⟩
      show Sx _ _ _ (_ ++ cond (D 10) [(_, cond (D 11) _ _)] _) _
      rw [z0]
      exact hSn
    | 7, hi =>
      cases hi
      have d6 : D 6 = true := og_pre hpre (j := 6) (by kernel_rfl)
      refine wpOp_step rfl (fun K hK => ?_)
      refine stp_val rfl (by exact yif_mv rfl (.tmp 85) rfl _ (cond_at d6 rfl)) rfl ?_
      exact hK _ _ ⟨_, rfl, g', cg', NX, rfl, hc, (fun _ => d6), hx, hz, hA, hS⟩
    | 8, hi =>
      cases hi
      have d7 : D 7 = true := og_pre hpre (j := 7) (by kernel_rfl)
      refine wpOp_step rfl (fun K hK => ?_)
      refine stp_val rfl (by refine yif_extract rfl (.tmp 78) 0 rfl [.agg #[.int .i64 c.t, .int .i64 c.s, .int .i64 c.k, .int .i64 c.g, .int .u64 c.q, (.slice (some ⟨g', 0, none⟩) c.n cg'), .int .i64 M.cnt, .int .i64 M.l.kind, .int .i64 M.l.a, .int .i64 M.l.b, .int .u64 (M.l.old : Nat), .int .u64 (M.l.new : Nat), .bool M.l.done], .bool M.l.done] ?_ _ rfl; exact cond_at d7 rfl) rfl ?_
      exact hK _ _ ⟨_, rfl, g', cg', NX, rfl, hc, hm, (fun _ => hm d7), hz, hA, hS⟩
    | 9, hi =>
      cases hi
      have d7 : D 7 = true := og_pre hpre (j := 7) (by kernel_rfl)
      refine wpOp_step rfl (fun K hK => ?_)
      refine stp_val rfl (by refine yif_extract rfl (.tmp 78) 1 rfl [.agg #[.int .i64 c.t, .int .i64 c.s, .int .i64 c.k, .int .i64 c.g, .int .u64 c.q, (.slice (some ⟨g', 0, none⟩) c.n cg'), .int .i64 M.cnt, .int .i64 M.l.kind, .int .i64 M.l.a, .int .i64 M.l.b, .int .u64 (M.l.old : Nat), .int .u64 (M.l.new : Nat), .bool M.l.done], .bool M.l.done] ?_ _ rfl; exact cond_at d7 rfl) rfl ?_
      exact hK _ _ ⟨_, rfl, g', cg', NX, rfl, hc, hm, hx, hz, hA, hS⟩
    | 10, hi =>
      cases hi
      refine wpOp_step rfl (fun K hK => ?_)
      have e0 := og_not hA hD
      refine stx_alloc hS rfl _ rfl _ (zer_any2 rfl) _ rfl _ rfl _ (fun _ => rfl) ?_
      intro bn u hS'
      rw [hD, cond_false, List.append_nil] at hS'
      refine hK _ _ ⟨_, rfl, g', cg', bn, rfl, hc, hm, hx, hz, (fun _ => rfl), ?_⟩
      show Sx _ _ _ (_ ++ [(bn, cond (D 11) _ _)]) _
      rw [e0]
      exact hS'
    | 11, hi =>
      cases hi
      have d8 : D 8 = true := og_pre hpre (j := 8) (by kernel_rfl)
      have d10 : D 10 = true := og_pre hpre (j := 10) (by kernel_rfl)
      refine wpOp_step rfl (fun K hK => ?_)
      rw [d10, hD, cond_true, cond_false] at hS
      refine stx_store hS 5 rfl _ _ _ rfl _ _ (cond_at d10 rfl) _ rfl _ (cond_at d8 rfl) _ rfl _ (siz_any2 rfl) (by exact rfl) (by exact rfl) (by exact rfl) rfl ?_
      intro u hS'
      refine hK _ _ ⟨_, rfl, g', cg', NX, rfl, hc, hm, hx, (fun _ => hx d8), (fun _ => d10), ?_⟩
      show Sx _ _ _ (_ ++ cond (D 10) _ _) _
      rw [d10]
      exact hS'
    | 12, hi =>
      cases hi
      have d9 : D 9 = true := og_pre hpre (j := 9) (by kernel_rfl)
      refine wpOp_step rfl (fun K hK => ?_)
      refine stp_val rfl (yif_by rfl _ (fun w => by simp only [d9, cond_true]; go_simp; first | done | exact rfl)) rfl ?_
      exact hK _ _ ⟨_, rfl, g', cg', NX, rfl, hc, hm, hx, hz, hA, hS⟩
    | i + 13, hi => simp at hi
  case ends =>
    intro D ts' w' hall hI
    obtain ⟨g', cg', NX, rfl, hc, hm, hx, hz, hA, hS⟩ := hI
    have d0 : D 0 = true := hall 0 (by decide)
    have d1 : D 1 = true := hall 1 (by decide)
    have d2 : D 2 = true := hall 2 (by decide)
    have d3 : D 3 = true := hall 3 (by decide)
    have d4 : D 4 = true := hall 4 (by decide)
    have d5 : D 5 = true := hall 5 (by decide)
    have d6 : D 6 = true := hall 6 (by decide)
    have d7 : D 7 = true := hall 7 (by decide)
    have d8 : D 8 = true := hall 8 (by decide)
    have d9 : D 9 = true := hall 9 (by decide)
    have d10 : D 10 = true := hall 10 (by decide)
    have d11 : D 11 = true := hall 11 (by decide)
    have d12 : D 12 = true := hall 12 (by decide)
    simp only [d6, d10, d11, cond_true] at hS
    dsimp only [putS, List.set]
    simp only [d0, d1, d2, d3, d4, d5, d6, d7, d8, d9, d10, d12, cond_true]
    obtain ⟨q1, q2, hFr, hW2⟩ := hc d6
    have HW2 := hide hW2
    clear hall hc hm hx hz hA hW2 d0 d1 d2 d3 d4 d5 d6 d7 d8 d9 d10 d11 d12
    dsimp only [List.cons_append, List.nil_append] at hS
    go_wp2_with (refine wpx_st hS rfl _ _ _ rfl rfl _ _ rfl ?_; (first | refine ⟨0, _, rfl, ?_⟩ | refine ⟨1, _, rfl, ?_⟩ | refine ⟨2, _, rfl, ?_⟩ | refine ⟨3, _, rfl, ?_⟩ | refine ⟨4, _, rfl, ?_⟩ | refine ⟨5, _, rfl, ?_⟩ | refine ⟨6, _, rfl, ?_⟩ | refine ⟨7, _, rfl, ?_⟩ | refine ⟨8, _, rfl, ?_⟩ | refine ⟨9, _, rfl, ?_⟩); refine ⟨_, (by first | exact shA rfl | exact shI rfl | exact shB rfl | exact shS rfl | exact shP rfl | exact shF rfl | exact shN rfl), _, siz_any2 rfl, (by exact rfl), (by exact rfl), (by exact rfl), ?_⟩; clear hS; intro _ hS; dsimp only [blit, List.set, List.cons_append, List.nil_append, Value.cells, List.toList_toArray] at hS)
    refine wp_region_ogt (fun ts D ts' w' => ts' = putS ts [(89, cond (D 0) (.agg #[.int .u64 (x : Nat), .int .i64 3, .int .u64 (s : Nat), .bool true]) undef), (90, cond (D 1) (.agg #[.int .i64 c.t, .int .i64 c.s, .int .i64 c.k, .int .i64 c.g, .int .u64 c.q, (.slice (some ⟨g', 0, none⟩) c.n cg'), .int .i64 M.cnt, .int .i64 M.l.kind, .int .i64 M.l.a, .int .i64 M.l.b, .int .u64 (M.l.old : Nat), .int .u64 (M.l.new : Nat), .bool M.l.done]) undef)] ∧ Sx [] w w' [(HB, [.int .u64 (x : Nat), .int .i64 3, .int .u64 (s : Nat), .bool true]), (MB, [.int .i64 c.t, .int .i64 c.s, .int .i64 c.k, .int .i64 c.g, .int .u64 c.q, (.slice (some ⟨g, 0, none⟩) c.n cg), .int .i64 m.cnt, .int .i64 m.l.kind, .int .i64 m.l.a, .int .i64 m.l.b, .int .u64 (m.l.old : Nat), .int .u64 (m.l.new : Nat), .bool m.l.done]), (R1, cond (D 2) [.int .u64 (x : Nat), .int .i64 3, .int .u64 (s : Nat), .bool true] [.int .u64 0, .int .i64 0, .int .u64 0, .bool false]), (R2, cond (D 3) [.int .i64 c.t, .int .i64 c.s, .int .i64 c.k, .int .i64 c.g, .int .u64 c.q, (.slice (some ⟨g', 0, none⟩) c.n cg'), .int .i64 M.cnt, .int .i64 M.l.kind, .int .i64 M.l.a, .int .i64 M.l.b, .int .u64 (M.l.old : Nat), .int .u64 (M.l.new : Nat), .bool M.l.done] [.int .i64 0, .int .i64 0, .int .i64 0, .int .i64 0, .int .u64 0, .slice none 0 0, .int .i64 0, .int .i64 0, .int .i64 0, .int .i64 0, .int .u64 0, .int .u64 0, .bool false]), (TB, [.int .u64 (Um.seqN x : Int), .int .i64 (Um.penN x)]), (NX, [.int .i64 c.t, .int .i64 c.s, .int .i64 c.k, .int .i64 c.g, .int .u64 c.q, (.slice (some ⟨g', 0, none⟩) c.n cg'), .int .i64 M.cnt, .int .i64 M.l.kind, .int .i64 M.l.a, .int .i64 M.l.b, .int .u64 (M.l.old : Nat), .int .u64 (M.l.new : Nat), .bool M.l.done])] [(g', rowW M.ws c.n)]) (by kernel_rfl) (by kernel_rfl) ?start ?steps ?ends
    case start => exact ⟨rfl, hS.drew⟩
    case steps =>
      intro i o hi D ts' w' hD hpre hI
      obtain ⟨rfl, hS⟩ := hI
      dsimp only [putS, List.set]
      match i, hi with
      | 0, hi =>
        cases hi
        refine wpOp_step rfl (fun K hK => ?_)
        refine stp_val rfl (by refine yif_load (S := fun q => q = w') rfl _ _ rfl _ _ rfl _ (fun _ h => h ▸ hS.get 0 rfl) _ (row_any2 rfl) (by exact rfl) _ (by dsimp only [cutL, List.drop, List.take]; first | done | exact rfl)) rfl ?_
        exact hK _ _ ⟨_, rfl, rfl, hS⟩
      | 1, hi =>
        cases hi
        refine wpOp_step rfl (fun K hK => ?_)
        refine stp_val rfl (by refine yif_load (S := fun q => q = w') rfl _ _ rfl _ _ rfl _ (fun _ h => h ▸ hS.get 5 rfl) _ (row_any2 rfl) (by exact rfl) _ (by dsimp only [cutL, List.drop, List.take]; first | done | exact rfl)) rfl ?_
        exact hK _ _ ⟨_, rfl, rfl, hS⟩
      | 2, hi =>
        cases hi
        have d0 : D 0 = true := og_pre hpre (j := 0) (by kernel_rfl)
        refine wpOp_step rfl (fun K hK => ?_)
        simp only [hD, cond_false] at hS
        refine stx_store hS 2 rfl _ _ _ rfl _ _ rfl _ rfl _ (cond_at d0 rfl) _ rfl _ (siz_any2 rfl) (by exact rfl) (by exact rfl) (by exact rfl) rfl ?_
        intro u hS'
        exact hK _ _ ⟨_, rfl, rfl, hS'⟩
      | 3, hi =>
        cases hi
        have d1 : D 1 = true := og_pre hpre (j := 1) (by kernel_rfl)
        refine wpOp_step rfl (fun K hK => ?_)
        simp only [hD, cond_false] at hS
        refine stx_store hS 3 rfl _ _ _ rfl _ _ rfl _ rfl _ (cond_at d1 rfl) _ rfl _ (siz_any2 rfl) (by exact rfl) (by exact rfl) (by exact rfl) rfl ?_
        intro u hS'
        exact hK _ _ ⟨_, rfl, rfl, hS'⟩
      | i + 4, hi => simp at hi
    case ends =>
      intro D ts' w' hall hI
      obtain ⟨rfl, hS⟩ := hI
      have d0 : D 0 = true := hall 0 (by decide)
      have d1 : D 1 = true := hall 1 (by decide)
      have d2 : D 2 = true := hall 2 (by decide)
      have d3 : D 3 = true := hall 3 (by decide)
      simp only [d2, d3, cond_true] at hS
      dsimp only [putS, List.set]
      simp only [d0, d1, cond_true]
      clear hall d0 d1 d2 d3
      go_wp2
      have hZ := hS.get 2 rfl
      have hY := hS.get 3 rfl
      refine bodyPost_ret (v := .tuple #[.agg #[.int .u64 (x : Nat), .int .i64 3, .int .u64 (s : Nat), .bool true], (.agg #[.int .i64 c.t, .int .i64 c.s, .int .i64 c.k, .int .i64 c.g, .int .u64 c.q, (.slice (some ⟨g', 0, none⟩) c.n cg'), .int .i64 M.cnt, .int .i64 M.l.kind, .int .i64 M.l.a, .int .i64 M.l.b, .int .u64 (M.l.old : Nat), .int .u64 (M.l.new : Nat), .bool M.l.done])]) (by simp [results, Try.results45, go_sem, hZ.cell 0 _ rfl, hZ.cell 1 _ rfl, hZ.cell 2 _ rfl, hZ.cell 3 _ rfl, hY.cell 0 _ rfl, hY.cell 1 _ rfl, hY.cell 2 _ rfl, hY.cell 3 _ rfl, hY.cell 4 _ rfl, hY.cell 5 _ rfl, hY.cell 6 _ rfl, hY.cell 7 _ rfl, hY.cell 8 _ rfl, hY.cell 9 _ rfl, hY.cell 10 _ rfl, hY.cell 11 _ rfl, hY.cell 12 _ rfl]) rfl ?_
      exact ⟨g', cg', rfl, q1, q2, hFr, unhide HW2, hS.getE 0 rfl, hS.bel⟩

end Go.Proofs.Ytkiaogbddfjkkaa

/-
  The document's help: a step, of whatever step.
-/
namespace Go.Proofs.Ytkiaogbddfjkkaa
set_option maxRecDepth 100000
open Go.RowKit Go.Sort

theorem rStep8_any (w : World) (c : Um.Cf) (h H : Um.Hs) (x : Nat) (hH : H = Um.hstep c x h) (z : Int) (hz : h.nx < 4 → z = (h.nx : Nat)) (g cg : Nat) (hx : Um.Word x) (ho : HOk c h) (hB : BlkAt w g (rowW h.m.ws c.n)) (hr : c.r = true) (h1 : c.n ≤ cg) (h2 : cg ≤ maxLen) :
    Calls Try.prog 45 #[.agg #[.int .u64 (x : Nat), .int .i64 z, .int .u64 (h.s : Nat), .bool (decide (h.nx = 4))], (.agg #[.int .i64 c.t, .int .i64 c.s, .int .i64 c.k, .int .i64 c.g, .int .u64 c.q, (.slice (some ⟨g, 0, none⟩) c.n cg), .int .i64 h.m.cnt, .int .i64 h.m.l.kind, .int .i64 h.m.l.a, .int .i64 h.m.l.b, .int .u64 (h.m.l.old : Nat), .int .u64 (h.m.l.new : Nat), .bool h.m.l.done])] w fun r w' => ∃ g' cg' z', r = .returned (.tuple #[.agg #[.int .u64 (x : Nat), .int .i64 z', .int .u64 (H.s : Nat), .bool (decide (H.nx = 4))], (.agg #[.int .i64 c.t, .int .i64 c.s, .int .i64 c.k, .int .i64 c.g, .int .u64 c.q, (.slice (some ⟨g', 0, none⟩) c.n cg'), .int .i64 H.m.cnt, .int .i64 H.m.l.kind, .int .i64 H.m.l.a, .int .i64 H.m.l.b, .int .u64 (H.m.l.old : Nat), .int .u64 (H.m.l.new : Nat), .bool H.m.l.done])]) ∧ (H.nx < 4 → z' = (H.nx : Nat)) ∧ c.n ≤ cg' ∧ cg' ≤ maxLen ∧ Fr w g g' ∧ BlkAt w' g' (rowW H.m.ws c.n) ∧ Below w.heap.size w w' := by
  obtain ⟨hw, hs, hn⟩ := ho
  obtain ⟨m, nx, s⟩ := h
  dsimp only at *
  match nx, hn with
  | 0, _ =>
    have e0 : H = ⟨Um.mtouch c m 3 6 (Um.penN x) 0 (Um.seqN x), 1, s⟩ := hH
    subst e0
    obtain rfl : z = 0 := hz (by decide)
    refine (rStep8_0 w c m _ g cg x s hx hs hB hr hw h1 h2 rfl).mono ?_
    rintro r w' ⟨g', cg', rfl, q1, q2, hFr, _, hGb, hb⟩
    exact ⟨g', cg', 1, rfl, fun _ => rfl, q1, q2, hFr, hGb, hb⟩
  | 1, _ =>
    have e0 : H = ⟨Um.mtouch c m 1 4 (Um.penN x) 0 0, if Um.stN (Um.mtouch c m 1 4 (Um.penN x) 0 0).l.old = 3 then 2 else 3, (Um.mtouch c m 1 4 (Um.penN x) 0 0).l.old⟩ := hH
    obtain rfl : z = 1 := hz (by decide)
    by_cases h3 : Um.stN (Um.mtouch c m 1 4 (Um.penN x) 0 0).l.old = 3
    · rw [if_pos h3] at e0
      subst e0
      refine (rStep8_1a w c m _ g cg x s h3 hx hs hB hr hw h1 h2 rfl).mono ?_
      rintro r w' ⟨g', cg', rfl, q1, q2, hFr, _, hGb, hb⟩
      exact ⟨g', cg', 2, rfl, fun _ => rfl, q1, q2, hFr, hGb, hb⟩
    · rw [if_neg h3] at e0
      subst e0
      refine (rStep8_1b w c m _ g cg x s h3 hx hs hB hr hw h1 h2 rfl).mono ?_
      rintro r w' ⟨g', cg', rfl, q1, q2, hFr, _, hGb, hb⟩
      exact ⟨g', cg', 3, rfl, fun _ => rfl, q1, q2, hFr, hGb, hb⟩
  | 2, _ =>
    have e0 : H = ⟨Um.mtouch c m 3 4 (Um.penN x) s (Um.comN s), cond (Um.mtouch c m 3 4 (Um.penN x) s (Um.comN s)).l.done 3 1, s⟩ := hH
    obtain rfl : z = 2 := hz (by decide)
    cases hd : (Um.mtouch c m 3 4 (Um.penN x) s (Um.comN s)).l.done with
    | true =>
      rw [hd, cond_true] at e0
      subst e0
      refine (rStep8_2 w c m _ g cg x s 3 (by rw [hd]; rfl) hx hs hB hr hw h1 h2 rfl).mono ?_
      rintro r w' ⟨g', cg', rfl, q1, q2, hFr, _, hGb, hb⟩
      exact ⟨g', cg', 3, rfl, fun _ => rfl, q1, q2, hFr, hGb, hb⟩
    | false =>
      rw [hd, cond_false] at e0
      subst e0
      refine (rStep8_2 w c m _ g cg x s 1 (by rw [hd]; rfl) hx hs hB hr hw h1 h2 rfl).mono ?_
      rintro r w' ⟨g', cg', rfl, q1, q2, hFr, _, hGb, hb⟩
      exact ⟨g', cg', 1, rfl, fun _ => rfl, q1, q2, hFr, hGb, hb⟩
  | 3, _ =>
    have e0 : H = ⟨Um.mtouch c m 3 1 0 x (Um.setlN x), 4, s⟩ := hH
    subst e0
    obtain rfl : z = 3 := hz (by decide)
    refine (rStep8_3 w c m _ g cg x s hx hs hB hr hw h1 h2 rfl).mono ?_
    rintro r w' ⟨g', cg', rfl, q1, q2, hFr, _, hGb, hb⟩
    exact ⟨g', cg', 3, rfl, fun h => absurd (show 4 < 4 from h) (by decide), q1, q2, hFr, hGb, hb⟩
  | 4, _ =>
    have e0 : H = ⟨m, 4, s⟩ := hH
    subst e0
    refine (rStep8_done w c m g cg x s z hx hs hB hr hw h1 h2).mono ?_
    rintro r w' ⟨g', cg', rfl, q1, q2, hFr, _, hGb, hb⟩
    exact ⟨g', cg', z, rfl, fun h => absurd (show 4 < 4 from h) (by decide), q1, q2, hFr, hGb, hb⟩

end Go.Proofs.Ytkiaogbddfjkkaa

/-
  Plain arithmetic of layer 4's words: no Go in sight.
-/
namespace Um
set_option maxRecDepth 100000

/-- The slot, and the generation, that a ticket may have and that is nearest to any. -/
def nearS (a : Int) : Int := min (max a 0) 11
def nearG (a : Int) : Int := min (max a 0) 1073741823

/-- The parts of a word. -/
def tsN (x : Nat) : Int := (x % 16 : Nat) - 1
def tgN (x : Nat) : Int := (min (x / 16) 1073741824 : Nat)

/-- A slot and a generation that have a ticket, and that ticket; 0, if there is none. -/
def mok (s g : Int) : Bool := decide (0 ≤ s ∧ s ≤ 11 ∧ 0 ≤ g ∧ g ≤ 1073741823)
def mkN (s g : Int) : Nat := if mok s g then (16 * g + s + 1).toNat else 0

/-- A word that has a slot, and that slot; 0, if there is none. -/
def sok (x : Nat) : Bool := decide (0 ≤ tsN x ∧ tsN x ≤ 11)
def svN (x : Nat) : Int := if sok x then tsN x else 0

/-- A word that names one of n slots, and what it names; zeros, if it names none. -/
def ook (x : Nat) (n : Int) : Bool := decide (0 ≤ tsN x ∧ tsN x ≤ 11 ∧ tgN x ≤ 1073741823 ∧ tsN x < n)
def osN (x : Nat) (n : Int) : Int := if ook x n then tsN x else 0
def ogN (x : Nat) (n : Int) : Int := if ook x n then tgN x else 0

theorem ts_bd (x : Nat) : -1 ≤ tsN x ∧ tsN x ≤ 14 := by unfold tsN; omega
theorem tg_bd (x : Nat) : 0 ≤ tgN x ∧ tgN x ≤ 1073741824 := by unfold tgN; omega

theorem mok_iff {s g : Int} : mok s g = true ↔ 0 ≤ s ∧ s ≤ 11 ∧ 0 ≤ g ∧ g ≤ 1073741823 := by unfold mok; simp
theorem mok_no {s g : Int} : mok s g = false ↔ ¬ (0 ≤ s ∧ s ≤ 11 ∧ 0 ≤ g ∧ g ≤ 1073741823) := by unfold mok; simp
theorem mk_yes {s g : Int} (h : mok s g = true) : mkN s g = (16 * g + s + 1).toNat := by unfold mkN; rw [if_pos h]
theorem mk_no {s g : Int} (h : mok s g = false) : mkN s g = 0 := by unfold mkN; rw [h]; rfl
theorem sok_iff {x : Nat} : sok x = true ↔ 0 ≤ tsN x ∧ tsN x ≤ 11 := by unfold sok; simp
theorem sok_no {x : Nat} : sok x = false ↔ ¬ (0 ≤ tsN x ∧ tsN x ≤ 11) := by unfold sok; simp
theorem sv_yes {x : Nat} (h : sok x = true) : svN x = tsN x := by unfold svN; rw [if_pos h]
theorem sv_no {x : Nat} (h : sok x = false) : svN x = 0 := by unfold svN; rw [h]; rfl
theorem ook_iff {x : Nat} {n : Int} : ook x n = true ↔ 0 ≤ tsN x ∧ tsN x ≤ 11 ∧ tgN x ≤ 1073741823 ∧ tsN x < n := by unfold ook; simp
theorem ook_no {x : Nat} {n : Int} : ook x n = false ↔ ¬ (0 ≤ tsN x ∧ tsN x ≤ 11 ∧ tgN x ≤ 1073741823 ∧ tsN x < n) := by unfold ook; simp
theorem os_yes {x : Nat} {n : Int} (h : ook x n = true) : osN x n = tsN x := by unfold osN; rw [if_pos h]
theorem os_no {x : Nat} {n : Int} (h : ook x n = false) : osN x n = 0 := by unfold osN; rw [h]; rfl
theorem og_yes {x : Nat} {n : Int} (h : ook x n = true) : ogN x n = tgN x := by unfold ogN; rw [if_pos h]
theorem og_no {x : Nat} {n : Int} (h : ook x n = false) : ogN x n = 0 := by unfold ogN; rw [h]; rfl

theorem near_mok {s g : Int} : decide (s = nearS s ∧ g = nearG g) = mok s g := by
  unfold mok nearS nearG
  rw [Bool.eq_iff_iff, decide_eq_true_iff, decide_eq_true_iff]
  omega

theorem near_sok {x : Nat} : decide (tsN x = nearS (tsN x) ∧ (0 : Int) = nearG 0) = sok x := by
  unfold sok nearS nearG
  rw [Bool.eq_iff_iff, decide_eq_true_iff, decide_eq_true_iff]
  omega

theorem near_ook {x : Nat} : decide (tsN x = nearS (tsN x) ∧ tgN x = nearG (tgN x)) = decide (0 ≤ tsN x ∧ tsN x ≤ 11 ∧ tgN x ≤ 1073741823) := by
  have := tg_bd x
  unfold nearS nearG
  rw [Bool.eq_iff_iff, decide_eq_true_iff, decide_eq_true_iff]
  omega

theorem mk_word (s g : Int) : Word (mkN s g) := by
  unfold Word
  cases h : mok s g
  · rw [mk_no h]; omega
  · rw [mk_yes h]; have := mok_iff.1 h; omega

theorem mk_ts {s g : Int} (h : mok s g = true) : tsN (mkN s g) = s := by
  unfold tsN; rw [mk_yes h]; have := mok_iff.1 h; omega

theorem mk_tg {s g : Int} (h : mok s g = true) : tgN (mkN s g) = g := by
  unfold tgN; rw [mk_yes h]; have := mok_iff.1 h; omega

theorem mk_sok {s g : Int} (h : mok s g = true) : sok (mkN s g) = true := by
  rw [sok_iff, mk_ts h]; have := mok_iff.1 h; omega

theorem mk_inj {s t g r : Int} (h : mok s g = true) (h' : mok t r = true) : mkN s g = mkN t r ↔ s = t ∧ g = r := by
  rw [mk_yes h, mk_yes h']
  have := mok_iff.1 h
  have := mok_iff.1 h'
  omega

/-- What a word names is its ticket. -/
theorem ook_mk {x : Nat} {n : Int} (h : ook x n = true) : mok (tsN x) (tgN x) = true ∧ mkN (tsN x) (tgN x) = x := by
  have h1 := ook_iff.1 h
  have h2 := tg_bd x
  have h3 : mok (tsN x) (tgN x) = true := mok_iff.2 (by omega)
  refine ⟨h3, ?_⟩
  rw [mk_yes h3]
  unfold tsN tgN at *
  omega

/-- A multiple of 16 and four bits more: or is plus. -/
theorem or_sixteen (s k : Nat) (h : k < 16) : k ||| (16 * s) = 16 * s + k := by
  have := Nat.two_pow_add_eq_or_of_lt (i := 4) (b := k) (by omega) s
  rw [show (2 : Nat) ^ 4 = 16 by decide] at this
  rw [Nat.or_comm]
  exact this.symm

/-- The ticket of the next generation is 16 more. -/
theorem mk_next {s g : Int} (h : mok s g = true) (h' : g < 1073741823) : mok s (g + 1) = true ∧ mkN s (g + 1) = mkN s g + 16 := by
  have h1 := mok_iff.1 h
  have h2 : mok s (g + 1) = true := mok_iff.2 (by omega)
  refine ⟨h2, ?_⟩
  rw [mk_yes h, mk_yes h2]
  omega

theorem greater_cases (x : Nat) {lo hi : Int} (h : lo ≤ hi) :
    (ook x lo = false ∧ ook x hi = false ∧ True) ∨ (ook x lo = true ∧ ook x hi = true ∧ tsN x < lo) ∨ (ook x lo = false ∧ ook x hi = true ∧ lo ≤ tsN x) := by
  cases h1 : ook x lo
  · cases h2 : ook x hi
    · exact .inl ⟨rfl, rfl, trivial⟩
    · have := ook_iff.1 h2
      have := ook_no.1 h1
      exact .inr (.inr ⟨rfl, rfl, by omega⟩)
  · have h3 := ook_iff.1 h1
    have h2 : ook x hi = true := ook_iff.2 (by omega)
    exact .inr (.inl ⟨rfl, h2, by omega⟩)

end Um

/-
  Plain arithmetic of layer 9: a transaction that is begun. No Go in sight.
-/
namespace Um
set_option maxRecDepth 100000

/-- a status word's generation -/
def gnN (x : Nat) : Nat := part x 30 32

/-- a beginning over a memory: the memory, its slot, its next step (0 look, 1 take, 2 tally, 3 help, 4 note, 5 start, 6: it is done), what it looked at, how many commits there were, its help (its word, its next step, what that looked at), what it tells -/
structure Os where
  m : Mm
  sl : Int
  nx : Nat
  s : Nat
  q : Nat
  w : Nat
  hn : Nat
  hs : Nat
  te : Int
  th : Nat
  tn : Nat

/-- to the next slot -/
def ogo (c : Cf) (o : Os) (M : Mm) (s : Nat) : Os :=
  if c.s ≤ o.sl + 1 then ⟨M, o.sl + 1, 6, s, o.q, o.w, o.hn, o.hs, 6, 0, 0⟩ else ⟨M, o.sl + 1, 0, s, o.q, o.w, o.hn, o.hs, o.te, o.th, o.tn⟩

/-- may the slot of this status be got -/
def frN (c : Cf) (x : Nat) : Bool := decide (stN x = 0 ∧ ((gnN x : Nat) : Int) ≤ c.g)

/-- a beginning's step -/
def ostep (c : Cf) (o : Os) : Os :=
  if o.nx = 0 then
    (if frN c (mtouch c o.m 1 4 o.sl 0 0).l.old then ⟨mtouch c o.m 1 4 o.sl 0 0, o.sl, 1, (mtouch c o.m 1 4 o.sl 0 0).l.old, o.q, o.w, o.hn, o.hs, o.te, o.th, o.tn⟩
      else ogo c o (mtouch c o.m 1 4 o.sl 0 0) (mtouch c o.m 1 4 o.sl 0 0).l.old)
  else if o.nx = 1 then
    (if (mtouch c o.m 3 4 o.sl o.s (moveN o.s 1 false)).l.done then ⟨mtouch c o.m 3 4 o.sl o.s (moveN o.s 1 false), o.sl, 2, o.s, o.q, o.w, o.hn, o.hs, o.te, o.th, o.tn⟩
      else ogo c o (mtouch c o.m 3 4 o.sl o.s (moveN o.s 1 false)) o.s)
  else if o.nx = 2 then
    (if 0 ≤ penN (mtouch c o.m 1 1 0 0 0).l.old then ⟨mtouch c o.m 1 1 0 0 0, o.sl, 3, o.s, seqN (mtouch c o.m 1 1 0 0 0).l.old, (mtouch c o.m 1 1 0 0 0).l.old, 0, 0, o.te, o.th, o.tn⟩
      else ⟨mtouch c o.m 1 1 0 0 0, o.sl, 4, o.s, seqN (mtouch c o.m 1 1 0 0 0).l.old, o.w, o.hn, o.hs, o.te, o.th, o.tn⟩)
  else if o.nx = 3 then
    ⟨(hstep c o.w ⟨o.m, o.hn, o.hs⟩).m, o.sl, if (hstep c o.w ⟨o.m, o.hn, o.hs⟩).nx = 4 then 2 else 3, o.s, o.q, o.w, (hstep c o.w ⟨o.m, o.hn, o.hs⟩).nx, (hstep c o.w ⟨o.m, o.hn, o.hs⟩).s, o.te, o.th, o.tn⟩
  else if o.nx = 4 then ⟨mtouch c o.m 2 5 o.sl 0 o.q, o.sl, 5, o.s, o.q, o.w, o.hn, o.hs, o.te, o.th, o.tn⟩
  else if o.nx = 5 then ⟨mtouch c o.m 2 4 o.sl 0 (moveN o.s 2 false), o.sl, 6, o.s, o.q, o.w, o.hn, o.hs, 0, mkN o.sl (gnN o.s), o.q⟩
  else o

/-- so many steps -/
def oit (c : Cf) (o : Os) : Nat → Os
  | 0 => o
  | k + 1 => ostep c (oit c o k)

/-- words, and a slot that there is, or the one behind -/
structure Ook (c : Cf) (o : Os) : Prop where
  wd : ∀ i, i < c.n → Word (o.m.ws i)
  s : Word o.s
  q : Word o.q
  w : Word o.w
  hs : Word o.hs
  hn : o.hn ≤ 4
  nx : o.nx ≤ 6
  sl0 : 0 ≤ o.sl
  sl1 : o.sl ≤ c.s
  th : Word o.th
  tn : Word o.tn
  sl : o.nx < 6 → o.sl < c.s

theorem zero_word : Word 0 := by unfold Word; decide

theorem ogo_ok {c : Cf} {o : Os} (h : Ook c o) (hn : o.nx < 6) {M : Mm} {s : Nat} (hM : ∀ i, i < c.n → Word (M.ws i)) (hs : Word s) : Ook c (ogo c o M s) := by
  have := h.sl hn
  have := h.sl0
  unfold ogo
  split
  · exact ⟨hM, hs, h.q, h.w, h.hs, h.hn, (show 6 ≤ 6 by decide), (show 0 ≤ o.sl + 1 by omega), (show o.sl + 1 ≤ c.s by omega), zero_word, zero_word, (fun q => absurd (show 6 < 6 from q) (by decide))⟩
  · exact ⟨hM, hs, h.q, h.w, h.hs, h.hn, (show 0 ≤ 6 by decide), (show 0 ≤ o.sl + 1 by omega), (show o.sl + 1 ≤ c.s by omega), h.th, h.tn, (fun _ => show o.sl + 1 < c.s by omega)⟩

theorem ostep_ok {c : Cf} {o : Os} (h : Ook c o) : Ook c (ostep c o) := by
  have hld : ∀ a b, (∀ i, i < c.n → Word ((mtouch c o.m 1 a b 0 0).ws i)) := fun a b => word_touch h.wd zero_word
  have hlo : ∀ a b, Word (mtouch c o.m 1 a b 0 0).l.old := fun a b => old_word h.wd
  unfold ostep
  split
  · rename_i e0
    have h0 := h.sl (by omega)
    split
    · exact ⟨hld _ _, hlo _ _, h.q, h.w, h.hs, h.hn, (show 1 ≤ 6 by decide), h.sl0, h.sl1, h.th, h.tn, fun _ => h0⟩
    · exact ogo_ok h (by omega) (hld _ _) (hlo _ _)
  split
  · rename_i e0 e1
    have h0 := h.sl (by omega)
    have hw : ∀ i, i < c.n → Word ((mtouch c o.m 3 4 o.sl o.s (moveN o.s 1 false)).ws i) := word_touch h.wd (move_word h.s (by decide))
    split
    · exact ⟨hw, h.s, h.q, h.w, h.hs, h.hn, (show 2 ≤ 6 by decide), h.sl0, h.sl1, h.th, h.tn, fun _ => h0⟩
    · exact ogo_ok h (by omega) hw h.s
  split
  · rename_i e0 e1 e2
    have h0 := h.sl (by omega)
    split
    · exact ⟨hld _ _, h.s, seq_isword (hlo _ _), hlo _ _, zero_word, (show 0 ≤ 4 by decide), (show 3 ≤ 6 by decide), h.sl0, h.sl1, h.th, h.tn, fun _ => h0⟩
    · exact ⟨hld _ _, h.s, seq_isword (hlo _ _), h.w, h.hs, h.hn, (show 4 ≤ 6 by decide), h.sl0, h.sl1, h.th, h.tn, fun _ => h0⟩
  split
  · rename_i e0 e1 e2 e3
    have h0 := h.sl (by omega)
    have hw := hstep_words (c := c) (h := ⟨o.m, o.hn, o.hs⟩) h.w h.hs h.wd
    refine ⟨hw.1, h.s, h.q, h.w, hw.2, hstep_nx (h := ⟨o.m, o.hn, o.hs⟩) h.hn, ?_, h.sl0, h.sl1, h.th, h.tn, fun _ => h0⟩
    show (if _ then 2 else 3) ≤ 6
    split <;> decide
  split
  · rename_i e0 e1 e2 e3 e4
    have h0 := h.sl (by omega)
    exact ⟨word_touch h.wd h.q, h.s, h.q, h.w, h.hs, h.hn, (show 5 ≤ 6 by decide), h.sl0, h.sl1, h.th, h.tn, fun _ => h0⟩
  split
  · exact ⟨word_touch h.wd (move_word h.s (by decide)), h.s, h.q, h.w, h.hs, h.hn, (show 6 ≤ 6 by decide), h.sl0, h.sl1, mk_word _ _, h.q, (fun q => absurd (show 6 < 6 from q) (by decide))⟩
  · exact h

theorem oit_ok {c : Cf} {o : Os} (h : Ook c o) (k : Nat) : Ook c (oit c o k) := by
  induction k with
  | zero => exact h
  | succ k ih => exact ostep_ok ih

theorem ostep_6 {c : Cf} {o : Os} (h : o.nx = 6) : ostep c o = o := by
  unfold ostep
  rw [if_neg (by omega), if_neg (by omega), if_neg (by omega), if_neg (by omega), if_neg (by omega), if_neg (by omega)]

theorem oit_done {c : Cf} {o : Os} {q : Nat} (hn : (oit c o q).nx = 6) {k : Nat} (hk : q ≤ k) : oit c o k = oit c o q := by
  obtain ⟨d, rfl⟩ : ∃ d, k = q + d := ⟨k - q, by omega⟩
  clear hk
  induction d with
  | zero => rfl
  | succ d ih =>
    show ostep c (oit c o (q + d)) = _
    rw [ih]
    exact ostep_6 hn

end Um

/-
  The walks of layer 4's row of functions, and of what is told by it.
-/
namespace Go.Proofs.Ytkiaogbddfjkkaa
set_option maxRecDepth 100000
open Go.RowKit Go.Sort

set_option maxHeartbeats 400000 in
theorem row1_any (n : Int) (w : World) (h0 : 0 ≤ n) (h1 : n ≤ 11) :
    Calls Try.prog 100 #[.int .i64 n] w fun e w' => e = .returned (.int .u64 (n + 1)) ∧ w' = w := by
  go_enter Try.func100, Try.ntmps100
  go_wp2
  go_ret
  exact ⟨ret_u64 (by omega), rfl⟩

set_option maxHeartbeats 400000 in
theorem row2_any (x : Nat) (w : World) (hx : Um.Word x) :
    Calls Try.prog 101 #[.int .u64 x] w fun e w' => e = .returned (.int .i64 (Um.tsN x)) ∧ w' = w := by
  have hb : bits .and .u64 (x : Int) 15 = ((x % 16 : Nat) : Int) := by
    rw [show (15 : Int) = ((15 : Nat) : Int) from rfl, u64_and_nat _ _ hx (by decide)]
    have := Um.and_mask x 4
    rw [show (2 : Nat) ^ 4 - 1 = 15 by decide, show (2 : Nat) ^ 4 = 16 by decide] at this
    rw [this]
  go_enter Try.func101, Try.ntmps101
  go_wp2
  go_ret
  refine ⟨ret_i64 ?_, rfl⟩
  unfold Um.tsN
  omega

set_option maxHeartbeats 400000 in
theorem row3_any (n : Int) (w : World) :
    Calls Try.prog 102 #[.int .i64 n] w fun e w' => e = .returned (.int .i64 (Um.nearS n)) ∧ w' = w := by
  go_enter Try.func102, Try.ntmps102
  go_wp2
  all_goals go_ret
  all_goals refine ⟨ret_i64 ?_, rfl⟩
  all_goals unfold Um.nearS
  all_goals omega

set_option maxHeartbeats 400000 in
theorem row4_any (n : Int) (w : World) (h0 : 0 ≤ n) (h1 : n ≤ 1073741823) :
    Calls Try.prog 103 #[.int .i64 n] w fun e w' => e = .returned (.int .u64 (16 * n)) ∧ w' = w := by
  go_enter Try.func103, Try.ntmps103
  go_wp2
  go_ret
  refine ⟨ret_u64 ?_, rfl⟩
  omega

set_option maxHeartbeats 400000 in
theorem row5_any (x : Nat) (w : World) (hx : Um.Word x) :
    Calls Try.prog 104 #[.int .u64 x] w fun e w' => e = .returned (.int .i64 (Um.tgN x)) ∧ w' = w := by
  unfold Um.Word at hx
  go_enter Try.func104, Try.ntmps104
  go_wp2
  all_goals go_ret
  all_goals refine ⟨ret_i64 ?_, rfl⟩
  all_goals unfold Um.tgN
  all_goals omega

set_option maxHeartbeats 400000 in
theorem row6_any (n : Int) (w : World) :
    Calls Try.prog 105 #[.int .i64 n] w fun e w' => e = .returned (.int .i64 (Um.nearG n)) ∧ w' = w := by
  go_enter Try.func105, Try.ntmps105
  go_wp2
  all_goals go_ret
  all_goals refine ⟨ret_i64 ?_, rfl⟩
  all_goals unfold Um.nearG
  all_goals omega

set_option maxHeartbeats 400000 in
theorem trow_any (w : World) :
    Calls Try.prog 99 #[] w fun e w' => e = .returned (.agg #[.func (.func 100) #[] #[], .func (.func 101) #[] #[], .func (.func 102) #[] #[], .func (.func 103) #[] #[], .func (.func 104) #[] #[], .func (.func 105) #[] #[]]) ∧ Below w.heap.size w w' := by
  go_enter Try.func99, Try.ntmps99
  go_wp2
  refine bodyPost_ret (v := .agg #[.func (.func 100) #[] #[], .func (.func 101) #[] #[], .func (.func 102) #[] #[], .func (.func 103) #[] #[], .func (.func 104) #[] #[], .func (.func 105) #[] #[]]) (by simp [results, Try.results99, go_sem]) rfl ⟨rfl, ?_⟩
  exact (Below.refl _ _).alloc (Nat.le_refl _) _

theorem index_row0 (a0 a1 a2 a3 a4 a5 : Value) (w : World) : Sem.run Try.prog (Instr.index 151 (.agg #[a0, a1, a2, a3, a4, a5]) (.int .i64 0)) w = .ok (.agg #[a0, a1, a2]) w := by
  simp [Instr.index, go_sem]

theorem index_row1 (a0 a1 a2 a3 a4 a5 : Value) (w : World) : Sem.run Try.prog (Instr.index 151 (.agg #[a0, a1, a2, a3, a4, a5]) (.int .i64 1)) w = .ok (.agg #[a3, a4, a5]) w := by
  simp [Instr.index, go_sem]

attribute [local go_sem] index_row0 index_row1

set_option maxHeartbeats 2000000 in
theorem near_any (a b : Int) (w : World) :
    Calls Try.prog 98 #[.agg #[.int .i64 a, .int .i64 b]] w fun e w' => e = .returned (.agg #[.int .i64 (Um.nearS a), .int .i64 (Um.nearG b)]) ∧ Below w.heap.size w w' := by
  go_enter Try.func98, Try.ntmps98
  go_wp2_with fail
  refine (trow_any _).mono ?_
  rintro e w1 ⟨rfl, hb1⟩
  obtain ⟨hc1, hf1⟩ := bcell hb1
  have hz1 : w.heap.size + 1 < w1.heap.size := by have := hb1.size; simp at this; omega
  have hz0 : w.heap.size < w1.heap.size := by omega
  have hB1 : Below w.heap.size w w1 := (((Below.refl w.heap.size w).alloc (Nat.le_refl _) _).alloc (by simp) _).trans (hb1.mono (by simp; omega))
  have hz : w.heap.size < w.heap.size + 2 := by omega
  have c00 : w1.cell? ⟨w.heap.size, 0, none⟩ = some (.int .i64 a) := by go_simp
  have f00 : w1.frozen? ⟨w.heap.size, 0, none⟩ = false := by go_simp
  have c01 : w1.cell? ⟨w.heap.size, 1, none⟩ = some (.int .i64 b) := by go_simp
  have f01 : w1.frozen? ⟨w.heap.size, 1, none⟩ = false := by go_simp
  have c10 : w1.cell? ⟨w.heap.size + 1, 0, none⟩ = some (.int .i64 0) := by go_simp
  have f10 : w1.frozen? ⟨w.heap.size + 1, 0, none⟩ = false := by go_simp
  have c11 : w1.cell? ⟨w.heap.size + 1, 1, none⟩ = some (.int .i64 0) := by go_simp
  have f11 : w1.frozen? ⟨w.heap.size + 1, 1, none⟩ = false := by go_simp
  clear hc1 hf1 hb1 hz
  go_wp2_with fail
  go_loopw [6] (fun i wr => ∃ (k : Nat) (a' b' : Int), ((k = 0 ∧ a' = a ∧ b' = b) ∨ (k = 1 ∧ a' = Um.nearS a ∧ b' = b) ∨ (k = 2 ∧ a' = Um.nearS a ∧ b' = Um.nearG b)) ∧ i = .int .i64 k ∧ Below w.heap.size w wr ∧ w.heap.size + 1 < wr.heap.size ∧
    wr.cell? ⟨w.heap.size, 0, none⟩ = some (.int .i64 a') ∧ wr.cell? ⟨w.heap.size, 1, none⟩ = some (.int .i64 b') ∧ wr.cell? ⟨w.heap.size + 1, 0, none⟩ = some (.int .i64 0) ∧ wr.cell? ⟨w.heap.size + 1, 1, none⟩ = some (.int .i64 0) ∧
    wr.frozen? ⟨w.heap.size, 0, none⟩ = false ∧ wr.frozen? ⟨w.heap.size, 1, none⟩ = false ∧ wr.frozen? ⟨w.heap.size + 1, 0, none⟩ = false ∧ wr.frozen? ⟨w.heap.size + 1, 1, none⟩ = false) (fun i _ => 2 - (intOf i).toNat)
  case atStart => exact ⟨0, a, b, .inl ⟨rfl, rfl, rfl⟩, rfl, hB1, hz1, c00, c01, c10, c11, f00, f01, f10, f11⟩
  case round =>
    rename_i wr
    clear c00 c01 c10 c11 f00 f01 f10 f11 hB1 hz1 hz0
    obtain ⟨k, a', b', hcase, rfl, hB, hz1, c00, c01, c10, c11, f00, f01, f10, f11⟩ := hrel
    have hz0 : w.heap.size < wr.heap.size := by omega
    rcases hcase with ⟨rfl, rfl, rfl⟩ | ⟨rfl, rfl, rfl⟩ | ⟨rfl, rfl, rfl⟩
    · go_wp2_with fail
      go_region_with (go_at_call 102; refine (row3_any _ _).mono ?_; rintro e w' ⟨rfl, rfl⟩)
      all_goals
        go_wp2_with fail
        refine ⟨⟨1, _, _, .inr (.inl ⟨rfl, rfl, rfl⟩), rfl, ((hB.setCell (by simp) _).alloc (by simp; omega) _).drew, by simp; omega, by go_simp, by go_simp, by go_simp, by go_simp, by go_simp, by go_simp, by go_simp, by go_simp⟩, by simp [intOf]⟩
    · go_wp2_with fail
      go_region_with (go_at_call 105; refine (row6_any _ _).mono ?_; rintro e w' ⟨rfl, rfl⟩)
      all_goals
        go_wp2_with fail
        refine ⟨⟨2, _, _, .inr (.inr ⟨rfl, rfl, rfl⟩), rfl, ((hB.setCell (by simp) _).alloc (by simp; omega) _).drew, by simp; omega, by go_simp, by go_simp, by go_simp, by go_simp, by go_simp, by go_simp, by go_simp, by go_simp⟩, by simp [intOf]⟩
    · go_wp2
      generalize hW : World.setCell _ _ _ = W
      have hk0 : W.cell? ⟨w.heap.size + 1, 0, none⟩ = some (.int .i64 (Um.nearS a)) := by subst hW; go_simp
      have hk1 : W.cell? ⟨w.heap.size + 1, 1, none⟩ = some (.int .i64 (Um.nearG b)) := by subst hW; go_simp
      refine bodyPost_ret (v := .agg #[.int .i64 (Um.nearS a), .int .i64 (Um.nearG b)]) (by simp [results, Try.results98, go_sem, hk0, hk1]) rfl ⟨rfl, ?_⟩
      subst hW
      exact (hB.setCell (by simp) _).setCell (by simp) _

end Go.Proofs.Ytkiaogbddfjkkaa
