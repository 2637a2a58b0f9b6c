/-
  Texts that the laws stand on, merged (GateR).
-/
import Derived.Test.YtapgghciieloaaaGreatQ11
import Derived.Test.YtapgghciieloaaaGreatQ12
import Derived.Test.YtapgghciieloaaaGreatQ9

namespace Go.Proofs.YtapgghciieloaaaGreat
section
set_option maxRecDepth 100000
open Go.RowKit Go.Sort
theorem egSl10 (args : Array Value) (w : World) : (callFunc 93 args).run Tryz.prog w = .ok (.enter 93 args) w := by go_simp
theorem rPut26_x {bs : List Nat} {w0 w : World} {l e : List (Nat × List Value)} (hS : Sx bs w0 w l e) (x : Nat) (hx : Um.Word x) :
    Calls Tryz.prog 64 #[.int .u64 (x : Nat), .int .i64 26, .bool true] w fun r w' => r = .returned (.int .u64 (Um.bzN x : Nat)) ∧ Sx bs w0 w' l e :=
  (put_any x 26 true w hx (by decide) (by decide)).mono fun _ _ ⟨h1, h2⟩ => ⟨h1, h2 ▸ hS⟩
set_option maxHeartbeats 8000000 in
theorem rStep10_done (w : World) (c : Um.Cf) (m : Um.Mm) (g cg : Nat) (h s wd : Nat) (la : Option Addr) (nl cl : Nat) (er : Int) (tk en : Bool) (hh : Um.Word h) (hs : Um.Word s) (hd : (en || !Um.ook h c.s) = true) (hB : BlkAt w g (rowW m.ws c.n)) (hr : c.r = true) (hw : WordsOk c m) (h1 : c.n ≤ cg) (h2 : cg ≤ maxLen) :
    Calls Tryz.prog 47 #[.agg #[.int .u64 (h : Nat), .slice la nl cl, .bool tk, .int .u64 (s : Nat), .int .u64 (wd : Nat), .int .i64 er, .bool en], (.agg #[.int .i64 c.t, .int .i64 c.s, .int .i64 c.k, .int .i64 c.g, .int .u64 c.q, (.slice (some ⟨g, 0, none⟩) c.n cg), .int .i64 m.cnt, .int .i64 m.l.kind, .int .i64 m.l.a, .int .i64 m.l.b, .int .u64 (m.l.old : Nat), .int .u64 (m.l.new : Nat), .bool m.l.done])] w fun r w' => ∃ g' cg', r = .returned (.tuple #[.agg #[.int .u64 (h : Nat), .slice la nl cl, .bool tk, .int .u64 (s : Nat), .int .u64 (wd : Nat), .int .i64 er, .bool en], (.agg #[.int .i64 c.t, .int .i64 c.s, .int .i64 c.k, .int .i64 c.g, .int .u64 c.q, (.slice (some ⟨g', 0, none⟩) c.n cg'), .int .i64 m.cnt, .int .i64 m.l.kind, .int .i64 m.l.a, .int .i64 m.l.b, .int .u64 (m.l.old : Nat), .int .u64 (m.l.new : Nat), .bool m.l.done])]) ∧ c.n ≤ cg' ∧ cg' ≤ maxLen ∧ Fr w g g' ∧ WordsOk c m ∧ BlkAt w' g' (rowW m.ws c.n) ∧ Below w.heap.size w w' := by
  have hS := Sx.read1 hB
  have HH := hide hh
  have HSW := hide hs
  clear hh hs
  have HD := hide hd
  clear hd
  have HR := hide hr
  have HW := hide hw
  clear hB hr hw
  go_enter Tryz.func47, Tryz.ntmps47
  go_wp2_with (first | (refine ybox hS (h := ?_); clear hS; intro _ _ hS) | (refine yall hS (h := ?_); clear hS; intro _ _ hS) | refine yld hS (h := ?_) | (refine yst hS (h := ?_); clear hS; intro _ hS))
  refine (rDone10_any h s wd la nl cl tk en er c.s _ (unhide HH)).mono ?_
  rintro r u ⟨rfl, hb⟩
  replace hS := hS.call hb
  clear hb
  rw [show (en || !Um.ook h c.s) = true from unhide HD]
  go_wp2_with fail
  obtain ⟨OB, rfl⟩ := nameB hS 0 rfl
  obtain ⟨MB, rfl⟩ := nameB hS 1 rfl
  obtain ⟨R1, rfl⟩ := nameB hS 2 rfl
  obtain ⟨R2, rfl⟩ := nameB hS 3 rfl
  refine wp_ret2 hS 0 1 2 3 (hQ := ?_)
  · intro _ hS'
    clear hS
    have hS := hS'
    clear hS'
    dsimp only [List.set] at hS ⊢
    go_wp2
    have hZ := hS.get 2 rfl
    have hY := hS.get 3 rfl
    refine bodyPost_ret (v := .tuple #[.agg #[.int .u64 (h : Nat), .slice la nl cl, .bool tk, .int .u64 (s : Nat), .int .u64 (wd : Nat), .int .i64 er, .bool en], (.agg #[.int .i64 c.t, .int .i64 c.s, .int .i64 c.k, .int .i64 c.g, .int .u64 c.q, (.slice (some ⟨g, 0, none⟩) c.n cg), .int .i64 m.cnt, .int .i64 m.l.kind, .int .i64 m.l.a, .int .i64 m.l.b, .int .u64 (m.l.old : Nat), .int .u64 (m.l.new : Nat), .bool m.l.done])]) (by simp [results, Tryz.results47, go_sem, hZ.cell 0 _ rfl, hZ.cell 1 _ rfl, hZ.cell 2 _ rfl, hZ.cell 3 _ rfl, hZ.cell 4 _ rfl, hZ.cell 5 _ rfl, hZ.cell 6 _ rfl, hY.cell 0 _ rfl, hY.cell 1 _ rfl, hY.cell 2 _ rfl, hY.cell 3 _ rfl, hY.cell 4 _ rfl, hY.cell 5 _ rfl, hY.cell 6 _ rfl, hY.cell 7 _ rfl, hY.cell 8 _ rfl, hY.cell 9 _ rfl, hY.cell 10 _ rfl, hY.cell 11 _ rfl, hY.cell 12 _ rfl]) rfl ?_
    exact ⟨g, cg, rfl, h1, h2, .inl rfl, unhide HW, hS.getE 0 rfl, hS.bel⟩
set_option maxHeartbeats 8000000 in
theorem rStep10_look0 (w : World) (c : Um.Cf) (m M : Um.Mm) (g cg : Nat) (h s wd : Nat) (la : Option Addr) (nl cl : Nat) (er : Int) (hh : Um.Word h) (hs : Um.Word s) (Z : Nat → Int) (hn : Um.ook h c.s = true) (hnl : nl ≤ 50) (hZ : RowOf w la nl (fun i => .int .i64 (Z i))) (hf : Um.flN h (fun k => inZ Z nl ((k : Nat) : Int)) M.l.old = 0) (hB : BlkAt w g (rowW m.ws c.n)) (hr : c.r = true) (hw : WordsOk c m) (h1 : c.n ≤ cg) (h2 : cg ≤ maxLen) (hM : M = Um.mtouch c m 1 4 (Um.svN h) 0 0) :
    Calls Tryz.prog 47 #[.agg #[.int .u64 (h : Nat), .slice la nl cl, .bool false, .int .u64 (s : Nat), .int .u64 (wd : Nat), .int .i64 er, .bool false], (.agg #[.int .i64 c.t, .int .i64 c.s, .int .i64 c.k, .int .i64 c.g, .int .u64 c.q, (.slice (some ⟨g, 0, none⟩) c.n cg), .int .i64 m.cnt, .int .i64 m.l.kind, .int .i64 m.l.a, .int .i64 m.l.b, .int .u64 (m.l.old : Nat), .int .u64 (m.l.new : Nat), .bool m.l.done])] w fun r w' => ∃ g' cg', r = .returned (.tuple #[.agg #[.int .u64 (h : Nat), .slice la nl cl, .bool true, .int .u64 (M.l.old : Nat), .int .u64 (wd : Nat), .int .i64 0, .bool false], (.agg #[.int .i64 c.t, .int .i64 c.s, .int .i64 c.k, .int .i64 c.g, .int .u64 c.q, (.slice (some ⟨g', 0, none⟩) c.n cg'), .int .i64 M.cnt, .int .i64 M.l.kind, .int .i64 M.l.a, .int .i64 M.l.b, .int .u64 (M.l.old : Nat), .int .u64 (M.l.new : Nat), .bool M.l.done])]) ∧ c.n ≤ cg' ∧ cg' ≤ maxLen ∧ Fr w g g' ∧ WordsOk c M ∧ BlkAt w' g' (rowW M.ws c.n) ∧ Below w.heap.size w w' := by
  have hS := Sx.read1 hB
  have HH := hide hh
  have HSW := hide hs
  clear hh hs
  have HN := hide hn
  have HZ := hide hZ
  have HFE := hide hf
  clear hn hZ hf
  have HR := hide hr
  have HW := hide hw
  have HM := hide hM
  clear hB hr hw hM
  go_enter Tryz.func47, Tryz.ntmps47
  go_wp2_with (first | (refine ybox hS (h := ?_); clear hS; intro _ _ hS) | (refine yall hS (h := ?_); clear hS; intro _ _ hS) | refine yld hS (h := ?_) | (refine yst hS (h := ?_); clear hS; intro _ hS))
  refine (rDone10_any h s wd la nl cl false false er c.s _ (unhide HH)).mono ?_
  rintro r u ⟨rfl, hb⟩
  replace hS := hS.call hb
  clear hb
  rw [show (false || !Um.ook h c.s) = false by rw [unhide HN]; rfl]
  go_wp2_with (first | (refine ybox hS (h := ?_); clear hS; intro _ _ hS) | (refine yall hS (h := ?_); clear hS; intro _ _ hS) | refine yld hS (h := ?_) | (refine yst hS (h := ?_); clear hS; intro _ hS))
  obtain ⟨OB, rfl⟩ := nameB hS 0 rfl
  obtain ⟨MB, rfl⟩ := nameB hS 1 rfl
  obtain ⟨R1, rfl⟩ := nameB hS 2 rfl
  obtain ⟨R2, rfl⟩ := nameB hS 3 rfl
  refine wp_region_ogt (fun ts D ts' w' => ∃ (g' : Nat) (cg' : Nat) (NX : Nat), ts' = putS ts [(22, cond (D 0) (.agg #[.int .i64 c.t, .int .i64 c.s, .int .i64 c.k, .int .i64 c.g, .int .u64 c.q, (.slice (some ⟨g, 0, none⟩) c.n cg), .int .i64 m.cnt, .int .i64 m.l.kind, .int .i64 m.l.a, .int .i64 m.l.b, .int .u64 (m.l.old : Nat), .int .u64 (m.l.new : Nat), .bool m.l.done]) undef), (23, cond (D 1) (.agg #[.int .u64 (h : Nat), .slice la nl cl, .bool false, .int .u64 (s : Nat), .int .u64 (wd : Nat), .int .i64 er, .bool false]) undef), (24, cond (D 2) (.int .i64 (Um.svN h)) undef), (25, cond (D 3) (.tuple #[.agg #[.int .i64 c.t, .int .i64 c.s, .int .i64 c.k, .int .i64 c.g, .int .u64 c.q, (.slice (some ⟨g', 0, none⟩) c.n cg'), .int .i64 M.cnt, .int .i64 M.l.kind, .int .i64 M.l.a, .int .i64 M.l.b, .int .u64 (M.l.old : Nat), .int .u64 (M.l.new : Nat), .bool M.l.done], .int .u64 (M.l.old : Nat)]) undef), (21, cond (D 4) (.tuple #[.agg #[.int .i64 c.t, .int .i64 c.s, .int .i64 c.k, .int .i64 c.g, .int .u64 c.q, (.slice (some ⟨g', 0, none⟩) c.n cg'), .int .i64 M.cnt, .int .i64 M.l.kind, .int .i64 M.l.a, .int .i64 M.l.b, .int .u64 (M.l.old : Nat), .int .u64 (M.l.new : Nat), .bool M.l.done], .int .u64 (M.l.old : Nat)]) undef), (26, cond (D 5) (.agg #[.int .i64 c.t, .int .i64 c.s, .int .i64 c.k, .int .i64 c.g, .int .u64 c.q, (.slice (some ⟨g', 0, none⟩) c.n cg'), .int .i64 M.cnt, .int .i64 M.l.kind, .int .i64 M.l.a, .int .i64 M.l.b, .int .u64 (M.l.old : Nat), .int .u64 (M.l.new : Nat), .bool M.l.done]) undef), (27, cond (D 6) (.int .u64 (M.l.old : Nat)) undef), (6, cond (D 7) (.pointer (some ⟨NX, 0, none⟩)) undef), (7, cond (D 9) (.int .u64 (M.l.old : Nat)) undef)] ∧ (D 3 = true → c.n ≤ cg' ∧ cg' ≤ maxLen ∧ Fr w g g' ∧ WordsOk c M) ∧ (D 4 = true → D 3 = true) ∧ (D 5 = true → D 3 = true) ∧ (D 8 = true → D 3 = true) ∧ (D 8 = true → D 7 = true) ∧ Sx [] w w' ([(OB, [.int .u64 (h : Nat), .slice la nl cl, .bool false, .int .u64 (s : Nat), .int .u64 (wd : Nat), .int .i64 er, .bool false]), (MB, [.int .i64 c.t, .int .i64 c.s, .int .i64 c.k, .int .i64 c.g, .int .u64 c.q, (.slice (some ⟨g, 0, none⟩) c.n cg), .int .i64 m.cnt, .int .i64 m.l.kind, .int .i64 m.l.a, .int .i64 m.l.b, .int .u64 (m.l.old : Nat), .int .u64 (m.l.new : Nat), .bool m.l.done]), (R1, [.int .u64 0, .slice none 0 0, .bool false, .int .u64 0, .int .u64 0, .int .i64 0, .bool false]), (R2, [.int .i64 0, .int .i64 0, .int .i64 0, .int .i64 0, .int .u64 0, .slice none 0 0, .int .i64 0, .int .i64 0, .int .i64 0, .int .i64 0, .int .u64 0, .int .u64 0, .bool false])] ++ cond (D 7) [(NX, cond (D 8) [.int .i64 c.t, .int .i64 c.s, .int .i64 c.k, .int .i64 c.g, .int .u64 c.q, (.slice (some ⟨g', 0, none⟩) c.n cg'), .int .i64 M.cnt, .int .i64 M.l.kind, .int .i64 M.l.a, .int .i64 M.l.b, .int .u64 (M.l.old : Nat), .int .u64 (M.l.new : Nat), .bool M.l.done] [.int .i64 0, .int .i64 0, .int .i64 0, .int .i64 0, .int .u64 0, .slice none 0 0, .int .i64 0, .int .i64 0, .int .i64 0, .int .i64 0, .int .u64 0, .int .u64 0, .bool false])] []) [cond (D 3) (g', rowW M.ws c.n) (g, rowW m.ws c.n)]) (by kernel_rfl) (by kernel_rfl) ?start ?steps ?ends
  case start => exact ⟨0, 0, 0, rfl, (fun h => by cases h), (fun h => by cases h), (fun h => by cases h), (fun h => by cases h), (fun h => by cases h), hS.drew⟩
  case steps =>
   intro i o hi D ts' w' hD hpre hI
   obtain ⟨g', cg', NX, rfl, hc, hm, hx, hz, hA, hS⟩ := hI
   dsimp only [putS, List.set]
   match i, hi with
   | 0, hi =>
    cases hi
    refine wpOp_step rfl (fun K hK => ?_)
    refine stp_val rfl (by refine yif_load (S := fun q => q = w') rfl _ _ rfl _ _ rfl _ (fun _ h => h ▸ hS.get 1 rfl) _ (row_any2 rfl) (by exact rfl) _ (by dsimp only [cutL, List.drop, List.take]; first | done | exact rfl)) rfl ?_
    exact hK _ _ ⟨_, rfl, g', cg', NX, rfl, hc, hm, hx, hz, hA, hS⟩
   | 1, hi =>
    cases hi
    refine wpOp_step rfl (fun K hK => ?_)
    refine stp_val rfl (by refine yif_load (S := fun q => q = w') rfl _ _ rfl _ _ rfl _ (fun _ h => h ▸ hS.get 0 rfl) _ (row_any2 rfl) (by exact rfl) _ (by dsimp only [cutL, List.drop, List.take]; first | done | exact rfl)) rfl ?_
    exact hK _ _ ⟨_, rfl, g', cg', NX, rfl, hc, hm, hx, hz, hA, hS⟩
   | 2, hi =>
    cases hi
    have d1 : D 1 = true := og_pre hpre (by kernel_rfl)
    refine wpOp_step rfl (fun K hK => ?_)
    refine stp_call rfl _ _ _ rfl egSl10 _ (lst1_eq (cond_at d1 rfl)) _ rfl ?_
    refine (rSlot10_any h s wd la nl cl false false er _ (unhide HH)).mono ?_
    rintro r u ⟨rfl, hb⟩
    exact ⟨_, rfl, hK _ _ ⟨_, rfl, g', cg', NX, rfl, hc, hm, hx, hz, hA, hS.call hb⟩⟩
   | 3, hi =>
    cases hi
    have d0 : D 0 = true := og_pre hpre (by kernel_rfl)
    have d2 : D 2 = true := og_pre hpre (by kernel_rfl)
    refine wpOp_step rfl (fun K hK => ?_)
    refine stp_call rfl _ _ _ rfl egLd10 _ (lst3_eq (cond_at d0 rfl) rfl (cond_at d2 rfl)) _ rfl ?_
    have m0 := og_not hm hD
    have x0 := og_not hx hD
    have z0 := og_not hz hD
    rw [hD, cond_false] at hS
    have hSz := hS.size
    refine (rLoad_x hS 0 rfl (unhide HR) (unhide HW) h1 h2 4 (Um.svN h) M (unhide HM)).mono ?_
    rintro r u ⟨gn, cgn, rfl, q1, q2, hFr, hW2, hSn⟩
    rw [z0] at hSn
    refine ⟨_, rfl, hK _ _ ⟨_, (by simp only [m0, x0]; rfl), gn, cgn, NX, rfl, (fun _ => ⟨q1, q2, (Fr.refl w g).trans hFr hSz, hW2⟩), (fun _ => rfl), (fun _ => rfl), (fun _ => rfl), hA, ?_⟩⟩
    show Sx _ _ _ (_ ++ cond (D 7) [(_, cond (D 8) _ _)] _) _
    rw [z0]
    exact hSn
   | 4, hi =>
    cases hi
    have d3 : D 3 = true := og_pre hpre (by kernel_rfl)
    refine wpOp_step rfl (fun K hK => ?_)
    refine stp_val rfl (by exact yif_mv rfl (.tmp 25) rfl _ (cond_at d3 rfl)) rfl ?_
    exact hK _ _ ⟨_, rfl, g', cg', NX, rfl, hc, (fun _ => d3), hx, hz, hA, hS⟩
   | 5, hi =>
    cases hi
    have d4 : D 4 = true := og_pre hpre (by kernel_rfl)
    refine wpOp_step rfl (fun K hK => ?_)
    refine stp_val rfl (by refine yif_extract rfl (.tmp 21) 0 rfl [.agg #[.int .i64 c.t, .int .i64 c.s, .int .i64 c.k, .int .i64 c.g, .int .u64 c.q, (.slice (some ⟨g', 0, none⟩) c.n cg'), .int .i64 M.cnt, .int .i64 M.l.kind, .int .i64 M.l.a, .int .i64 M.l.b, .int .u64 (M.l.old : Nat), .int .u64 (M.l.new : Nat), .bool M.l.done], .int .u64 (M.l.old : Nat)] ?_ _ rfl; exact cond_at d4 rfl) rfl ?_
    exact hK _ _ ⟨_, rfl, g', cg', NX, rfl, hc, hm, (fun _ => hm d4), hz, hA, hS⟩
   | 6, hi =>
    cases hi
    have d4 : D 4 = true := og_pre hpre (by kernel_rfl)
    refine wpOp_step rfl (fun K hK => ?_)
    refine stp_val rfl (by refine yif_extract rfl (.tmp 21) 1 rfl [.agg #[.int .i64 c.t, .int .i64 c.s, .int .i64 c.k, .int .i64 c.g, .int .u64 c.q, (.slice (some ⟨g', 0, none⟩) c.n cg'), .int .i64 M.cnt, .int .i64 M.l.kind, .int .i64 M.l.a, .int .i64 M.l.b, .int .u64 (M.l.old : Nat), .int .u64 (M.l.new : Nat), .bool M.l.done], .int .u64 (M.l.old : Nat)] ?_ _ rfl; exact cond_at d4 rfl) rfl ?_
    exact hK _ _ ⟨_, rfl, g', cg', NX, rfl, hc, hm, hx, hz, hA, hS⟩
   | 7, hi =>
    cases hi
    refine wpOp_step rfl (fun K hK => ?_)
    have e0 := og_not hA hD
    refine stx_alloc hS rfl _ rfl _ (zer_any2 rfl) _ rfl _ rfl _ (fun _ => rfl) ?_
    intro bn u hS'
    rw [hD, cond_false, List.append_nil] at hS'
    refine hK _ _ ⟨_, rfl, g', cg', bn, rfl, hc, hm, hx, hz, (fun _ => rfl), ?_⟩
    show Sx _ _ _ (_ ++ [(bn, cond (D 8) _ _)]) _
    rw [e0]
    exact hS'
   | 8, hi =>
    cases hi
    have d5 : D 5 = true := og_pre hpre (by kernel_rfl)
    have d7 : D 7 = true := og_pre hpre (by kernel_rfl)
    refine wpOp_step rfl (fun K hK => ?_)
    rw [d7, hD, cond_true, cond_false] at hS
    refine stx_store hS 4 rfl _ _ _ rfl _ _ (cond_at d7 rfl) _ rfl _ (cond_at d5 rfl) _ rfl _ (siz_any2 rfl) (by exact rfl) (by exact rfl) (by exact rfl) rfl ?_
    intro u hS'
    refine hK _ _ ⟨_, rfl, g', cg', NX, rfl, hc, hm, hx, (fun _ => hx d5), (fun _ => d7), ?_⟩
    show Sx _ _ _ (_ ++ cond (D 7) _ _) _
    rw [d7]
    exact hS'
   | 9, hi =>
    cases hi
    have d6 : D 6 = true := og_pre hpre (by kernel_rfl)
    refine wpOp_step rfl (fun K hK => ?_)
    refine stp_val rfl (yif_by rfl _ (fun w => by simp only [d6, cond_true]; go_simp; first | done | exact rfl)) rfl ?_
    exact hK _ _ ⟨_, rfl, g', cg', NX, rfl, hc, hm, hx, hz, hA, hS⟩
   | i + 10, hi => simp at hi
  case ends =>
    intro D ts' w' hall hI
    obtain ⟨g', cg', NX, rfl, hc, hm, hx, hz, hA, hS⟩ := hI
    have d0 : D 0 = true := hall 0 (by decide)
    have d1 : D 1 = true := hall 1 (by decide)
    have d2 : D 2 = true := hall 2 (by decide)
    have d3 : D 3 = true := hall 3 (by decide)
    have d4 : D 4 = true := hall 4 (by decide)
    have d5 : D 5 = true := hall 5 (by decide)
    have d6 : D 6 = true := hall 6 (by decide)
    have d7 : D 7 = true := hall 7 (by decide)
    have d8 : D 8 = true := hall 8 (by decide)
    have d9 : D 9 = true := hall 9 (by decide)
    simp only [d3, d7, d8, cond_true] at hS
    dsimp only [putS, List.set]
    simp only [d0, d1, d2, d3, d4, d5, d6, d7, d9, cond_true]
    obtain ⟨q1, q2, hFr, hW2⟩ := hc d3
    have HW2 := hide hW2
    clear hall hc hm hx hz hA hW2 d0 d1 d2 d3 d4 d5 d6 d7 d8 d9
    dsimp only [List.cons_append, List.nil_append] at hS
    go_wp2_with (first | (refine ybox hS (h := ?_); clear hS; intro _ _ hS) | (refine yall hS (h := ?_); clear hS; intro _ _ hS) | refine yld hS (h := ?_) | (refine yst hS (h := ?_); clear hS; intro _ hS))
    have HOW := hide (show Um.Word M.l.old by rw [unhide HM]; exact Um.old_word (unhide HW))
    refine ((rFault10_any h M.l.old wd la nl cl false false er Z M.l.old _ (unhide HH) (unhide HOW) hnl ((unhide HZ).below hS.bel))).mono ?_
    rintro r u ⟨rfl, hb⟩
    replace hS := hS.call hb
    clear hb
    rw [unhide HFE]
    go_wp2_with (first | (refine ybox hS (h := ?_); clear hS; intro _ _ hS) | (refine yall hS (h := ?_); clear hS; intro _ _ hS) | refine yld hS (h := ?_) | (refine yst hS (h := ?_); clear hS; intro _ hS))
    refine wp_ret2 hS 0 4 2 3 (hQ := ?_)
    · intro _ hS'
      clear hS
      have hS := hS'
      clear hS'
      dsimp only [List.set] at hS ⊢
      go_wp2
      have hZ := hS.get 2 rfl
      have hY := hS.get 3 rfl
      refine bodyPost_ret (v := .tuple #[.agg #[.int .u64 (h : Nat), .slice la nl cl, .bool true, .int .u64 (M.l.old : Nat), .int .u64 (wd : Nat), .int .i64 0, .bool false], (.agg #[.int .i64 c.t, .int .i64 c.s, .int .i64 c.k, .int .i64 c.g, .int .u64 c.q, (.slice (some ⟨g', 0, none⟩) c.n cg'), .int .i64 M.cnt, .int .i64 M.l.kind, .int .i64 M.l.a, .int .i64 M.l.b, .int .u64 (M.l.old : Nat), .int .u64 (M.l.new : Nat), .bool M.l.done])]) (by simp [results, Tryz.results47, go_sem, hZ.cell 0 _ rfl, hZ.cell 1 _ rfl, hZ.cell 2 _ rfl, hZ.cell 3 _ rfl, hZ.cell 4 _ rfl, hZ.cell 5 _ rfl, hZ.cell 6 _ rfl, hY.cell 0 _ rfl, hY.cell 1 _ rfl, hY.cell 2 _ rfl, hY.cell 3 _ rfl, hY.cell 4 _ rfl, hY.cell 5 _ rfl, hY.cell 6 _ rfl, hY.cell 7 _ rfl, hY.cell 8 _ rfl, hY.cell 9 _ rfl, hY.cell 10 _ rfl, hY.cell 11 _ rfl, hY.cell 12 _ rfl]) rfl ?_
      exact ⟨g', cg', rfl, q1, q2, hFr, unhide HW2, hS.getE 0 rfl, hS.bel⟩
set_option maxHeartbeats 8000000 in
theorem rStep10_lookn (w : World) (c : Um.Cf) (m M : Um.Mm) (g cg : Nat) (h s wd : Nat) (la : Option Addr) (nl cl : Nat) (er : Int) (hh : Um.Word h) (hs : Um.Word s) (Z : Nat → Int) (hn : Um.ook h c.s = true) (hnl : nl ≤ 50) (hZ : RowOf w la nl (fun i => .int .i64 (Z i))) (fe : Int) (hf : Um.flN h (fun k => inZ Z nl ((k : Nat) : Int)) M.l.old = fe) (hf0 : fe ≠ 0) (hB : BlkAt w g (rowW m.ws c.n)) (hr : c.r = true) (hw : WordsOk c m) (h1 : c.n ≤ cg) (h2 : cg ≤ maxLen) (hM : M = Um.mtouch c m 1 4 (Um.svN h) 0 0) :
    Calls Tryz.prog 47 #[.agg #[.int .u64 (h : Nat), .slice la nl cl, .bool false, .int .u64 (s : Nat), .int .u64 (wd : Nat), .int .i64 er, .bool false], (.agg #[.int .i64 c.t, .int .i64 c.s, .int .i64 c.k, .int .i64 c.g, .int .u64 c.q, (.slice (some ⟨g, 0, none⟩) c.n cg), .int .i64 m.cnt, .int .i64 m.l.kind, .int .i64 m.l.a, .int .i64 m.l.b, .int .u64 (m.l.old : Nat), .int .u64 (m.l.new : Nat), .bool m.l.done])] w fun r w' => ∃ g' cg', r = .returned (.tuple #[.agg #[.int .u64 (h : Nat), .slice la nl cl, .bool false, .int .u64 (M.l.old : Nat), .int .u64 (wd : Nat), .int .i64 fe, .bool true], (.agg #[.int .i64 c.t, .int .i64 c.s, .int .i64 c.k, .int .i64 c.g, .int .u64 c.q, (.slice (some ⟨g', 0, none⟩) c.n cg'), .int .i64 M.cnt, .int .i64 M.l.kind, .int .i64 M.l.a, .int .i64 M.l.b, .int .u64 (M.l.old : Nat), .int .u64 (M.l.new : Nat), .bool M.l.done])]) ∧ c.n ≤ cg' ∧ cg' ≤ maxLen ∧ Fr w g g' ∧ WordsOk c M ∧ BlkAt w' g' (rowW M.ws c.n) ∧ Below w.heap.size w w' := by
  have hS := Sx.read1 hB
  have HH := hide hh
  have HSW := hide hs
  clear hh hs
  have HN := hide hn
  have HZ := hide hZ
  have HFE := hide hf
  clear hn hZ hf
  have f1 : ¬ fe = 0 := hf0
  have f2 : (fe == 0) = false := by simpa using f1
  have f3 : (fe != 0) = true := by simpa using f1
  have HR := hide hr
  have HW := hide hw
  have HM := hide hM
  clear hB hr hw hM
  go_enter Tryz.func47, Tryz.ntmps47
  go_wp2_with (first | (refine ybox hS (h := ?_); clear hS; intro _ _ hS) | (refine yall hS (h := ?_); clear hS; intro _ _ hS) | refine yld hS (h := ?_) | (refine yst hS (h := ?_); clear hS; intro _ hS))
  refine (rDone10_any h s wd la nl cl false false er c.s _ (unhide HH)).mono ?_
  rintro r u ⟨rfl, hb⟩
  replace hS := hS.call hb
  clear hb
  rw [show (false || !Um.ook h c.s) = false by rw [unhide HN]; rfl]
  go_wp2_with (first | (refine ybox hS (h := ?_); clear hS; intro _ _ hS) | (refine yall hS (h := ?_); clear hS; intro _ _ hS) | refine yld hS (h := ?_) | (refine yst hS (h := ?_); clear hS; intro _ hS))
  obtain ⟨OB, rfl⟩ := nameB hS 0 rfl
  obtain ⟨MB, rfl⟩ := nameB hS 1 rfl
  obtain ⟨R1, rfl⟩ := nameB hS 2 rfl
  obtain ⟨R2, rfl⟩ := nameB hS 3 rfl
  refine wp_region_ogt (fun ts D ts' w' => ∃ (g' : Nat) (cg' : Nat) (NX : Nat), ts' = putS ts [(22, cond (D 0) (.agg #[.int .i64 c.t, .int .i64 c.s, .int .i64 c.k, .int .i64 c.g, .int .u64 c.q, (.slice (some ⟨g, 0, none⟩) c.n cg), .int .i64 m.cnt, .int .i64 m.l.kind, .int .i64 m.l.a, .int .i64 m.l.b, .int .u64 (m.l.old : Nat), .int .u64 (m.l.new : Nat), .bool m.l.done]) undef), (23, cond (D 1) (.agg #[.int .u64 (h : Nat), .slice la nl cl, .bool false, .int .u64 (s : Nat), .int .u64 (wd : Nat), .int .i64 er, .bool false]) undef), (24, cond (D 2) (.int .i64 (Um.svN h)) undef), (25, cond (D 3) (.tuple #[.agg #[.int .i64 c.t, .int .i64 c.s, .int .i64 c.k, .int .i64 c.g, .int .u64 c.q, (.slice (some ⟨g', 0, none⟩) c.n cg'), .int .i64 M.cnt, .int .i64 M.l.kind, .int .i64 M.l.a, .int .i64 M.l.b, .int .u64 (M.l.old : Nat), .int .u64 (M.l.new : Nat), .bool M.l.done], .int .u64 (M.l.old : Nat)]) undef), (21, cond (D 4) (.tuple #[.agg #[.int .i64 c.t, .int .i64 c.s, .int .i64 c.k, .int .i64 c.g, .int .u64 c.q, (.slice (some ⟨g', 0, none⟩) c.n cg'), .int .i64 M.cnt, .int .i64 M.l.kind, .int .i64 M.l.a, .int .i64 M.l.b, .int .u64 (M.l.old : Nat), .int .u64 (M.l.new : Nat), .bool M.l.done], .int .u64 (M.l.old : Nat)]) undef), (26, cond (D 5) (.agg #[.int .i64 c.t, .int .i64 c.s, .int .i64 c.k, .int .i64 c.g, .int .u64 c.q, (.slice (some ⟨g', 0, none⟩) c.n cg'), .int .i64 M.cnt, .int .i64 M.l.kind, .int .i64 M.l.a, .int .i64 M.l.b, .int .u64 (M.l.old : Nat), .int .u64 (M.l.new : Nat), .bool M.l.done]) undef), (27, cond (D 6) (.int .u64 (M.l.old : Nat)) undef), (6, cond (D 7) (.pointer (some ⟨NX, 0, none⟩)) undef), (7, cond (D 9) (.int .u64 (M.l.old : Nat)) undef)] ∧ (D 3 = true → c.n ≤ cg' ∧ cg' ≤ maxLen ∧ Fr w g g' ∧ WordsOk c M) ∧ (D 4 = true → D 3 = true) ∧ (D 5 = true → D 3 = true) ∧ (D 8 = true → D 3 = true) ∧ (D 8 = true → D 7 = true) ∧ Sx [] w w' ([(OB, [.int .u64 (h : Nat), .slice la nl cl, .bool false, .int .u64 (s : Nat), .int .u64 (wd : Nat), .int .i64 er, .bool false]), (MB, [.int .i64 c.t, .int .i64 c.s, .int .i64 c.k, .int .i64 c.g, .int .u64 c.q, (.slice (some ⟨g, 0, none⟩) c.n cg), .int .i64 m.cnt, .int .i64 m.l.kind, .int .i64 m.l.a, .int .i64 m.l.b, .int .u64 (m.l.old : Nat), .int .u64 (m.l.new : Nat), .bool m.l.done]), (R1, [.int .u64 0, .slice none 0 0, .bool false, .int .u64 0, .int .u64 0, .int .i64 0, .bool false]), (R2, [.int .i64 0, .int .i64 0, .int .i64 0, .int .i64 0, .int .u64 0, .slice none 0 0, .int .i64 0, .int .i64 0, .int .i64 0, .int .i64 0, .int .u64 0, .int .u64 0, .bool false])] ++ cond (D 7) [(NX, cond (D 8) [.int .i64 c.t, .int .i64 c.s, .int .i64 c.k, .int .i64 c.g, .int .u64 c.q, (.slice (some ⟨g', 0, none⟩) c.n cg'), .int .i64 M.cnt, .int .i64 M.l.kind, .int .i64 M.l.a, .int .i64 M.l.b, .int .u64 (M.l.old : Nat), .int .u64 (M.l.new : Nat), .bool M.l.done] [.int .i64 0, .int .i64 0, .int .i64 0, .int .i64 0, .int .u64 0, .slice none 0 0, .int .i64 0, .int .i64 0, .int .i64 0, .int .i64 0, .int .u64 0, .int .u64 0, .bool false])] []) [cond (D 3) (g', rowW M.ws c.n) (g, rowW m.ws c.n)]) (by kernel_rfl) (by kernel_rfl) ?start ?steps ?ends
  case start => exact ⟨0, 0, 0, rfl, (fun h => by cases h), (fun h => by cases h), (fun h => by cases h), (fun h => by cases h), (fun h => by cases h), hS.drew⟩
  case steps =>
   intro i o hi D ts' w' hD hpre hI
   obtain ⟨g', cg', NX, rfl, hc, hm, hx, hz, hA, hS⟩ := hI
   dsimp only [putS, List.set]
   match i, hi with
   | 0, hi =>
    cases hi
    refine wpOp_step rfl (fun K hK => ?_)
    refine stp_val rfl (by refine yif_load (S := fun q => q = w') rfl _ _ rfl _ _ rfl _ (fun _ h => h ▸ hS.get 1 rfl) _ (row_any2 rfl) (by exact rfl) _ (by dsimp only [cutL, List.drop, List.take]; first | done | exact rfl)) rfl ?_
    exact hK _ _ ⟨_, rfl, g', cg', NX, rfl, hc, hm, hx, hz, hA, hS⟩
   | 1, hi =>
    cases hi
    refine wpOp_step rfl (fun K hK => ?_)
    refine stp_val rfl (by refine yif_load (S := fun q => q = w') rfl _ _ rfl _ _ rfl _ (fun _ h => h ▸ hS.get 0 rfl) _ (row_any2 rfl) (by exact rfl) _ (by dsimp only [cutL, List.drop, List.take]; first | done | exact rfl)) rfl ?_
    exact hK _ _ ⟨_, rfl, g', cg', NX, rfl, hc, hm, hx, hz, hA, hS⟩
   | 2, hi =>
    cases hi
    have d1 : D 1 = true := og_pre hpre (by kernel_rfl)
    refine wpOp_step rfl (fun K hK => ?_)
    refine stp_call rfl _ _ _ rfl egSl10 _ (lst1_eq (cond_at d1 rfl)) _ rfl ?_
    refine (rSlot10_any h s wd la nl cl false false er _ (unhide HH)).mono ?_
    rintro r u ⟨rfl, hb⟩
    exact ⟨_, rfl, hK _ _ ⟨_, rfl, g', cg', NX, rfl, hc, hm, hx, hz, hA, hS.call hb⟩⟩
   | 3, hi =>
    cases hi
    have d0 : D 0 = true := og_pre hpre (by kernel_rfl)
    have d2 : D 2 = true := og_pre hpre (by kernel_rfl)
    refine wpOp_step rfl (fun K hK => ?_)
    refine stp_call rfl _ _ _ rfl egLd10 _ (lst3_eq (cond_at d0 rfl) rfl (cond_at d2 rfl)) _ rfl ?_
    have m0 := og_not hm hD
    have x0 := og_not hx hD
    have z0 := og_not hz hD
    rw [hD, cond_false] at hS
    have hSz := hS.size
    refine (rLoad_x hS 0 rfl (unhide HR) (unhide HW) h1 h2 4 (Um.svN h) M (unhide HM)).mono ?_
    rintro r u ⟨gn, cgn, rfl, q1, q2, hFr, hW2, hSn⟩
    rw [z0] at hSn
    refine ⟨_, rfl, hK _ _ ⟨_, (by simp only [m0, x0]; rfl), gn, cgn, NX, rfl, (fun _ => ⟨q1, q2, (Fr.refl w g).trans hFr hSz, hW2⟩), (fun _ => rfl), (fun _ => rfl), (fun _ => rfl), hA, ?_⟩⟩
    show Sx _ _ _ (_ ++ cond (D 7) [(_, cond (D 8) _ _)] _) _
    rw [z0]
    exact hSn
   | 4, hi =>
    cases hi
    have d3 : D 3 = true := og_pre hpre (by kernel_rfl)
    refine wpOp_step rfl (fun K hK => ?_)
    refine stp_val rfl (by exact yif_mv rfl (.tmp 25) rfl _ (cond_at d3 rfl)) rfl ?_
    exact hK _ _ ⟨_, rfl, g', cg', NX, rfl, hc, (fun _ => d3), hx, hz, hA, hS⟩
   | 5, hi =>
    cases hi
    have d4 : D 4 = true := og_pre hpre (by kernel_rfl)
    refine wpOp_step rfl (fun K hK => ?_)
    refine stp_val rfl (by refine yif_extract rfl (.tmp 21) 0 rfl [.agg #[.int .i64 c.t, .int .i64 c.s, .int .i64 c.k, .int .i64 c.g, .int .u64 c.q, (.slice (some ⟨g', 0, none⟩) c.n cg'), .int .i64 M.cnt, .int .i64 M.l.kind, .int .i64 M.l.a, .int .i64 M.l.b, .int .u64 (M.l.old : Nat), .int .u64 (M.l.new : Nat), .bool M.l.done], .int .u64 (M.l.old : Nat)] ?_ _ rfl; exact cond_at d4 rfl) rfl ?_
    exact hK _ _ ⟨_, rfl, g', cg', NX, rfl, hc, hm, (fun _ => hm d4), hz, hA, hS⟩
   | 6, hi =>
    cases hi
    have d4 : D 4 = true := og_pre hpre (by kernel_rfl)
    refine wpOp_step rfl (fun K hK => ?_)
    refine stp_val rfl (by refine yif_extract rfl (.tmp 21) 1 rfl [.agg #[.int .i64 c.t, .int .i64 c.s, .int .i64 c.k, .int .i64 c.g, .int .u64 c.q, (.slice (some ⟨g', 0, none⟩) c.n cg'), .int .i64 M.cnt, .int .i64 M.l.kind, .int .i64 M.l.a, .int .i64 M.l.b, .int .u64 (M.l.old : Nat), .int .u64 (M.l.new : Nat), .bool M.l.done], .int .u64 (M.l.old : Nat)] ?_ _ rfl; exact cond_at d4 rfl) rfl ?_
    exact hK _ _ ⟨_, rfl, g', cg', NX, rfl, hc, hm, hx, hz, hA, hS⟩
   | 7, hi =>
    cases hi
    refine wpOp_step rfl (fun K hK => ?_)
    have e0 := og_not hA hD
    refine stx_alloc hS rfl _ rfl _ (zer_any2 rfl) _ rfl _ rfl _ (fun _ => rfl) ?_
    intro bn u hS'
    rw [hD, cond_false, List.append_nil] at hS'
    refine hK _ _ ⟨_, rfl, g', cg', bn, rfl, hc, hm, hx, hz, (fun _ => rfl), ?_⟩
    show Sx _ _ _ (_ ++ [(bn, cond (D 8) _ _)]) _
    rw [e0]
    exact hS'
   | 8, hi =>
    cases hi
    have d5 : D 5 = true := og_pre hpre (by kernel_rfl)
    have d7 : D 7 = true := og_pre hpre (by kernel_rfl)
    refine wpOp_step rfl (fun K hK => ?_)
    rw [d7, hD, cond_true, cond_false] at hS
    refine stx_store hS 4 rfl _ _ _ rfl _ _ (cond_at d7 rfl) _ rfl _ (cond_at d5 rfl) _ rfl _ (siz_any2 rfl) (by exact rfl) (by exact rfl) (by exact rfl) rfl ?_
    intro u hS'
    refine hK _ _ ⟨_, rfl, g', cg', NX, rfl, hc, hm, hx, (fun _ => hx d5), (fun _ => d7), ?_⟩
    show Sx _ _ _ (_ ++ cond (D 7) _ _) _
    rw [d7]
    exact hS'
   | 9, hi =>
    cases hi
    have d6 : D 6 = true := og_pre hpre (by kernel_rfl)
    refine wpOp_step rfl (fun K hK => ?_)
    refine stp_val rfl (yif_by rfl _ (fun w => by simp only [d6, cond_true]; go_simp; first | done | exact rfl)) rfl ?_
    exact hK _ _ ⟨_, rfl, g', cg', NX, rfl, hc, hm, hx, hz, hA, hS⟩
   | i + 10, hi => simp at hi
  case ends =>
    intro D ts' w' hall hI
    obtain ⟨g', cg', NX, rfl, hc, hm, hx, hz, hA, hS⟩ := hI
    have d0 : D 0 = true := hall 0 (by decide)
    have d1 : D 1 = true := hall 1 (by decide)
    have d2 : D 2 = true := hall 2 (by decide)
    have d3 : D 3 = true := hall 3 (by decide)
    have d4 : D 4 = true := hall 4 (by decide)
    have d5 : D 5 = true := hall 5 (by decide)
    have d6 : D 6 = true := hall 6 (by decide)
    have d7 : D 7 = true := hall 7 (by decide)
    have d8 : D 8 = true := hall 8 (by decide)
    have d9 : D 9 = true := hall 9 (by decide)
    simp only [d3, d7, d8, cond_true] at hS
    dsimp only [putS, List.set]
    simp only [d0, d1, d2, d3, d4, d5, d6, d7, d9, cond_true]
    obtain ⟨q1, q2, hFr, hW2⟩ := hc d3
    have HW2 := hide hW2
    clear hall hc hm hx hz hA hW2 d0 d1 d2 d3 d4 d5 d6 d7 d8 d9
    dsimp only [List.cons_append, List.nil_append] at hS
    go_wp2_with (first | (refine ybox hS (h := ?_); clear hS; intro _ _ hS) | (refine yall hS (h := ?_); clear hS; intro _ _ hS) | refine yld hS (h := ?_) | (refine yst hS (h := ?_); clear hS; intro _ hS))
    have HOW := hide (show Um.Word M.l.old by rw [unhide HM]; exact Um.old_word (unhide HW))
    refine ((rFault10_any h M.l.old wd la nl cl false false er Z M.l.old _ (unhide HH) (unhide HOW) hnl ((unhide HZ).below hS.bel))).mono ?_
    rintro r u ⟨rfl, hb⟩
    replace hS := hS.call hb
    clear hb
    rw [unhide HFE]
    go_wp2_with (first | (refine ybox hS (h := ?_); clear hS; intro _ _ hS) | (refine yall hS (h := ?_); clear hS; intro _ _ hS) | refine yld hS (h := ?_) | (refine yst hS (h := ?_); clear hS; intro _ hS))
    refine wp_ret2 hS 0 4 2 3 (hQ := ?_)
    · intro _ hS'
      clear hS
      have hS := hS'
      clear hS'
      dsimp only [List.set] at hS ⊢
      go_wp2
      have hZ := hS.get 2 rfl
      have hY := hS.get 3 rfl
      refine bodyPost_ret (v := .tuple #[.agg #[.int .u64 (h : Nat), .slice la nl cl, .bool false, .int .u64 (M.l.old : Nat), .int .u64 (wd : Nat), .int .i64 fe, .bool true], (.agg #[.int .i64 c.t, .int .i64 c.s, .int .i64 c.k, .int .i64 c.g, .int .u64 c.q, (.slice (some ⟨g', 0, none⟩) c.n cg'), .int .i64 M.cnt, .int .i64 M.l.kind, .int .i64 M.l.a, .int .i64 M.l.b, .int .u64 (M.l.old : Nat), .int .u64 (M.l.new : Nat), .bool M.l.done])]) (by simp [results, Tryz.results47, go_sem, hZ.cell 0 _ rfl, hZ.cell 1 _ rfl, hZ.cell 2 _ rfl, hZ.cell 3 _ rfl, hZ.cell 4 _ rfl, hZ.cell 5 _ rfl, hZ.cell 6 _ rfl, hY.cell 0 _ rfl, hY.cell 1 _ rfl, hY.cell 2 _ rfl, hY.cell 3 _ rfl, hY.cell 4 _ rfl, hY.cell 5 _ rfl, hY.cell 6 _ rfl, hY.cell 7 _ rfl, hY.cell 8 _ rfl, hY.cell 9 _ rfl, hY.cell 10 _ rfl, hY.cell 11 _ rfl, hY.cell 12 _ rfl]) rfl ?_
      exact ⟨g', cg', rfl, q1, q2, hFr, unhide HW2, hS.getE 0 rfl, hS.bel⟩
set_option maxHeartbeats 8000000 in
theorem rStep10_take_t (w : World) (c : Um.Cf) (m M : Um.Mm) (g cg : Nat) (h s wd : Nat) (la : Option Addr) (nl cl : Nat) (er : Int) (hh : Um.Word h) (hs : Um.Word s) (hn : Um.ook h c.s = true) (hd : M.l.done = true) (hB : BlkAt w g (rowW m.ws c.n)) (hr : c.r = true) (hw : WordsOk c m) (h1 : c.n ≤ cg) (h2 : cg ≤ maxLen) (hM : M = Um.mtouch c m 3 4 (Um.svN h) s (Um.bzN s)) :
    Calls Tryz.prog 47 #[.agg #[.int .u64 (h : Nat), .slice la nl cl, .bool true, .int .u64 (s : Nat), .int .u64 (wd : Nat), .int .i64 er, .bool false], (.agg #[.int .i64 c.t, .int .i64 c.s, .int .i64 c.k, .int .i64 c.g, .int .u64 c.q, (.slice (some ⟨g, 0, none⟩) c.n cg), .int .i64 m.cnt, .int .i64 m.l.kind, .int .i64 m.l.a, .int .i64 m.l.b, .int .u64 (m.l.old : Nat), .int .u64 (m.l.new : Nat), .bool m.l.done])] w fun r w' => ∃ g' cg', r = .returned (.tuple #[.agg #[.int .u64 (h : Nat), .slice la nl cl, .bool false, .int .u64 (s : Nat), .int .u64 (Um.bzN s : Nat), .int .i64 er, .bool true], (.agg #[.int .i64 c.t, .int .i64 c.s, .int .i64 c.k, .int .i64 c.g, .int .u64 c.q, (.slice (some ⟨g', 0, none⟩) c.n cg'), .int .i64 M.cnt, .int .i64 M.l.kind, .int .i64 M.l.a, .int .i64 M.l.b, .int .u64 (M.l.old : Nat), .int .u64 (M.l.new : Nat), .bool M.l.done])]) ∧ c.n ≤ cg' ∧ cg' ≤ maxLen ∧ Fr w g g' ∧ WordsOk c M ∧ BlkAt w' g' (rowW M.ws c.n) ∧ Below w.heap.size w w' := by
  have hS := Sx.read1 hB
  have HH := hide hh
  have HSW := hide hs
  clear hh hs
  have HN := hide hn
  have HDN := hide hd
  clear hn hd
  have HR := hide hr
  have HW := hide hw
  have HM := hide hM
  clear hB hr hw hM
  go_enter Tryz.func47, Tryz.ntmps47
  go_wp2_with (first | (refine ybox hS (h := ?_); clear hS; intro _ _ hS) | (refine yall hS (h := ?_); clear hS; intro _ _ hS) | refine yld hS (h := ?_) | (refine yst hS (h := ?_); clear hS; intro _ hS))
  refine (rDone10_any h s wd la nl cl true false er c.s _ (unhide HH)).mono ?_
  rintro r u ⟨rfl, hb⟩
  replace hS := hS.call hb
  clear hb
  rw [show (false || !Um.ook h c.s) = false by rw [unhide HN]; rfl]
  go_wp2_with (first | (refine ybox hS (h := ?_); clear hS; intro _ _ hS) | (refine yall hS (h := ?_); clear hS; intro _ _ hS) | refine yld hS (h := ?_) | (refine yst hS (h := ?_); clear hS; intro _ hS))
  refine (rPut26_x hS s (unhide HSW)).mono ?_
  rintro r u ⟨rfl, hSn⟩
  clear hS
  have hS := hSn
  clear hSn
  go_wp2_with fail
  obtain ⟨OB, rfl⟩ := nameB hS 0 rfl
  obtain ⟨MB, rfl⟩ := nameB hS 1 rfl
  obtain ⟨R1, rfl⟩ := nameB hS 2 rfl
  obtain ⟨R2, rfl⟩ := nameB hS 3 rfl
  refine wp_region_ogt (fun ts D ts' w' => ∃ (g' : Nat) (cg' : Nat) (NX : Nat), ts' = putS ts [(48, cond (D 0) (.agg #[.int .i64 c.t, .int .i64 c.s, .int .i64 c.k, .int .i64 c.g, .int .u64 c.q, (.slice (some ⟨g, 0, none⟩) c.n cg), .int .i64 m.cnt, .int .i64 m.l.kind, .int .i64 m.l.a, .int .i64 m.l.b, .int .u64 (m.l.old : Nat), .int .u64 (m.l.new : Nat), .bool m.l.done]) undef), (49, cond (D 1) (.agg #[.int .u64 (h : Nat), .slice la nl cl, .bool true, .int .u64 (s : Nat), .int .u64 (wd : Nat), .int .i64 er, .bool false]) undef), (50, cond (D 2) (.int .i64 (Um.svN h)) undef), (51, cond (D 3) (.pointer (some ⟨OB, 3, none⟩)) undef), (52, cond (D 4) (.int .u64 (s : Nat)) undef), (53, cond (D 5) (.int .u64 (Um.bzN s : Nat)) undef), (54, cond (D 6) (.tuple #[.agg #[.int .i64 c.t, .int .i64 c.s, .int .i64 c.k, .int .i64 c.g, .int .u64 c.q, (.slice (some ⟨g', 0, none⟩) c.n cg'), .int .i64 M.cnt, .int .i64 M.l.kind, .int .i64 M.l.a, .int .i64 M.l.b, .int .u64 (M.l.old : Nat), .int .u64 (M.l.new : Nat), .bool M.l.done], .bool M.l.done]) undef), (47, cond (D 7) (.tuple #[.agg #[.int .i64 c.t, .int .i64 c.s, .int .i64 c.k, .int .i64 c.g, .int .u64 c.q, (.slice (some ⟨g', 0, none⟩) c.n cg'), .int .i64 M.cnt, .int .i64 M.l.kind, .int .i64 M.l.a, .int .i64 M.l.b, .int .u64 (M.l.old : Nat), .int .u64 (M.l.new : Nat), .bool M.l.done], .bool M.l.done]) undef), (55, cond (D 8) (.agg #[.int .i64 c.t, .int .i64 c.s, .int .i64 c.k, .int .i64 c.g, .int .u64 c.q, (.slice (some ⟨g', 0, none⟩) c.n cg'), .int .i64 M.cnt, .int .i64 M.l.kind, .int .i64 M.l.a, .int .i64 M.l.b, .int .u64 (M.l.old : Nat), .int .u64 (M.l.new : Nat), .bool M.l.done]) undef), (56, cond (D 9) (.bool M.l.done) undef), (9, cond (D 10) (.pointer (some ⟨NX, 0, none⟩)) undef), (10, cond (D 12) (.bool M.l.done) undef)] ∧ (D 6 = true → c.n ≤ cg' ∧ cg' ≤ maxLen ∧ Fr w g g' ∧ WordsOk c M) ∧ (D 7 = true → D 6 = true) ∧ (D 8 = true → D 6 = true) ∧ (D 11 = true → D 6 = true) ∧ (D 11 = true → D 10 = true) ∧ Sx [] w w' ([(OB, [.int .u64 (h : Nat), .slice la nl cl, .bool true, .int .u64 (s : Nat), .int .u64 (wd : Nat), .int .i64 er, .bool false]), (MB, [.int .i64 c.t, .int .i64 c.s, .int .i64 c.k, .int .i64 c.g, .int .u64 c.q, (.slice (some ⟨g, 0, none⟩) c.n cg), .int .i64 m.cnt, .int .i64 m.l.kind, .int .i64 m.l.a, .int .i64 m.l.b, .int .u64 (m.l.old : Nat), .int .u64 (m.l.new : Nat), .bool m.l.done]), (R1, [.int .u64 0, .slice none 0 0, .bool false, .int .u64 0, .int .u64 0, .int .i64 0, .bool false]), (R2, [.int .i64 0, .int .i64 0, .int .i64 0, .int .i64 0, .int .u64 0, .slice none 0 0, .int .i64 0, .int .i64 0, .int .i64 0, .int .i64 0, .int .u64 0, .int .u64 0, .bool false])] ++ cond (D 10) [(NX, cond (D 11) [.int .i64 c.t, .int .i64 c.s, .int .i64 c.k, .int .i64 c.g, .int .u64 c.q, (.slice (some ⟨g', 0, none⟩) c.n cg'), .int .i64 M.cnt, .int .i64 M.l.kind, .int .i64 M.l.a, .int .i64 M.l.b, .int .u64 (M.l.old : Nat), .int .u64 (M.l.new : Nat), .bool M.l.done] [.int .i64 0, .int .i64 0, .int .i64 0, .int .i64 0, .int .u64 0, .slice none 0 0, .int .i64 0, .int .i64 0, .int .i64 0, .int .i64 0, .int .u64 0, .int .u64 0, .bool false])] []) [cond (D 6) (g', rowW M.ws c.n) (g, rowW m.ws c.n)]) (by kernel_rfl) (by kernel_rfl) ?start ?steps ?ends
  case start => exact ⟨0, 0, 0, rfl, (fun h => by cases h), (fun h => by cases h), (fun h => by cases h), (fun h => by cases h), (fun h => by cases h), hS.drew⟩
  case steps =>
   intro i o hi D ts' w' hD hpre hI
   obtain ⟨g', cg', NX, rfl, hc, hm, hx, hz, hA, hS⟩ := hI
   dsimp only [putS, List.set]
   match i, hi with
   | 0, hi =>
    cases hi
    refine wpOp_step rfl (fun K hK => ?_)
    refine stp_val rfl (by refine yif_load (S := fun q => q = w') rfl _ _ rfl _ _ rfl _ (fun _ h => h ▸ hS.get 1 rfl) _ (row_any2 rfl) (by exact rfl) _ (by dsimp only [cutL, List.drop, List.take]; first | done | exact rfl)) rfl ?_
    exact hK _ _ ⟨_, rfl, g', cg', NX, rfl, hc, hm, hx, hz, hA, hS⟩
   | 1, hi =>
    cases hi
    refine wpOp_step rfl (fun K hK => ?_)
    refine stp_val rfl (by refine yif_load (S := fun q => q = w') rfl _ _ rfl _ _ rfl _ (fun _ h => h ▸ hS.get 0 rfl) _ (row_any2 rfl) (by exact rfl) _ (by dsimp only [cutL, List.drop, List.take]; first | done | exact rfl)) rfl ?_
    exact hK _ _ ⟨_, rfl, g', cg', NX, rfl, hc, hm, hx, hz, hA, hS⟩
   | 2, hi =>
    cases hi
    have d1 : D 1 = true := og_pre hpre (by kernel_rfl)
    refine wpOp_step rfl (fun K hK => ?_)
    refine stp_call rfl _ _ _ rfl egSl10 _ (lst1_eq (cond_at d1 rfl)) _ rfl ?_
    refine (rSlot10_any h s wd la nl cl true false er _ (unhide HH)).mono ?_
    rintro r u ⟨rfl, hb⟩
    exact ⟨_, rfl, hK _ _ ⟨_, rfl, g', cg', NX, rfl, hc, hm, hx, hz, hA, hS.call hb⟩⟩
   | 3, hi =>
    cases hi
    refine wpOp_step rfl (fun K hK => ?_)
    refine stp_val rfl (yif_by rfl _ (fun w => by go_simp; first | done | exact rfl)) rfl ?_
    exact hK _ _ ⟨_, rfl, g', cg', NX, rfl, hc, hm, hx, hz, hA, hS⟩
   | 4, hi =>
    cases hi
    have d3 : D 3 = true := og_pre hpre (by kernel_rfl)
    refine wpOp_step rfl (fun K hK => ?_)
    refine stp_val rfl (by refine yif_load1 (S := fun q => q = w') rfl _ (.tmp 51) rfl OB 3 ?_ _ (fun _ h => h ▸ hS.get 0 rfl) (one_any2 rfl) _ rfl; exact cond_at d3 rfl) rfl ?_
    exact hK _ _ ⟨_, rfl, g', cg', NX, rfl, hc, hm, hx, hz, hA, hS⟩
   | 5, hi =>
    cases hi
    refine wpOp_step rfl (fun K hK => ?_)
    refine stp_val rfl (yif_by rfl _ (fun w => by go_simp; first | done | exact rfl)) rfl ?_
    exact hK _ _ ⟨_, rfl, g', cg', NX, rfl, hc, hm, hx, hz, hA, hS⟩
   | 6, hi =>
    cases hi
    have d0 : D 0 = true := og_pre hpre (by kernel_rfl)
    have d2 : D 2 = true := og_pre hpre (by kernel_rfl)
    have d4 : D 4 = true := og_pre hpre (by kernel_rfl)
    have d5 : D 5 = true := og_pre hpre (by kernel_rfl)
    refine wpOp_step rfl (fun K hK => ?_)
    refine stp_call rfl _ _ _ rfl egSw10 _ (lst5_eq (cond_at d0 rfl) rfl (cond_at d2 rfl) (cond_at d4 rfl) (cond_at d5 rfl)) _ rfl ?_
    have m0 := og_not hm hD
    have x0 := og_not hx hD
    have z0 := og_not hz hD
    rw [hD, cond_false] at hS
    have hSz := hS.size
    refine (rSwap_x hS 0 rfl (unhide HR) (unhide HW) h1 h2 4 (Um.svN h) s (Um.bzN s) (Um.bz_word (unhide HSW)) M (unhide HM)).mono ?_
    rintro r u ⟨gn, cgn, rfl, q1, q2, hFr, hW2, hSn⟩
    rw [z0] at hSn
    refine ⟨_, rfl, hK _ _ ⟨_, (by simp only [m0, x0]; rfl), gn, cgn, NX, rfl, (fun _ => ⟨q1, q2, (Fr.refl w g).trans hFr hSz, hW2⟩), (fun _ => rfl), (fun _ => rfl), (fun _ => rfl), hA, ?_⟩⟩
    show Sx _ _ _ (_ ++ cond (D 10) [(_, cond (D 11) _ _)] _) _
    rw [z0]
    exact hSn
   | 7, hi =>
    cases hi
    have d6 : D 6 = true := og_pre hpre (by kernel_rfl)
    refine wpOp_step rfl (fun K hK => ?_)
    refine stp_val rfl (by exact yif_mv rfl (.tmp 54) rfl _ (cond_at d6 rfl)) rfl ?_
    exact hK _ _ ⟨_, rfl, g', cg', NX, rfl, hc, (fun _ => d6), hx, hz, hA, hS⟩
   | 8, hi =>
    cases hi
    have d7 : D 7 = true := og_pre hpre (by kernel_rfl)
    refine wpOp_step rfl (fun K hK => ?_)
    refine stp_val rfl (by refine yif_extract rfl (.tmp 47) 0 rfl [.agg #[.int .i64 c.t, .int .i64 c.s, .int .i64 c.k, .int .i64 c.g, .int .u64 c.q, (.slice (some ⟨g', 0, none⟩) c.n cg'), .int .i64 M.cnt, .int .i64 M.l.kind, .int .i64 M.l.a, .int .i64 M.l.b, .int .u64 (M.l.old : Nat), .int .u64 (M.l.new : Nat), .bool M.l.done], .bool M.l.done] ?_ _ rfl; exact cond_at d7 rfl) rfl ?_
    exact hK _ _ ⟨_, rfl, g', cg', NX, rfl, hc, hm, (fun _ => hm d7), hz, hA, hS⟩
   | 9, hi =>
    cases hi
    have d7 : D 7 = true := og_pre hpre (by kernel_rfl)
    refine wpOp_step rfl (fun K hK => ?_)
    refine stp_val rfl (by refine yif_extract rfl (.tmp 47) 1 rfl [.agg #[.int .i64 c.t, .int .i64 c.s, .int .i64 c.k, .int .i64 c.g, .int .u64 c.q, (.slice (some ⟨g', 0, none⟩) c.n cg'), .int .i64 M.cnt, .int .i64 M.l.kind, .int .i64 M.l.a, .int .i64 M.l.b, .int .u64 (M.l.old : Nat), .int .u64 (M.l.new : Nat), .bool M.l.done], .bool M.l.done] ?_ _ rfl; exact cond_at d7 rfl) rfl ?_
    exact hK _ _ ⟨_, rfl, g', cg', NX, rfl, hc, hm, hx, hz, hA, hS⟩
   | 10, hi =>
    cases hi
    refine wpOp_step rfl (fun K hK => ?_)
    have e0 := og_not hA hD
    refine stx_alloc hS rfl _ rfl _ (zer_any2 rfl) _ rfl _ rfl _ (fun _ => rfl) ?_
    intro bn u hS'
    rw [hD, cond_false, List.append_nil] at hS'
    refine hK _ _ ⟨_, rfl, g', cg', bn, rfl, hc, hm, hx, hz, (fun _ => rfl), ?_⟩
    show Sx _ _ _ (_ ++ [(bn, cond (D 11) _ _)]) _
    rw [e0]
    exact hS'
   | 11, hi =>
    cases hi
    have d8 : D 8 = true := og_pre hpre (by kernel_rfl)
    have d10 : D 10 = true := og_pre hpre (by kernel_rfl)
    refine wpOp_step rfl (fun K hK => ?_)
    rw [d10, hD, cond_true, cond_false] at hS
    refine stx_store hS 4 rfl _ _ _ rfl _ _ (cond_at d10 rfl) _ rfl _ (cond_at d8 rfl) _ rfl _ (siz_any2 rfl) (by exact rfl) (by exact rfl) (by exact rfl) rfl ?_
    intro u hS'
    refine hK _ _ ⟨_, rfl, g', cg', NX, rfl, hc, hm, hx, (fun _ => hx d8), (fun _ => d10), ?_⟩
    show Sx _ _ _ (_ ++ cond (D 10) _ _) _
    rw [d10]
    exact hS'
   | 12, hi =>
    cases hi
    have d9 : D 9 = true := og_pre hpre (by kernel_rfl)
    refine wpOp_step rfl (fun K hK => ?_)
    refine stp_val rfl (yif_by rfl _ (fun w => by simp only [d9, cond_true]; go_simp; first | done | exact rfl)) rfl ?_
    exact hK _ _ ⟨_, rfl, g', cg', NX, rfl, hc, hm, hx, hz, hA, hS⟩
   | i + 13, hi => simp at hi
  case ends =>
    intro D ts' w' hall hI
    obtain ⟨g', cg', NX, rfl, hc, hm, hx, hz, hA, hS⟩ := hI
    have d0 : D 0 = true := hall 0 (by decide)
    have d1 : D 1 = true := hall 1 (by decide)
    have d2 : D 2 = true := hall 2 (by decide)
    have d3 : D 3 = true := hall 3 (by decide)
    have d4 : D 4 = true := hall 4 (by decide)
    have d5 : D 5 = true := hall 5 (by decide)
    have d6 : D 6 = true := hall 6 (by decide)
    have d7 : D 7 = true := hall 7 (by decide)
    have d8 : D 8 = true := hall 8 (by decide)
    have d9 : D 9 = true := hall 9 (by decide)
    have d10 : D 10 = true := hall 10 (by decide)
    have d11 : D 11 = true := hall 11 (by decide)
    have d12 : D 12 = true := hall 12 (by decide)
    simp only [d6, d10, d11, cond_true] at hS
    dsimp only [putS, List.set]
    simp only [d0, d1, d2, d3, d4, d5, d6, d7, d8, d9, d10, d12, cond_true]
    obtain ⟨q1, q2, hFr, hW2⟩ := hc d6
    have HW2 := hide hW2
    clear hall hc hm hx hz hA hW2 d0 d1 d2 d3 d4 d5 d6 d7 d8 d9 d10 d11 d12
    dsimp only [List.cons_append, List.nil_append] at hS
    simp only [unhide HDN]
    clear HDN
    go_wp2_with (refine yst hS (h := ?_); clear hS; intro _ hS)
    refine wp_ret2 hS 0 4 2 3 (hQ := ?_)
    · intro _ hS'
      clear hS
      have hS := hS'
      clear hS'
      dsimp only [List.set] at hS ⊢
      go_wp2
      have hZ := hS.get 2 rfl
      have hY := hS.get 3 rfl
      refine bodyPost_ret (v := .tuple #[.agg #[.int .u64 (h : Nat), .slice la nl cl, .bool false, .int .u64 (s : Nat), .int .u64 (Um.bzN s : Nat), .int .i64 er, .bool true], (.agg #[.int .i64 c.t, .int .i64 c.s, .int .i64 c.k, .int .i64 c.g, .int .u64 c.q, (.slice (some ⟨g', 0, none⟩) c.n cg'), .int .i64 M.cnt, .int .i64 M.l.kind, .int .i64 M.l.a, .int .i64 M.l.b, .int .u64 (M.l.old : Nat), .int .u64 (M.l.new : Nat), .bool M.l.done])]) (by simp [results, Tryz.results47, go_sem, hZ.cell 0 _ rfl, hZ.cell 1 _ rfl, hZ.cell 2 _ rfl, hZ.cell 3 _ rfl, hZ.cell 4 _ rfl, hZ.cell 5 _ rfl, hZ.cell 6 _ rfl, hY.cell 0 _ rfl, hY.cell 1 _ rfl, hY.cell 2 _ rfl, hY.cell 3 _ rfl, hY.cell 4 _ rfl, hY.cell 5 _ rfl, hY.cell 6 _ rfl, hY.cell 7 _ rfl, hY.cell 8 _ rfl, hY.cell 9 _ rfl, hY.cell 10 _ rfl, hY.cell 11 _ rfl, hY.cell 12 _ rfl]) rfl ?_
      exact ⟨g', cg', rfl, q1, q2, hFr, unhide HW2, hS.getE 0 rfl, hS.bel⟩
set_option maxHeartbeats 8000000 in
theorem rStep10_take_f (w : World) (c : Um.Cf) (m M : Um.Mm) (g cg : Nat) (h s wd : Nat) (la : Option Addr) (nl cl : Nat) (er : Int) (hh : Um.Word h) (hs : Um.Word s) (hn : Um.ook h c.s = true) (hd : M.l.done = false) (hB : BlkAt w g (rowW m.ws c.n)) (hr : c.r = true) (hw : WordsOk c m) (h1 : c.n ≤ cg) (h2 : cg ≤ maxLen) (hM : M = Um.mtouch c m 3 4 (Um.svN h) s (Um.bzN s)) :
    Calls Tryz.prog 47 #[.agg #[.int .u64 (h : Nat), .slice la nl cl, .bool true, .int .u64 (s : Nat), .int .u64 (wd : Nat), .int .i64 er, .bool false], (.agg #[.int .i64 c.t, .int .i64 c.s, .int .i64 c.k, .int .i64 c.g, .int .u64 c.q, (.slice (some ⟨g, 0, none⟩) c.n cg), .int .i64 m.cnt, .int .i64 m.l.kind, .int .i64 m.l.a, .int .i64 m.l.b, .int .u64 (m.l.old : Nat), .int .u64 (m.l.new : Nat), .bool m.l.done])] w fun r w' => ∃ g' cg', r = .returned (.tuple #[.agg #[.int .u64 (h : Nat), .slice la nl cl, .bool false, .int .u64 (s : Nat), .int .u64 (wd : Nat), .int .i64 er, .bool false], (.agg #[.int .i64 c.t, .int .i64 c.s, .int .i64 c.k, .int .i64 c.g, .int .u64 c.q, (.slice (some ⟨g', 0, none⟩) c.n cg'), .int .i64 M.cnt, .int .i64 M.l.kind, .int .i64 M.l.a, .int .i64 M.l.b, .int .u64 (M.l.old : Nat), .int .u64 (M.l.new : Nat), .bool M.l.done])]) ∧ c.n ≤ cg' ∧ cg' ≤ maxLen ∧ Fr w g g' ∧ WordsOk c M ∧ BlkAt w' g' (rowW M.ws c.n) ∧ Below w.heap.size w w' := by
  have hS := Sx.read1 hB
  have HH := hide hh
  have HSW := hide hs
  clear hh hs
  have HN := hide hn
  have HDN := hide hd
  clear hn hd
  have HR := hide hr
  have HW := hide hw
  have HM := hide hM
  clear hB hr hw hM
  go_enter Tryz.func47, Tryz.ntmps47
  go_wp2_with (first | (refine ybox hS (h := ?_); clear hS; intro _ _ hS) | (refine yall hS (h := ?_); clear hS; intro _ _ hS) | refine yld hS (h := ?_) | (refine yst hS (h := ?_); clear hS; intro _ hS))
  refine (rDone10_any h s wd la nl cl true false er c.s _ (unhide HH)).mono ?_
  rintro r u ⟨rfl, hb⟩
  replace hS := hS.call hb
  clear hb
  rw [show (false || !Um.ook h c.s) = false by rw [unhide HN]; rfl]
  go_wp2_with (first | (refine ybox hS (h := ?_); clear hS; intro _ _ hS) | (refine yall hS (h := ?_); clear hS; intro _ _ hS) | refine yld hS (h := ?_) | (refine yst hS (h := ?_); clear hS; intro _ hS))
  refine (rPut26_x hS s (unhide HSW)).mono ?_
  rintro r u ⟨rfl, hSn⟩
  clear hS
  have hS := hSn
  clear hSn
  go_wp2_with fail
  obtain ⟨OB, rfl⟩ := nameB hS 0 rfl
  obtain ⟨MB, rfl⟩ := nameB hS 1 rfl
  obtain ⟨R1, rfl⟩ := nameB hS 2 rfl
  obtain ⟨R2, rfl⟩ := nameB hS 3 rfl
  refine wp_region_ogt (fun ts D ts' w' => ∃ (g' : Nat) (cg' : Nat) (NX : Nat), ts' = putS ts [(48, cond (D 0) (.agg #[.int .i64 c.t, .int .i64 c.s, .int .i64 c.k, .int .i64 c.g, .int .u64 c.q, (.slice (some ⟨g, 0, none⟩) c.n cg), .int .i64 m.cnt, .int .i64 m.l.kind, .int .i64 m.l.a, .int .i64 m.l.b, .int .u64 (m.l.old : Nat), .int .u64 (m.l.new : Nat), .bool m.l.done]) undef), (49, cond (D 1) (.agg #[.int .u64 (h : Nat), .slice la nl cl, .bool true, .int .u64 (s : Nat), .int .u64 (wd : Nat), .int .i64 er, .bool false]) undef), (50, cond (D 2) (.int .i64 (Um.svN h)) undef), (51, cond (D 3) (.pointer (some ⟨OB, 3, none⟩)) undef), (52, cond (D 4) (.int .u64 (s : Nat)) undef), (53, cond (D 5) (.int .u64 (Um.bzN s : Nat)) undef), (54, cond (D 6) (.tuple #[.agg #[.int .i64 c.t, .int .i64 c.s, .int .i64 c.k, .int .i64 c.g, .int .u64 c.q, (.slice (some ⟨g', 0, none⟩) c.n cg'), .int .i64 M.cnt, .int .i64 M.l.kind, .int .i64 M.l.a, .int .i64 M.l.b, .int .u64 (M.l.old : Nat), .int .u64 (M.l.new : Nat), .bool M.l.done], .bool M.l.done]) undef), (47, cond (D 7) (.tuple #[.agg #[.int .i64 c.t, .int .i64 c.s, .int .i64 c.k, .int .i64 c.g, .int .u64 c.q, (.slice (some ⟨g', 0, none⟩) c.n cg'), .int .i64 M.cnt, .int .i64 M.l.kind, .int .i64 M.l.a, .int .i64 M.l.b, .int .u64 (M.l.old : Nat), .int .u64 (M.l.new : Nat), .bool M.l.done], .bool M.l.done]) undef), (55, cond (D 8) (.agg #[.int .i64 c.t, .int .i64 c.s, .int .i64 c.k, .int .i64 c.g, .int .u64 c.q, (.slice (some ⟨g', 0, none⟩) c.n cg'), .int .i64 M.cnt, .int .i64 M.l.kind, .int .i64 M.l.a, .int .i64 M.l.b, .int .u64 (M.l.old : Nat), .int .u64 (M.l.new : Nat), .bool M.l.done]) undef), (56, cond (D 9) (.bool M.l.done) undef), (9, cond (D 10) (.pointer (some ⟨NX, 0, none⟩)) undef), (10, cond (D 12) (.bool M.l.done) undef)] ∧ (D 6 = true → c.n ≤ cg' ∧ cg' ≤ maxLen ∧ Fr w g g' ∧ WordsOk c M) ∧ (D 7 = true → D 6 = true) ∧ (D 8 = true → D 6 = true) ∧ (D 11 = true → D 6 = true) ∧ (D 11 = true → D 10 = true) ∧ Sx [] w w' ([(OB, [.int .u64 (h : Nat), .slice la nl cl, .bool true, .int .u64 (s : Nat), .int .u64 (wd : Nat), .int .i64 er, .bool false]), (MB, [.int .i64 c.t, .int .i64 c.s, .int .i64 c.k, .int .i64 c.g, .int .u64 c.q, (.slice (some ⟨g, 0, none⟩) c.n cg), .int .i64 m.cnt, .int .i64 m.l.kind, .int .i64 m.l.a, .int .i64 m.l.b, .int .u64 (m.l.old : Nat), .int .u64 (m.l.new : Nat), .bool m.l.done]), (R1, [.int .u64 0, .slice none 0 0, .bool false, .int .u64 0, .int .u64 0, .int .i64 0, .bool false]), (R2, [.int .i64 0, .int .i64 0, .int .i64 0, .int .i64 0, .int .u64 0, .slice none 0 0, .int .i64 0, .int .i64 0, .int .i64 0, .int .i64 0, .int .u64 0, .int .u64 0, .bool false])] ++ cond (D 10) [(NX, cond (D 11) [.int .i64 c.t, .int .i64 c.s, .int .i64 c.k, .int .i64 c.g, .int .u64 c.q, (.slice (some ⟨g', 0, none⟩) c.n cg'), .int .i64 M.cnt, .int .i64 M.l.kind, .int .i64 M.l.a, .int .i64 M.l.b, .int .u64 (M.l.old : Nat), .int .u64 (M.l.new : Nat), .bool M.l.done] [.int .i64 0, .int .i64 0, .int .i64 0, .int .i64 0, .int .u64 0, .slice none 0 0, .int .i64 0, .int .i64 0, .int .i64 0, .int .i64 0, .int .u64 0, .int .u64 0, .bool false])] []) [cond (D 6) (g', rowW M.ws c.n) (g, rowW m.ws c.n)]) (by kernel_rfl) (by kernel_rfl) ?start ?steps ?ends
  case start => exact ⟨0, 0, 0, rfl, (fun h => by cases h), (fun h => by cases h), (fun h => by cases h), (fun h => by cases h), (fun h => by cases h), hS.drew⟩
  case steps =>
   intro i o hi D ts' w' hD hpre hI
   obtain ⟨g', cg', NX, rfl, hc, hm, hx, hz, hA, hS⟩ := hI
   dsimp only [putS, List.set]
   match i, hi with
   | 0, hi =>
    cases hi
    refine wpOp_step rfl (fun K hK => ?_)
    refine stp_val rfl (by refine yif_load (S := fun q => q = w') rfl _ _ rfl _ _ rfl _ (fun _ h => h ▸ hS.get 1 rfl) _ (row_any2 rfl) (by exact rfl) _ (by dsimp only [cutL, List.drop, List.take]; first | done | exact rfl)) rfl ?_
    exact hK _ _ ⟨_, rfl, g', cg', NX, rfl, hc, hm, hx, hz, hA, hS⟩
   | 1, hi =>
    cases hi
    refine wpOp_step rfl (fun K hK => ?_)
    refine stp_val rfl (by refine yif_load (S := fun q => q = w') rfl _ _ rfl _ _ rfl _ (fun _ h => h ▸ hS.get 0 rfl) _ (row_any2 rfl) (by exact rfl) _ (by dsimp only [cutL, List.drop, List.take]; first | done | exact rfl)) rfl ?_
    exact hK _ _ ⟨_, rfl, g', cg', NX, rfl, hc, hm, hx, hz, hA, hS⟩
   | 2, hi =>
    cases hi
    have d1 : D 1 = true := og_pre hpre (by kernel_rfl)
    refine wpOp_step rfl (fun K hK => ?_)
    refine stp_call rfl _ _ _ rfl egSl10 _ (lst1_eq (cond_at d1 rfl)) _ rfl ?_
    refine (rSlot10_any h s wd la nl cl true false er _ (unhide HH)).mono ?_
    rintro r u ⟨rfl, hb⟩
    exact ⟨_, rfl, hK _ _ ⟨_, rfl, g', cg', NX, rfl, hc, hm, hx, hz, hA, hS.call hb⟩⟩
   | 3, hi =>
    cases hi
    refine wpOp_step rfl (fun K hK => ?_)
    refine stp_val rfl (yif_by rfl _ (fun w => by go_simp; first | done | exact rfl)) rfl ?_
    exact hK _ _ ⟨_, rfl, g', cg', NX, rfl, hc, hm, hx, hz, hA, hS⟩
   | 4, hi =>
    cases hi
    have d3 : D 3 = true := og_pre hpre (by kernel_rfl)
    refine wpOp_step rfl (fun K hK => ?_)
    refine stp_val rfl (by refine yif_load1 (S := fun q => q = w') rfl _ (.tmp 51) rfl OB 3 ?_ _ (fun _ h => h ▸ hS.get 0 rfl) (one_any2 rfl) _ rfl; exact cond_at d3 rfl) rfl ?_
    exact hK _ _ ⟨_, rfl, g', cg', NX, rfl, hc, hm, hx, hz, hA, hS⟩
   | 5, hi =>
    cases hi
    refine wpOp_step rfl (fun K hK => ?_)
    refine stp_val rfl (yif_by rfl _ (fun w => by go_simp; first | done | exact rfl)) rfl ?_
    exact hK _ _ ⟨_, rfl, g', cg', NX, rfl, hc, hm, hx, hz, hA, hS⟩
   | 6, hi =>
    cases hi
    have d0 : D 0 = true := og_pre hpre (by kernel_rfl)
    have d2 : D 2 = true := og_pre hpre (by kernel_rfl)
    have d4 : D 4 = true := og_pre hpre (by kernel_rfl)
    have d5 : D 5 = true := og_pre hpre (by kernel_rfl)
    refine wpOp_step rfl (fun K hK => ?_)
    refine stp_call rfl _ _ _ rfl egSw10 _ (lst5_eq (cond_at d0 rfl) rfl (cond_at d2 rfl) (cond_at d4 rfl) (cond_at d5 rfl)) _ rfl ?_
    have m0 := og_not hm hD
    have x0 := og_not hx hD
    have z0 := og_not hz hD
    rw [hD, cond_false] at hS
    have hSz := hS.size
    refine (rSwap_x hS 0 rfl (unhide HR) (unhide HW) h1 h2 4 (Um.svN h) s (Um.bzN s) (Um.bz_word (unhide HSW)) M (unhide HM)).mono ?_
    rintro r u ⟨gn, cgn, rfl, q1, q2, hFr, hW2, hSn⟩
    rw [z0] at hSn
    refine ⟨_, rfl, hK _ _ ⟨_, (by simp only [m0, x0]; rfl), gn, cgn, NX, rfl, (fun _ => ⟨q1, q2, (Fr.refl w g).trans hFr hSz, hW2⟩), (fun _ => rfl), (fun _ => rfl), (fun _ => rfl), hA, ?_⟩⟩
    show Sx _ _ _ (_ ++ cond (D 10) [(_, cond (D 11) _ _)] _) _
    rw [z0]
    exact hSn
   | 7, hi =>
    cases hi
    have d6 : D 6 = true := og_pre hpre (by kernel_rfl)
    refine wpOp_step rfl (fun K hK => ?_)
    refine stp_val rfl (by exact yif_mv rfl (.tmp 54) rfl _ (cond_at d6 rfl)) rfl ?_
    exact hK _ _ ⟨_, rfl, g', cg', NX, rfl, hc, (fun _ => d6), hx, hz, hA, hS⟩
   | 8, hi =>
    cases hi
    have d7 : D 7 = true := og_pre hpre (by kernel_rfl)
    refine wpOp_step rfl (fun K hK => ?_)
    refine stp_val rfl (by refine yif_extract rfl (.tmp 47) 0 rfl [.agg #[.int .i64 c.t, .int .i64 c.s, .int .i64 c.k, .int .i64 c.g, .int .u64 c.q, (.slice (some ⟨g', 0, none⟩) c.n cg'), .int .i64 M.cnt, .int .i64 M.l.kind, .int .i64 M.l.a, .int .i64 M.l.b, .int .u64 (M.l.old : Nat), .int .u64 (M.l.new : Nat), .bool M.l.done], .bool M.l.done] ?_ _ rfl; exact cond_at d7 rfl) rfl ?_
    exact hK _ _ ⟨_, rfl, g', cg', NX, rfl, hc, hm, (fun _ => hm d7), hz, hA, hS⟩
   | 9, hi =>
    cases hi
    have d7 : D 7 = true := og_pre hpre (by kernel_rfl)
    refine wpOp_step rfl (fun K hK => ?_)
    refine stp_val rfl (by refine yif_extract rfl (.tmp 47) 1 rfl [.agg #[.int .i64 c.t, .int .i64 c.s, .int .i64 c.k, .int .i64 c.g, .int .u64 c.q, (.slice (some ⟨g', 0, none⟩) c.n cg'), .int .i64 M.cnt, .int .i64 M.l.kind, .int .i64 M.l.a, .int .i64 M.l.b, .int .u64 (M.l.old : Nat), .int .u64 (M.l.new : Nat), .bool M.l.done], .bool M.l.done] ?_ _ rfl; exact cond_at d7 rfl) rfl ?_
    exact hK _ _ ⟨_, rfl, g', cg', NX, rfl, hc, hm, hx, hz, hA, hS⟩
   | 10, hi =>
    cases hi
    refine wpOp_step rfl (fun K hK => ?_)
    have e0 := og_not hA hD
    refine stx_alloc hS rfl _ rfl _ (zer_any2 rfl) _ rfl _ rfl _ (fun _ => rfl) ?_
    intro bn u hS'
    rw [hD, cond_false, List.append_nil] at hS'
    refine hK _ _ ⟨_, rfl, g', cg', bn, rfl, hc, hm, hx, hz, (fun _ => rfl), ?_⟩
    show Sx _ _ _ (_ ++ [(bn, cond (D 11) _ _)]) _
    rw [e0]
    exact hS'
   | 11, hi =>
    cases hi
    have d8 : D 8 = true := og_pre hpre (by kernel_rfl)
    have d10 : D 10 = true := og_pre hpre (by kernel_rfl)
    refine wpOp_step rfl (fun K hK => ?_)
    rw [d10, hD, cond_true, cond_false] at hS
    refine stx_store hS 4 rfl _ _ _ rfl _ _ (cond_at d10 rfl) _ rfl _ (cond_at d8 rfl) _ rfl _ (siz_any2 rfl) (by exact rfl) (by exact rfl) (by exact rfl) rfl ?_
    intro u hS'
    refine hK _ _ ⟨_, rfl, g', cg', NX, rfl, hc, hm, hx, (fun _ => hx d8), (fun _ => d10), ?_⟩
    show Sx _ _ _ (_ ++ cond (D 10) _ _) _
    rw [d10]
    exact hS'
   | 12, hi =>
    cases hi
    have d9 : D 9 = true := og_pre hpre (by kernel_rfl)
    refine wpOp_step rfl (fun K hK => ?_)
    refine stp_val rfl (yif_by rfl _ (fun w => by simp only [d9, cond_true]; go_simp; first | done | exact rfl)) rfl ?_
    exact hK _ _ ⟨_, rfl, g', cg', NX, rfl, hc, hm, hx, hz, hA, hS⟩
   | i + 13, hi => simp at hi
  case ends =>
    intro D ts' w' hall hI
    obtain ⟨g', cg', NX, rfl, hc, hm, hx, hz, hA, hS⟩ := hI
    have d0 : D 0 = true := hall 0 (by decide)
    have d1 : D 1 = true := hall 1 (by decide)
    have d2 : D 2 = true := hall 2 (by decide)
    have d3 : D 3 = true := hall 3 (by decide)
    have d4 : D 4 = true := hall 4 (by decide)
    have d5 : D 5 = true := hall 5 (by decide)
    have d6 : D 6 = true := hall 6 (by decide)
    have d7 : D 7 = true := hall 7 (by decide)
    have d8 : D 8 = true := hall 8 (by decide)
    have d9 : D 9 = true := hall 9 (by decide)
    have d10 : D 10 = true := hall 10 (by decide)
    have d11 : D 11 = true := hall 11 (by decide)
    have d12 : D 12 = true := hall 12 (by decide)
    simp only [d6, d10, d11, cond_true] at hS
    dsimp only [putS, List.set]
    simp only [d0, d1, d2, d3, d4, d5, d6, d7, d8, d9, d10, d12, cond_true]
    obtain ⟨q1, q2, hFr, hW2⟩ := hc d6
    have HW2 := hide hW2
    clear hall hc hm hx hz hA hW2 d0 d1 d2 d3 d4 d5 d6 d7 d8 d9 d10 d11 d12
    dsimp only [List.cons_append, List.nil_append] at hS
    simp only [unhide HDN]
    clear HDN
    go_wp2_with (refine yst hS (h := ?_); clear hS; intro _ hS)
    refine wp_ret2 hS 0 4 2 3 (hQ := ?_)
    · intro _ hS'
      clear hS
      have hS := hS'
      clear hS'
      dsimp only [List.set] at hS ⊢
      go_wp2
      have hZ := hS.get 2 rfl
      have hY := hS.get 3 rfl
      refine bodyPost_ret (v := .tuple #[.agg #[.int .u64 (h : Nat), .slice la nl cl, .bool false, .int .u64 (s : Nat), .int .u64 (wd : Nat), .int .i64 er, .bool false], (.agg #[.int .i64 c.t, .int .i64 c.s, .int .i64 c.k, .int .i64 c.g, .int .u64 c.q, (.slice (some ⟨g', 0, none⟩) c.n cg'), .int .i64 M.cnt, .int .i64 M.l.kind, .int .i64 M.l.a, .int .i64 M.l.b, .int .u64 (M.l.old : Nat), .int .u64 (M.l.new : Nat), .bool M.l.done])]) (by simp [results, Tryz.results47, go_sem, hZ.cell 0 _ rfl, hZ.cell 1 _ rfl, hZ.cell 2 _ rfl, hZ.cell 3 _ rfl, hZ.cell 4 _ rfl, hZ.cell 5 _ rfl, hZ.cell 6 _ rfl, hY.cell 0 _ rfl, hY.cell 1 _ rfl, hY.cell 2 _ rfl, hY.cell 3 _ rfl, hY.cell 4 _ rfl, hY.cell 5 _ rfl, hY.cell 6 _ rfl, hY.cell 7 _ rfl, hY.cell 8 _ rfl, hY.cell 9 _ rfl, hY.cell 10 _ rfl, hY.cell 11 _ rfl, hY.cell 12 _ rfl]) rfl ?_
      exact ⟨g', cg', rfl, q1, q2, hFr, unhide HW2, hS.getE 0 rfl, hS.bel⟩
end
end Go.Proofs.YtapgghciieloaaaGreat
