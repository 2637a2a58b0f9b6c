/-
  Texts that the laws stand on, merged (GateR2).
-/
import Derived.Test.YtapgghciieloaaaGreatQ13

namespace Go.Proofs.YtapgghciieloaaaGreat
section
set_option maxRecDepth 100000
open Go.RowKit Go.Sort
theorem rMoveN_x {bs : List Nat} {w0 w : World} {l e : List (Nat × List Value)} (hS : Sx bs w0 w l e) (x k : Nat) (hk : k < 8) (hx : Um.Word x) :
    Calls Tryz.prog 29 #[.int .u64 (x : Nat), .int .i64 (k : Nat), .bool false] w fun r w' => r = .returned (.int .u64 (Um.moveN x k false : Nat)) ∧ Sx bs w0 w' l e :=
  (refMove_any x (k : Nat) false w hx).mono fun _ _ ⟨h1, n, h2⟩ => ⟨h1.trans (by rw [show (((k : Nat) : Int) % 8).toNat = k by omega]), h2 ▸ hS.drewN n⟩
theorem egMv10 (args : Array Value) (w : World) : (callFunc 29 args).run Tryz.prog w = .ok (.enter 29 args) w := by go_simp
set_option maxHeartbeats 8000000 in
theorem rGo10_done (w : World) (c : Um.Cf) (m : Um.Mm) (g cg : Nat) (sl st : Int) (s : Nat) (lk : Bool) (hB : BlkAt w g (rowW m.ws c.n)) (hr : c.r = true) (hw : WordsOk c m) (h1 : c.n ≤ cg) (h2 : cg ≤ maxLen) :
    Calls Tryz.prog 55 #[.agg #[.int .i64 sl, .int .i64 st, .bool lk, .int .u64 (s : Nat), .bool true], (.agg #[.int .i64 c.t, .int .i64 c.s, .int .i64 c.k, .int .i64 c.g, .int .u64 c.q, (.slice (some ⟨g, 0, none⟩) c.n cg), .int .i64 m.cnt, .int .i64 m.l.kind, .int .i64 m.l.a, .int .i64 m.l.b, .int .u64 (m.l.old : Nat), .int .u64 (m.l.new : Nat), .bool m.l.done])] w fun r w' => ∃ g' cg', r = .returned (.tuple #[.agg #[.int .i64 sl, .int .i64 st, .bool lk, .int .u64 (s : Nat), .bool true], (.agg #[.int .i64 c.t, .int .i64 c.s, .int .i64 c.k, .int .i64 c.g, .int .u64 c.q, (.slice (some ⟨g', 0, none⟩) c.n cg'), .int .i64 m.cnt, .int .i64 m.l.kind, .int .i64 m.l.a, .int .i64 m.l.b, .int .u64 (m.l.old : Nat), .int .u64 (m.l.new : Nat), .bool m.l.done])]) ∧ c.n ≤ cg' ∧ cg' ≤ maxLen ∧ Fr w g g' ∧ WordsOk c m ∧ BlkAt w' g' (rowW m.ws c.n) ∧ Below w.heap.size w w' := by
  have hS := Sx.read1 hB
  have HR := hide hr
  have HW := hide hw
  clear hB hr hw
  go_enter Tryz.func55, Tryz.ntmps55
  go_wp2_with (first | (refine ybox hS (h := ?_); clear hS; intro _ _ hS) | (refine yall hS (h := ?_); clear hS; intro _ _ hS) | refine yld hS (h := ?_) | (refine yst hS (h := ?_); clear hS; intro _ hS))
  obtain ⟨OB, rfl⟩ := nameB hS 0 rfl
  obtain ⟨MB, rfl⟩ := nameB hS 1 rfl
  obtain ⟨R1, rfl⟩ := nameB hS 2 rfl
  obtain ⟨R2, rfl⟩ := nameB hS 3 rfl
  refine wp_ret2 hS 0 1 2 3 (hQ := ?_)
  · intro _ hS'
    clear hS
    have hS := hS'
    clear hS'
    dsimp only [List.set] at hS ⊢
    go_wp2
    have hZ := hS.get 2 rfl
    have hY := hS.get 3 rfl
    refine bodyPost_ret (v := .tuple #[.agg #[.int .i64 sl, .int .i64 st, .bool lk, .int .u64 (s : Nat), .bool true], (.agg #[.int .i64 c.t, .int .i64 c.s, .int .i64 c.k, .int .i64 c.g, .int .u64 c.q, (.slice (some ⟨g, 0, none⟩) c.n cg), .int .i64 m.cnt, .int .i64 m.l.kind, .int .i64 m.l.a, .int .i64 m.l.b, .int .u64 (m.l.old : Nat), .int .u64 (m.l.new : Nat), .bool m.l.done])]) (by simp [results, Tryz.results55, go_sem, hZ.cell 0 _ rfl, hZ.cell 1 _ rfl, hZ.cell 2 _ rfl, hZ.cell 3 _ rfl, hZ.cell 4 _ rfl, hY.cell 0 _ rfl, hY.cell 1 _ rfl, hY.cell 2 _ rfl, hY.cell 3 _ rfl, hY.cell 4 _ rfl, hY.cell 5 _ rfl, hY.cell 6 _ rfl, hY.cell 7 _ rfl, hY.cell 8 _ rfl, hY.cell 9 _ rfl, hY.cell 10 _ rfl, hY.cell 11 _ rfl, hY.cell 12 _ rfl]) rfl ?_
    exact ⟨g, cg, rfl, h1, h2, .inl rfl, unhide HW, hS.getE 0 rfl, hS.bel⟩
set_option maxHeartbeats 8000000 in
theorem rGo10_look (w : World) (c : Um.Cf) (m M : Um.Mm) (g cg : Nat) (sl st : Int) (s : Nat) (hB : BlkAt w g (rowW m.ws c.n)) (hr : c.r = true) (hw : WordsOk c m) (h1 : c.n ≤ cg) (h2 : cg ≤ maxLen) (hM : M = Um.mtouch c m 1 4 sl 0 0) :
    Calls Tryz.prog 55 #[.agg #[.int .i64 sl, .int .i64 st, .bool false, .int .u64 (s : Nat), .bool false], (.agg #[.int .i64 c.t, .int .i64 c.s, .int .i64 c.k, .int .i64 c.g, .int .u64 c.q, (.slice (some ⟨g, 0, none⟩) c.n cg), .int .i64 m.cnt, .int .i64 m.l.kind, .int .i64 m.l.a, .int .i64 m.l.b, .int .u64 (m.l.old : Nat), .int .u64 (m.l.new : Nat), .bool m.l.done])] w fun r w' => ∃ g' cg', r = .returned (.tuple #[.agg #[.int .i64 sl, .int .i64 st, .bool true, .int .u64 (M.l.old : Nat), .bool false], (.agg #[.int .i64 c.t, .int .i64 c.s, .int .i64 c.k, .int .i64 c.g, .int .u64 c.q, (.slice (some ⟨g', 0, none⟩) c.n cg'), .int .i64 M.cnt, .int .i64 M.l.kind, .int .i64 M.l.a, .int .i64 M.l.b, .int .u64 (M.l.old : Nat), .int .u64 (M.l.new : Nat), .bool M.l.done])]) ∧ c.n ≤ cg' ∧ cg' ≤ maxLen ∧ Fr w g g' ∧ WordsOk c M ∧ BlkAt w' g' (rowW M.ws c.n) ∧ Below w.heap.size w w' := by
  have hS := Sx.read1 hB
  have HR := hide hr
  have HW := hide hw
  have HM := hide hM
  clear hB hr hw hM
  go_enter Tryz.func55, Tryz.ntmps55
  go_wp2_with (first | (refine ybox hS (h := ?_); clear hS; intro _ _ hS) | (refine yall hS (h := ?_); clear hS; intro _ _ hS) | refine yld hS (h := ?_) | (refine yst hS (h := ?_); clear hS; intro _ hS))
  have hSz := hS.size
  refine (rLoad_x hS 0 rfl (unhide HR) (unhide HW) h1 h2 4 sl M (unhide HM)).mono ?_
  rintro r u ⟨g', cg', rfl, q1, q2, hFr, hWn, hSn⟩
  clear hS
  have hS := hSn
  clear hSn
  dsimp only [putL, List.set, List.cons_append, List.nil_append] at hS
  have HW2 := hide hWn
  clear hWn
  go_wp2_with (first | (refine ybox hS (h := ?_); clear hS; intro _ _ hS) | (refine yall hS (h := ?_); clear hS; intro _ _ hS) | refine yld hS (h := ?_) | (refine yst hS (h := ?_); clear hS; intro _ hS))
  obtain ⟨OB, rfl⟩ := nameB hS 0 rfl
  obtain ⟨MB, rfl⟩ := nameB hS 1 rfl
  obtain ⟨R1, rfl⟩ := nameB hS 2 rfl
  obtain ⟨R2, rfl⟩ := nameB hS 3 rfl
  obtain ⟨NX, rfl⟩ := nameB hS 4 rfl
  refine wp_ret2 hS 0 4 2 3 (hQ := ?_)
  · intro _ hS'
    clear hS
    have hS := hS'
    clear hS'
    dsimp only [List.set] at hS ⊢
    go_wp2
    have hZ := hS.get 2 rfl
    have hY := hS.get 3 rfl
    refine bodyPost_ret (v := .tuple #[.agg #[.int .i64 sl, .int .i64 st, .bool true, .int .u64 (M.l.old : Nat), .bool false], (.agg #[.int .i64 c.t, .int .i64 c.s, .int .i64 c.k, .int .i64 c.g, .int .u64 c.q, (.slice (some ⟨g', 0, none⟩) c.n cg'), .int .i64 M.cnt, .int .i64 M.l.kind, .int .i64 M.l.a, .int .i64 M.l.b, .int .u64 (M.l.old : Nat), .int .u64 (M.l.new : Nat), .bool M.l.done])]) (by simp [results, Tryz.results55, go_sem, hZ.cell 0 _ rfl, hZ.cell 1 _ rfl, hZ.cell 2 _ rfl, hZ.cell 3 _ rfl, hZ.cell 4 _ rfl, hY.cell 0 _ rfl, hY.cell 1 _ rfl, hY.cell 2 _ rfl, hY.cell 3 _ rfl, hY.cell 4 _ rfl, hY.cell 5 _ rfl, hY.cell 6 _ rfl, hY.cell 7 _ rfl, hY.cell 8 _ rfl, hY.cell 9 _ rfl, hY.cell 10 _ rfl, hY.cell 11 _ rfl, hY.cell 12 _ rfl]) rfl ?_
    exact ⟨g', cg', rfl, q1, q2, (Fr.refl w g).trans hFr hSz, unhide HW2, hS.getE 0 rfl, hS.bel⟩
set_option maxHeartbeats 8000000 in
theorem rGo10_neg (w : World) (c : Um.Cf) (m M : Um.Mm) (g cg : Nat) (sl st : Int) (s : Nat) (k : Nat) (hk : Um.stN s = k) (hk8 : k < 8) (hs : Um.Word s) (hst : st < 0) (hB : BlkAt w g (rowW m.ws c.n)) (hr : c.r = true) (hw : WordsOk c m) (h1 : c.n ≤ cg) (h2 : cg ≤ maxLen) (hM : M = Um.mtouch c m 3 4 sl s (Um.moveN s k false)) :
    Calls Tryz.prog 55 #[.agg #[.int .i64 sl, .int .i64 st, .bool true, .int .u64 (s : Nat), .bool false], (.agg #[.int .i64 c.t, .int .i64 c.s, .int .i64 c.k, .int .i64 c.g, .int .u64 c.q, (.slice (some ⟨g, 0, none⟩) c.n cg), .int .i64 m.cnt, .int .i64 m.l.kind, .int .i64 m.l.a, .int .i64 m.l.b, .int .u64 (m.l.old : Nat), .int .u64 (m.l.new : Nat), .bool m.l.done])] w fun r w' => ∃ g' cg', r = .returned (.tuple #[.agg #[.int .i64 sl, .int .i64 st, .bool false, .int .u64 (s : Nat), .bool M.l.done], (.agg #[.int .i64 c.t, .int .i64 c.s, .int .i64 c.k, .int .i64 c.g, .int .u64 c.q, (.slice (some ⟨g', 0, none⟩) c.n cg'), .int .i64 M.cnt, .int .i64 M.l.kind, .int .i64 M.l.a, .int .i64 M.l.b, .int .u64 (M.l.old : Nat), .int .u64 (M.l.new : Nat), .bool M.l.done])]) ∧ c.n ≤ cg' ∧ cg' ≤ maxLen ∧ Fr w g g' ∧ WordsOk c M ∧ BlkAt w' g' (rowW M.ws c.n) ∧ Below w.heap.size w w' := by
  have hS := Sx.read1 hB
  have HSW := hide hs
  have HK := hide hk
  have p1 : decide (st < 0) = true := decide_eq_true hst
  clear hs hk
  have HR := hide hr
  have HW := hide hw
  have HM := hide hM
  clear hB hr hw hM
  go_enter Tryz.func55, Tryz.ntmps55
  go_wp2_with (first | (refine ybox hS (h := ?_); clear hS; intro _ _ hS) | (refine yall hS (h := ?_); clear hS; intro _ _ hS) | refine yld hS (h := ?_) | (refine yst hS (h := ?_); clear hS; intro _ hS))
  refine (state_lit10 (unhide HSW) (unhide HK) _).mono ?_
  rintro r u ⟨rfl, hb⟩
  replace hS := hS.call hb
  clear hb
  go_wp2_with fail
  obtain ⟨OB, rfl⟩ := nameB hS 0 rfl
  obtain ⟨MB, rfl⟩ := nameB hS 1 rfl
  obtain ⟨R1, rfl⟩ := nameB hS 2 rfl
  obtain ⟨R2, rfl⟩ := nameB hS 3 rfl
  refine wp_region_ogt (fun ts D ts' w' => ∃ (g' : Nat) (cg' : Nat) (NX : Nat), ts' = putS ts [(42, cond (D 0) (.agg #[.int .i64 c.t, .int .i64 c.s, .int .i64 c.k, .int .i64 c.g, .int .u64 c.q, (.slice (some ⟨g, 0, none⟩) c.n cg), .int .i64 m.cnt, .int .i64 m.l.kind, .int .i64 m.l.a, .int .i64 m.l.b, .int .u64 (m.l.old : Nat), .int .u64 (m.l.new : Nat), .bool m.l.done]) undef), (43, cond (D 1) (.pointer (some ⟨OB, 0, none⟩)) undef), (44, cond (D 2) (.int .i64 sl) undef), (45, cond (D 3) (.pointer (some ⟨OB, 3, none⟩)) undef), (46, cond (D 4) (.int .u64 (s : Nat)) undef), (47, cond (D 5) (.pointer (some ⟨OB, 3, none⟩)) undef), (48, cond (D 6) (.int .u64 (s : Nat)) undef), (49, cond (D 7) (.int .i64 (k : Nat)) undef), (50, cond (D 8) (.int .u64 (Um.moveN s k false : Nat)) undef), (51, cond (D 9) (.tuple #[.agg #[.int .i64 c.t, .int .i64 c.s, .int .i64 c.k, .int .i64 c.g, .int .u64 c.q, (.slice (some ⟨g', 0, none⟩) c.n cg'), .int .i64 M.cnt, .int .i64 M.l.kind, .int .i64 M.l.a, .int .i64 M.l.b, .int .u64 (M.l.old : Nat), .int .u64 (M.l.new : Nat), .bool M.l.done], .bool M.l.done]) undef), (41, cond (D 10) (.tuple #[.agg #[.int .i64 c.t, .int .i64 c.s, .int .i64 c.k, .int .i64 c.g, .int .u64 c.q, (.slice (some ⟨g', 0, none⟩) c.n cg'), .int .i64 M.cnt, .int .i64 M.l.kind, .int .i64 M.l.a, .int .i64 M.l.b, .int .u64 (M.l.old : Nat), .int .u64 (M.l.new : Nat), .bool M.l.done], .bool M.l.done]) undef), (52, cond (D 11) (.agg #[.int .i64 c.t, .int .i64 c.s, .int .i64 c.k, .int .i64 c.g, .int .u64 c.q, (.slice (some ⟨g', 0, none⟩) c.n cg'), .int .i64 M.cnt, .int .i64 M.l.kind, .int .i64 M.l.a, .int .i64 M.l.b, .int .u64 (M.l.old : Nat), .int .u64 (M.l.new : Nat), .bool M.l.done]) undef), (53, cond (D 12) (.bool M.l.done) undef), (9, cond (D 13) (.pointer (some ⟨NX, 0, none⟩)) undef), (10, cond (D 15) (.bool M.l.done) undef)] ∧ (D 9 = true → c.n ≤ cg' ∧ cg' ≤ maxLen ∧ Fr w g g' ∧ WordsOk c M) ∧ (D 10 = true → D 9 = true) ∧ (D 11 = true → D 9 = true) ∧ (D 14 = true → D 9 = true) ∧ (D 14 = true → D 13 = true) ∧ Sx [] w w' ([(OB, [.int .i64 sl, .int .i64 st, .bool true, .int .u64 (s : Nat), .bool false]), (MB, [.int .i64 c.t, .int .i64 c.s, .int .i64 c.k, .int .i64 c.g, .int .u64 c.q, (.slice (some ⟨g, 0, none⟩) c.n cg), .int .i64 m.cnt, .int .i64 m.l.kind, .int .i64 m.l.a, .int .i64 m.l.b, .int .u64 (m.l.old : Nat), .int .u64 (m.l.new : Nat), .bool m.l.done]), (R1, [.int .i64 0, .int .i64 0, .bool false, .int .u64 0, .bool false]), (R2, [.int .i64 0, .int .i64 0, .int .i64 0, .int .i64 0, .int .u64 0, .slice none 0 0, .int .i64 0, .int .i64 0, .int .i64 0, .int .i64 0, .int .u64 0, .int .u64 0, .bool false])] ++ cond (D 13) [(NX, cond (D 14) [.int .i64 c.t, .int .i64 c.s, .int .i64 c.k, .int .i64 c.g, .int .u64 c.q, (.slice (some ⟨g', 0, none⟩) c.n cg'), .int .i64 M.cnt, .int .i64 M.l.kind, .int .i64 M.l.a, .int .i64 M.l.b, .int .u64 (M.l.old : Nat), .int .u64 (M.l.new : Nat), .bool M.l.done] [.int .i64 0, .int .i64 0, .int .i64 0, .int .i64 0, .int .u64 0, .slice none 0 0, .int .i64 0, .int .i64 0, .int .i64 0, .int .i64 0, .int .u64 0, .int .u64 0, .bool false])] []) [cond (D 9) (g', rowW M.ws c.n) (g, rowW m.ws c.n)]) (by kernel_rfl) (by kernel_rfl) ?start ?steps ?ends
  case start => exact ⟨0, 0, 0, rfl, (fun h => by cases h), (fun h => by cases h), (fun h => by cases h), (fun h => by cases h), (fun h => by cases h), hS.drew⟩
  case steps =>
   intro i o hi D ts' w' hD hpre hI
   obtain ⟨g', cg', NX, rfl, hc, hm, hx, hz, hA, hS⟩ := hI
   dsimp only [putS, List.set]
   match i, hi with
   | 0, hi =>
    cases hi
    refine wpOp_step rfl (fun K hK => ?_)
    refine stp_val rfl (by refine yif_load (S := fun q => q = w') rfl _ _ rfl _ _ rfl _ (fun _ h => h ▸ hS.get 1 rfl) _ (row_any2 rfl) (by exact rfl) _ (by dsimp only [cutL, List.drop, List.take]; first | done | exact rfl)) rfl ?_
    exact hK _ _ ⟨_, rfl, g', cg', NX, rfl, hc, hm, hx, hz, hA, hS⟩
   | 1, hi =>
    cases hi
    refine wpOp_step rfl (fun K hK => ?_)
    refine stp_val rfl (yif_by rfl _ (fun w => by go_simp; first | done | exact rfl)) rfl ?_
    exact hK _ _ ⟨_, rfl, g', cg', NX, rfl, hc, hm, hx, hz, hA, hS⟩
   | 2, hi =>
    cases hi
    have d1 : D 1 = true := og_pre hpre (by kernel_rfl)
    refine wpOp_step rfl (fun K hK => ?_)
    refine stp_val rfl (by refine yif_load1 (S := fun q => q = w') rfl _ (.tmp 43) rfl OB 0 ?_ _ (fun _ h => h ▸ hS.get 0 rfl) (one_any2 rfl) _ rfl; exact cond_at d1 rfl) rfl ?_
    exact hK _ _ ⟨_, rfl, g', cg', NX, rfl, hc, hm, hx, hz, hA, hS⟩
   | 3, hi =>
    cases hi
    refine wpOp_step rfl (fun K hK => ?_)
    refine stp_val rfl (yif_by rfl _ (fun w => by go_simp; first | done | exact rfl)) rfl ?_
    exact hK _ _ ⟨_, rfl, g', cg', NX, rfl, hc, hm, hx, hz, hA, hS⟩
   | 4, hi =>
    cases hi
    have d3 : D 3 = true := og_pre hpre (by kernel_rfl)
    refine wpOp_step rfl (fun K hK => ?_)
    refine stp_val rfl (by refine yif_load1 (S := fun q => q = w') rfl _ (.tmp 45) rfl OB 3 ?_ _ (fun _ h => h ▸ hS.get 0 rfl) (one_any2 rfl) _ rfl; exact cond_at d3 rfl) rfl ?_
    exact hK _ _ ⟨_, rfl, g', cg', NX, rfl, hc, hm, hx, hz, hA, hS⟩
   | 5, hi =>
    cases hi
    refine wpOp_step rfl (fun K hK => ?_)
    refine stp_val rfl (yif_by rfl _ (fun w => by go_simp; first | done | exact rfl)) rfl ?_
    exact hK _ _ ⟨_, rfl, g', cg', NX, rfl, hc, hm, hx, hz, hA, hS⟩
   | 6, hi =>
    cases hi
    have d5 : D 5 = true := og_pre hpre (by kernel_rfl)
    refine wpOp_step rfl (fun K hK => ?_)
    refine stp_val rfl (by refine yif_load1 (S := fun q => q = w') rfl _ (.tmp 47) rfl OB 3 ?_ _ (fun _ h => h ▸ hS.get 0 rfl) (one_any2 rfl) _ rfl; exact cond_at d5 rfl) rfl ?_
    exact hK _ _ ⟨_, rfl, g', cg', NX, rfl, hc, hm, hx, hz, hA, hS⟩
   | 7, hi =>
    cases hi
    refine wpOp_step rfl (fun K hK => ?_)
    refine stp_val rfl (yif_by rfl _ (fun w => by go_simp; first | done | exact rfl)) rfl ?_
    exact hK _ _ ⟨_, rfl, g', cg', NX, rfl, hc, hm, hx, hz, hA, hS⟩
   | 8, hi =>
    cases hi
    have d6 : D 6 = true := og_pre hpre (by kernel_rfl)
    have d7 : D 7 = true := og_pre hpre (by kernel_rfl)
    refine wpOp_step rfl (fun K hK => ?_)
    refine stp_call rfl _ _ _ rfl egMv10 _ (lst3_eq (cond_at d6 rfl) (cond_at d7 rfl) rfl) _ rfl ?_
    refine (rMoveN_x hS s k hk8 (unhide HSW)).mono ?_
    rintro r u ⟨rfl, hb⟩
    exact ⟨_, rfl, hK _ _ ⟨_, rfl, g', cg', NX, rfl, hc, hm, hx, hz, hA, hb⟩⟩
   | 9, hi =>
    cases hi
    have d0 : D 0 = true := og_pre hpre (by kernel_rfl)
    have d2 : D 2 = true := og_pre hpre (by kernel_rfl)
    have d4 : D 4 = true := og_pre hpre (by kernel_rfl)
    have d8 : D 8 = true := og_pre hpre (by kernel_rfl)
    refine wpOp_step rfl (fun K hK => ?_)
    refine stp_call rfl _ _ _ rfl egSw10 _ (lst5_eq (cond_at d0 rfl) rfl (cond_at d2 rfl) (cond_at d4 rfl) (cond_at d8 rfl)) _ rfl ?_
    have m0 := og_not hm hD
    have x0 := og_not hx hD
    have z0 := og_not hz hD
    rw [hD, cond_false] at hS
    have hSz := hS.size
    refine (rSwap_x hS 0 rfl (unhide HR) (unhide HW) h1 h2 4 sl s (Um.moveN s k false) (Um.move_word (unhide HSW) hk8) M (unhide HM)).mono ?_
    rintro r u ⟨gn, cgn, rfl, q1, q2, hFr, hW2, hSn⟩
    rw [z0] at hSn
    refine ⟨_, rfl, hK _ _ ⟨_, (by simp only [m0, x0]; rfl), gn, cgn, NX, rfl, (fun _ => ⟨q1, q2, (Fr.refl w g).trans hFr hSz, hW2⟩), (fun _ => rfl), (fun _ => rfl), (fun _ => rfl), hA, ?_⟩⟩
    show Sx _ _ _ (_ ++ cond (D 13) [(_, cond (D 14) _ _)] _) _
    rw [z0]
    exact hSn
   | 10, hi =>
    cases hi
    have d9 : D 9 = true := og_pre hpre (by kernel_rfl)
    refine wpOp_step rfl (fun K hK => ?_)
    refine stp_val rfl (by exact yif_mv rfl (.tmp 51) rfl _ (cond_at d9 rfl)) rfl ?_
    exact hK _ _ ⟨_, rfl, g', cg', NX, rfl, hc, (fun _ => d9), hx, hz, hA, hS⟩
   | 11, hi =>
    cases hi
    have d10 : D 10 = true := og_pre hpre (by kernel_rfl)
    refine wpOp_step rfl (fun K hK => ?_)
    refine stp_val rfl (by refine yif_extract rfl (.tmp 41) 0 rfl [.agg #[.int .i64 c.t, .int .i64 c.s, .int .i64 c.k, .int .i64 c.g, .int .u64 c.q, (.slice (some ⟨g', 0, none⟩) c.n cg'), .int .i64 M.cnt, .int .i64 M.l.kind, .int .i64 M.l.a, .int .i64 M.l.b, .int .u64 (M.l.old : Nat), .int .u64 (M.l.new : Nat), .bool M.l.done], .bool M.l.done] ?_ _ rfl; exact cond_at d10 rfl) rfl ?_
    exact hK _ _ ⟨_, rfl, g', cg', NX, rfl, hc, hm, (fun _ => hm d10), hz, hA, hS⟩
   | 12, hi =>
    cases hi
    have d10 : D 10 = true := og_pre hpre (by kernel_rfl)
    refine wpOp_step rfl (fun K hK => ?_)
    refine stp_val rfl (by refine yif_extract rfl (.tmp 41) 1 rfl [.agg #[.int .i64 c.t, .int .i64 c.s, .int .i64 c.k, .int .i64 c.g, .int .u64 c.q, (.slice (some ⟨g', 0, none⟩) c.n cg'), .int .i64 M.cnt, .int .i64 M.l.kind, .int .i64 M.l.a, .int .i64 M.l.b, .int .u64 (M.l.old : Nat), .int .u64 (M.l.new : Nat), .bool M.l.done], .bool M.l.done] ?_ _ rfl; exact cond_at d10 rfl) rfl ?_
    exact hK _ _ ⟨_, rfl, g', cg', NX, rfl, hc, hm, hx, hz, hA, hS⟩
   | 13, hi =>
    cases hi
    refine wpOp_step rfl (fun K hK => ?_)
    have e0 := og_not hA hD
    refine stx_alloc hS rfl _ rfl _ (zer_any2 rfl) _ rfl _ rfl _ (fun _ => rfl) ?_
    intro bn u hS'
    rw [hD, cond_false, List.append_nil] at hS'
    refine hK _ _ ⟨_, rfl, g', cg', bn, rfl, hc, hm, hx, hz, (fun _ => rfl), ?_⟩
    show Sx _ _ _ (_ ++ [(bn, cond (D 14) _ _)]) _
    rw [e0]
    exact hS'
   | 14, hi =>
    cases hi
    have d11 : D 11 = true := og_pre hpre (by kernel_rfl)
    have d13 : D 13 = true := og_pre hpre (by kernel_rfl)
    refine wpOp_step rfl (fun K hK => ?_)
    rw [d13, hD, cond_true, cond_false] at hS
    refine stx_store hS 4 rfl _ _ _ rfl _ _ (cond_at d13 rfl) _ rfl _ (cond_at d11 rfl) _ rfl _ (siz_any2 rfl) (by exact rfl) (by exact rfl) (by exact rfl) rfl ?_
    intro u hS'
    refine hK _ _ ⟨_, rfl, g', cg', NX, rfl, hc, hm, hx, (fun _ => hx d11), (fun _ => d13), ?_⟩
    show Sx _ _ _ (_ ++ cond (D 13) _ _) _
    rw [d13]
    exact hS'
   | 15, hi =>
    cases hi
    have d12 : D 12 = true := og_pre hpre (by kernel_rfl)
    refine wpOp_step rfl (fun K hK => ?_)
    refine stp_val rfl (yif_by rfl _ (fun w => by simp only [d12, cond_true]; go_simp; first | done | exact rfl)) rfl ?_
    exact hK _ _ ⟨_, rfl, g', cg', NX, rfl, hc, hm, hx, hz, hA, hS⟩
   | i + 16, hi => simp at hi
  case ends =>
    intro D ts' w' hall hI
    obtain ⟨g', cg', NX, rfl, hc, hm, hx, hz, hA, hS⟩ := hI
    have d0 : D 0 = true := hall 0 (by decide)
    have d1 : D 1 = true := hall 1 (by decide)
    have d2 : D 2 = true := hall 2 (by decide)
    have d3 : D 3 = true := hall 3 (by decide)
    have d4 : D 4 = true := hall 4 (by decide)
    have d5 : D 5 = true := hall 5 (by decide)
    have d6 : D 6 = true := hall 6 (by decide)
    have d7 : D 7 = true := hall 7 (by decide)
    have d8 : D 8 = true := hall 8 (by decide)
    have d9 : D 9 = true := hall 9 (by decide)
    have d10 : D 10 = true := hall 10 (by decide)
    have d11 : D 11 = true := hall 11 (by decide)
    have d12 : D 12 = true := hall 12 (by decide)
    have d13 : D 13 = true := hall 13 (by decide)
    have d14 : D 14 = true := hall 14 (by decide)
    have d15 : D 15 = true := hall 15 (by decide)
    simp only [d9, d13, d14, cond_true] at hS
    dsimp only [putS, List.set]
    simp only [d0, d1, d2, d3, d4, d5, d6, d7, d8, d9, d10, d11, d12, d13, d15, cond_true]
    obtain ⟨q1, q2, hFr, hW2⟩ := hc d9
    have HW2 := hide hW2
    clear hall hc hm hx hz hA hW2 d0 d1 d2 d3 d4 d5 d6 d7 d8 d9 d10 d11 d12 d13 d14 d15
    dsimp only [List.cons_append, List.nil_append] at hS
    go_wp2_with (refine yst hS (h := ?_); clear hS; intro _ hS)
    refine wp_ret2 hS 0 4 2 3 (hQ := ?_)
    · intro _ hS'
      clear hS
      have hS := hS'
      clear hS'
      dsimp only [List.set] at hS ⊢
      go_wp2
      have hZ := hS.get 2 rfl
      have hY := hS.get 3 rfl
      refine bodyPost_ret (v := .tuple #[.agg #[.int .i64 sl, .int .i64 st, .bool false, .int .u64 (s : Nat), .bool M.l.done], (.agg #[.int .i64 c.t, .int .i64 c.s, .int .i64 c.k, .int .i64 c.g, .int .u64 c.q, (.slice (some ⟨g', 0, none⟩) c.n cg'), .int .i64 M.cnt, .int .i64 M.l.kind, .int .i64 M.l.a, .int .i64 M.l.b, .int .u64 (M.l.old : Nat), .int .u64 (M.l.new : Nat), .bool M.l.done])]) (by simp [results, Tryz.results55, go_sem, hZ.cell 0 _ rfl, hZ.cell 1 _ rfl, hZ.cell 2 _ rfl, hZ.cell 3 _ rfl, hZ.cell 4 _ rfl, hY.cell 0 _ rfl, hY.cell 1 _ rfl, hY.cell 2 _ rfl, hY.cell 3 _ rfl, hY.cell 4 _ rfl, hY.cell 5 _ rfl, hY.cell 6 _ rfl, hY.cell 7 _ rfl, hY.cell 8 _ rfl, hY.cell 9 _ rfl, hY.cell 10 _ rfl, hY.cell 11 _ rfl, hY.cell 12 _ rfl]) rfl ?_
      exact ⟨g', cg', rfl, q1, q2, hFr, unhide HW2, hS.getE 0 rfl, hS.bel⟩
set_option maxHeartbeats 8000000 in
theorem rGo10_big (w : World) (c : Um.Cf) (m M : Um.Mm) (g cg : Nat) (sl st : Int) (s : Nat) (k : Nat) (hk : Um.stN s = k) (hk8 : k < 8) (hs : Um.Word s) (hst : 7 < st) (hB : BlkAt w g (rowW m.ws c.n)) (hr : c.r = true) (hw : WordsOk c m) (h1 : c.n ≤ cg) (h2 : cg ≤ maxLen) (hM : M = Um.mtouch c m 3 4 sl s (Um.moveN s k false)) :
    Calls Tryz.prog 55 #[.agg #[.int .i64 sl, .int .i64 st, .bool true, .int .u64 (s : Nat), .bool false], (.agg #[.int .i64 c.t, .int .i64 c.s, .int .i64 c.k, .int .i64 c.g, .int .u64 c.q, (.slice (some ⟨g, 0, none⟩) c.n cg), .int .i64 m.cnt, .int .i64 m.l.kind, .int .i64 m.l.a, .int .i64 m.l.b, .int .u64 (m.l.old : Nat), .int .u64 (m.l.new : Nat), .bool m.l.done])] w fun r w' => ∃ g' cg', r = .returned (.tuple #[.agg #[.int .i64 sl, .int .i64 st, .bool false, .int .u64 (s : Nat), .bool M.l.done], (.agg #[.int .i64 c.t, .int .i64 c.s, .int .i64 c.k, .int .i64 c.g, .int .u64 c.q, (.slice (some ⟨g', 0, none⟩) c.n cg'), .int .i64 M.cnt, .int .i64 M.l.kind, .int .i64 M.l.a, .int .i64 M.l.b, .int .u64 (M.l.old : Nat), .int .u64 (M.l.new : Nat), .bool M.l.done])]) ∧ c.n ≤ cg' ∧ cg' ≤ maxLen ∧ Fr w g g' ∧ WordsOk c M ∧ BlkAt w' g' (rowW M.ws c.n) ∧ Below w.heap.size w w' := by
  have hS := Sx.read1 hB
  have HSW := hide hs
  have HK := hide hk
  have p0 : ¬ st < 0 := by omega
  have p1 : decide (st < 0) = false := decide_eq_false p0
  have p2 : decide (7 < st) = true := decide_eq_true hst
  clear hs hk
  have HR := hide hr
  have HW := hide hw
  have HM := hide hM
  clear hB hr hw hM
  go_enter Tryz.func55, Tryz.ntmps55
  go_wp2_with (first | (refine ybox hS (h := ?_); clear hS; intro _ _ hS) | (refine yall hS (h := ?_); clear hS; intro _ _ hS) | refine yld hS (h := ?_) | (refine yst hS (h := ?_); clear hS; intro _ hS))
  refine (state_lit10 (unhide HSW) (unhide HK) _).mono ?_
  rintro r u ⟨rfl, hb⟩
  replace hS := hS.call hb
  clear hb
  go_wp2_with fail
  obtain ⟨OB, rfl⟩ := nameB hS 0 rfl
  obtain ⟨MB, rfl⟩ := nameB hS 1 rfl
  obtain ⟨R1, rfl⟩ := nameB hS 2 rfl
  obtain ⟨R2, rfl⟩ := nameB hS 3 rfl
  refine wp_region_ogt (fun ts D ts' w' => ∃ (g' : Nat) (cg' : Nat) (NX : Nat), ts' = putS ts [(42, cond (D 0) (.agg #[.int .i64 c.t, .int .i64 c.s, .int .i64 c.k, .int .i64 c.g, .int .u64 c.q, (.slice (some ⟨g, 0, none⟩) c.n cg), .int .i64 m.cnt, .int .i64 m.l.kind, .int .i64 m.l.a, .int .i64 m.l.b, .int .u64 (m.l.old : Nat), .int .u64 (m.l.new : Nat), .bool m.l.done]) undef), (43, cond (D 1) (.pointer (some ⟨OB, 0, none⟩)) undef), (44, cond (D 2) (.int .i64 sl) undef), (45, cond (D 3) (.pointer (some ⟨OB, 3, none⟩)) undef), (46, cond (D 4) (.int .u64 (s : Nat)) undef), (47, cond (D 5) (.pointer (some ⟨OB, 3, none⟩)) undef), (48, cond (D 6) (.int .u64 (s : Nat)) undef), (49, cond (D 7) (.int .i64 (k : Nat)) undef), (50, cond (D 8) (.int .u64 (Um.moveN s k false : Nat)) undef), (51, cond (D 9) (.tuple #[.agg #[.int .i64 c.t, .int .i64 c.s, .int .i64 c.k, .int .i64 c.g, .int .u64 c.q, (.slice (some ⟨g', 0, none⟩) c.n cg'), .int .i64 M.cnt, .int .i64 M.l.kind, .int .i64 M.l.a, .int .i64 M.l.b, .int .u64 (M.l.old : Nat), .int .u64 (M.l.new : Nat), .bool M.l.done], .bool M.l.done]) undef), (41, cond (D 10) (.tuple #[.agg #[.int .i64 c.t, .int .i64 c.s, .int .i64 c.k, .int .i64 c.g, .int .u64 c.q, (.slice (some ⟨g', 0, none⟩) c.n cg'), .int .i64 M.cnt, .int .i64 M.l.kind, .int .i64 M.l.a, .int .i64 M.l.b, .int .u64 (M.l.old : Nat), .int .u64 (M.l.new : Nat), .bool M.l.done], .bool M.l.done]) undef), (52, cond (D 11) (.agg #[.int .i64 c.t, .int .i64 c.s, .int .i64 c.k, .int .i64 c.g, .int .u64 c.q, (.slice (some ⟨g', 0, none⟩) c.n cg'), .int .i64 M.cnt, .int .i64 M.l.kind, .int .i64 M.l.a, .int .i64 M.l.b, .int .u64 (M.l.old : Nat), .int .u64 (M.l.new : Nat), .bool M.l.done]) undef), (53, cond (D 12) (.bool M.l.done) undef), (9, cond (D 13) (.pointer (some ⟨NX, 0, none⟩)) undef), (10, cond (D 15) (.bool M.l.done) undef)] ∧ (D 9 = true → c.n ≤ cg' ∧ cg' ≤ maxLen ∧ Fr w g g' ∧ WordsOk c M) ∧ (D 10 = true → D 9 = true) ∧ (D 11 = true → D 9 = true) ∧ (D 14 = true → D 9 = true) ∧ (D 14 = true → D 13 = true) ∧ Sx [] w w' ([(OB, [.int .i64 sl, .int .i64 st, .bool true, .int .u64 (s : Nat), .bool false]), (MB, [.int .i64 c.t, .int .i64 c.s, .int .i64 c.k, .int .i64 c.g, .int .u64 c.q, (.slice (some ⟨g, 0, none⟩) c.n cg), .int .i64 m.cnt, .int .i64 m.l.kind, .int .i64 m.l.a, .int .i64 m.l.b, .int .u64 (m.l.old : Nat), .int .u64 (m.l.new : Nat), .bool m.l.done]), (R1, [.int .i64 0, .int .i64 0, .bool false, .int .u64 0, .bool false]), (R2, [.int .i64 0, .int .i64 0, .int .i64 0, .int .i64 0, .int .u64 0, .slice none 0 0, .int .i64 0, .int .i64 0, .int .i64 0, .int .i64 0, .int .u64 0, .int .u64 0, .bool false])] ++ cond (D 13) [(NX, cond (D 14) [.int .i64 c.t, .int .i64 c.s, .int .i64 c.k, .int .i64 c.g, .int .u64 c.q, (.slice (some ⟨g', 0, none⟩) c.n cg'), .int .i64 M.cnt, .int .i64 M.l.kind, .int .i64 M.l.a, .int .i64 M.l.b, .int .u64 (M.l.old : Nat), .int .u64 (M.l.new : Nat), .bool M.l.done] [.int .i64 0, .int .i64 0, .int .i64 0, .int .i64 0, .int .u64 0, .slice none 0 0, .int .i64 0, .int .i64 0, .int .i64 0, .int .i64 0, .int .u64 0, .int .u64 0, .bool false])] []) [cond (D 9) (g', rowW M.ws c.n) (g, rowW m.ws c.n)]) (by kernel_rfl) (by kernel_rfl) ?start ?steps ?ends
  case start => exact ⟨0, 0, 0, rfl, (fun h => by cases h), (fun h => by cases h), (fun h => by cases h), (fun h => by cases h), (fun h => by cases h), hS.drew⟩
  case steps =>
   intro i o hi D ts' w' hD hpre hI
   obtain ⟨g', cg', NX, rfl, hc, hm, hx, hz, hA, hS⟩ := hI
   dsimp only [putS, List.set]
   match i, hi with
   | 0, hi =>
    cases hi
    refine wpOp_step rfl (fun K hK => ?_)
    refine stp_val rfl (by refine yif_load (S := fun q => q = w') rfl _ _ rfl _ _ rfl _ (fun _ h => h ▸ hS.get 1 rfl) _ (row_any2 rfl) (by exact rfl) _ (by dsimp only [cutL, List.drop, List.take]; first | done | exact rfl)) rfl ?_
    exact hK _ _ ⟨_, rfl, g', cg', NX, rfl, hc, hm, hx, hz, hA, hS⟩
   | 1, hi =>
    cases hi
    refine wpOp_step rfl (fun K hK => ?_)
    refine stp_val rfl (yif_by rfl _ (fun w => by go_simp; first | done | exact rfl)) rfl ?_
    exact hK _ _ ⟨_, rfl, g', cg', NX, rfl, hc, hm, hx, hz, hA, hS⟩
   | 2, hi =>
    cases hi
    have d1 : D 1 = true := og_pre hpre (by kernel_rfl)
    refine wpOp_step rfl (fun K hK => ?_)
    refine stp_val rfl (by refine yif_load1 (S := fun q => q = w') rfl _ (.tmp 43) rfl OB 0 ?_ _ (fun _ h => h ▸ hS.get 0 rfl) (one_any2 rfl) _ rfl; exact cond_at d1 rfl) rfl ?_
    exact hK _ _ ⟨_, rfl, g', cg', NX, rfl, hc, hm, hx, hz, hA, hS⟩
   | 3, hi =>
    cases hi
    refine wpOp_step rfl (fun K hK => ?_)
    refine stp_val rfl (yif_by rfl _ (fun w => by go_simp; first | done | exact rfl)) rfl ?_
    exact hK _ _ ⟨_, rfl, g', cg', NX, rfl, hc, hm, hx, hz, hA, hS⟩
   | 4, hi =>
    cases hi
    have d3 : D 3 = true := og_pre hpre (by kernel_rfl)
    refine wpOp_step rfl (fun K hK => ?_)
    refine stp_val rfl (by refine yif_load1 (S := fun q => q = w') rfl _ (.tmp 45) rfl OB 3 ?_ _ (fun _ h => h ▸ hS.get 0 rfl) (one_any2 rfl) _ rfl; exact cond_at d3 rfl) rfl ?_
    exact hK _ _ ⟨_, rfl, g', cg', NX, rfl, hc, hm, hx, hz, hA, hS⟩
   | 5, hi =>
    cases hi
    refine wpOp_step rfl (fun K hK => ?_)
    refine stp_val rfl (yif_by rfl _ (fun w => by go_simp; first | done | exact rfl)) rfl ?_
    exact hK _ _ ⟨_, rfl, g', cg', NX, rfl, hc, hm, hx, hz, hA, hS⟩
   | 6, hi =>
    cases hi
    have d5 : D 5 = true := og_pre hpre (by kernel_rfl)
    refine wpOp_step rfl (fun K hK => ?_)
    refine stp_val rfl (by refine yif_load1 (S := fun q => q = w') rfl _ (.tmp 47) rfl OB 3 ?_ _ (fun _ h => h ▸ hS.get 0 rfl) (one_any2 rfl) _ rfl; exact cond_at d5 rfl) rfl ?_
    exact hK _ _ ⟨_, rfl, g', cg', NX, rfl, hc, hm, hx, hz, hA, hS⟩
   | 7, hi =>
    cases hi
    refine wpOp_step rfl (fun K hK => ?_)
    refine stp_val rfl (yif_by rfl _ (fun w => by go_simp; first | done | exact rfl)) rfl ?_
    exact hK _ _ ⟨_, rfl, g', cg', NX, rfl, hc, hm, hx, hz, hA, hS⟩
   | 8, hi =>
    cases hi
    have d6 : D 6 = true := og_pre hpre (by kernel_rfl)
    have d7 : D 7 = true := og_pre hpre (by kernel_rfl)
    refine wpOp_step rfl (fun K hK => ?_)
    refine stp_call rfl _ _ _ rfl egMv10 _ (lst3_eq (cond_at d6 rfl) (cond_at d7 rfl) rfl) _ rfl ?_
    refine (rMoveN_x hS s k hk8 (unhide HSW)).mono ?_
    rintro r u ⟨rfl, hb⟩
    exact ⟨_, rfl, hK _ _ ⟨_, rfl, g', cg', NX, rfl, hc, hm, hx, hz, hA, hb⟩⟩
   | 9, hi =>
    cases hi
    have d0 : D 0 = true := og_pre hpre (by kernel_rfl)
    have d2 : D 2 = true := og_pre hpre (by kernel_rfl)
    have d4 : D 4 = true := og_pre hpre (by kernel_rfl)
    have d8 : D 8 = true := og_pre hpre (by kernel_rfl)
    refine wpOp_step rfl (fun K hK => ?_)
    refine stp_call rfl _ _ _ rfl egSw10 _ (lst5_eq (cond_at d0 rfl) rfl (cond_at d2 rfl) (cond_at d4 rfl) (cond_at d8 rfl)) _ rfl ?_
    have m0 := og_not hm hD
    have x0 := og_not hx hD
    have z0 := og_not hz hD
    rw [hD, cond_false] at hS
    have hSz := hS.size
    refine (rSwap_x hS 0 rfl (unhide HR) (unhide HW) h1 h2 4 sl s (Um.moveN s k false) (Um.move_word (unhide HSW) hk8) M (unhide HM)).mono ?_
    rintro r u ⟨gn, cgn, rfl, q1, q2, hFr, hW2, hSn⟩
    rw [z0] at hSn
    refine ⟨_, rfl, hK _ _ ⟨_, (by simp only [m0, x0]; rfl), gn, cgn, NX, rfl, (fun _ => ⟨q1, q2, (Fr.refl w g).trans hFr hSz, hW2⟩), (fun _ => rfl), (fun _ => rfl), (fun _ => rfl), hA, ?_⟩⟩
    show Sx _ _ _ (_ ++ cond (D 13) [(_, cond (D 14) _ _)] _) _
    rw [z0]
    exact hSn
   | 10, hi =>
    cases hi
    have d9 : D 9 = true := og_pre hpre (by kernel_rfl)
    refine wpOp_step rfl (fun K hK => ?_)
    refine stp_val rfl (by exact yif_mv rfl (.tmp 51) rfl _ (cond_at d9 rfl)) rfl ?_
    exact hK _ _ ⟨_, rfl, g', cg', NX, rfl, hc, (fun _ => d9), hx, hz, hA, hS⟩
   | 11, hi =>
    cases hi
    have d10 : D 10 = true := og_pre hpre (by kernel_rfl)
    refine wpOp_step rfl (fun K hK => ?_)
    refine stp_val rfl (by refine yif_extract rfl (.tmp 41) 0 rfl [.agg #[.int .i64 c.t, .int .i64 c.s, .int .i64 c.k, .int .i64 c.g, .int .u64 c.q, (.slice (some ⟨g', 0, none⟩) c.n cg'), .int .i64 M.cnt, .int .i64 M.l.kind, .int .i64 M.l.a, .int .i64 M.l.b, .int .u64 (M.l.old : Nat), .int .u64 (M.l.new : Nat), .bool M.l.done], .bool M.l.done] ?_ _ rfl; exact cond_at d10 rfl) rfl ?_
    exact hK _ _ ⟨_, rfl, g', cg', NX, rfl, hc, hm, (fun _ => hm d10), hz, hA, hS⟩
   | 12, hi =>
    cases hi
    have d10 : D 10 = true := og_pre hpre (by kernel_rfl)
    refine wpOp_step rfl (fun K hK => ?_)
    refine stp_val rfl (by refine yif_extract rfl (.tmp 41) 1 rfl [.agg #[.int .i64 c.t, .int .i64 c.s, .int .i64 c.k, .int .i64 c.g, .int .u64 c.q, (.slice (some ⟨g', 0, none⟩) c.n cg'), .int .i64 M.cnt, .int .i64 M.l.kind, .int .i64 M.l.a, .int .i64 M.l.b, .int .u64 (M.l.old : Nat), .int .u64 (M.l.new : Nat), .bool M.l.done], .bool M.l.done] ?_ _ rfl; exact cond_at d10 rfl) rfl ?_
    exact hK _ _ ⟨_, rfl, g', cg', NX, rfl, hc, hm, hx, hz, hA, hS⟩
   | 13, hi =>
    cases hi
    refine wpOp_step rfl (fun K hK => ?_)
    have e0 := og_not hA hD
    refine stx_alloc hS rfl _ rfl _ (zer_any2 rfl) _ rfl _ rfl _ (fun _ => rfl) ?_
    intro bn u hS'
    rw [hD, cond_false, List.append_nil] at hS'
    refine hK _ _ ⟨_, rfl, g', cg', bn, rfl, hc, hm, hx, hz, (fun _ => rfl), ?_⟩
    show Sx _ _ _ (_ ++ [(bn, cond (D 14) _ _)]) _
    rw [e0]
    exact hS'
   | 14, hi =>
    cases hi
    have d11 : D 11 = true := og_pre hpre (by kernel_rfl)
    have d13 : D 13 = true := og_pre hpre (by kernel_rfl)
    refine wpOp_step rfl (fun K hK => ?_)
    rw [d13, hD, cond_true, cond_false] at hS
    refine stx_store hS 4 rfl _ _ _ rfl _ _ (cond_at d13 rfl) _ rfl _ (cond_at d11 rfl) _ rfl _ (siz_any2 rfl) (by exact rfl) (by exact rfl) (by exact rfl) rfl ?_
    intro u hS'
    refine hK _ _ ⟨_, rfl, g', cg', NX, rfl, hc, hm, hx, (fun _ => hx d11), (fun _ => d13), ?_⟩
    show Sx _ _ _ (_ ++ cond (D 13) _ _) _
    rw [d13]
    exact hS'
   | 15, hi =>
    cases hi
    have d12 : D 12 = true := og_pre hpre (by kernel_rfl)
    refine wpOp_step rfl (fun K hK => ?_)
    refine stp_val rfl (yif_by rfl _ (fun w => by simp only [d12, cond_true]; go_simp; first | done | exact rfl)) rfl ?_
    exact hK _ _ ⟨_, rfl, g', cg', NX, rfl, hc, hm, hx, hz, hA, hS⟩
   | i + 16, hi => simp at hi
  case ends =>
    intro D ts' w' hall hI
    obtain ⟨g', cg', NX, rfl, hc, hm, hx, hz, hA, hS⟩ := hI
    have d0 : D 0 = true := hall 0 (by decide)
    have d1 : D 1 = true := hall 1 (by decide)
    have d2 : D 2 = true := hall 2 (by decide)
    have d3 : D 3 = true := hall 3 (by decide)
    have d4 : D 4 = true := hall 4 (by decide)
    have d5 : D 5 = true := hall 5 (by decide)
    have d6 : D 6 = true := hall 6 (by decide)
    have d7 : D 7 = true := hall 7 (by decide)
    have d8 : D 8 = true := hall 8 (by decide)
    have d9 : D 9 = true := hall 9 (by decide)
    have d10 : D 10 = true := hall 10 (by decide)
    have d11 : D 11 = true := hall 11 (by decide)
    have d12 : D 12 = true := hall 12 (by decide)
    have d13 : D 13 = true := hall 13 (by decide)
    have d14 : D 14 = true := hall 14 (by decide)
    have d15 : D 15 = true := hall 15 (by decide)
    simp only [d9, d13, d14, cond_true] at hS
    dsimp only [putS, List.set]
    simp only [d0, d1, d2, d3, d4, d5, d6, d7, d8, d9, d10, d11, d12, d13, d15, cond_true]
    obtain ⟨q1, q2, hFr, hW2⟩ := hc d9
    have HW2 := hide hW2
    clear hall hc hm hx hz hA hW2 d0 d1 d2 d3 d4 d5 d6 d7 d8 d9 d10 d11 d12 d13 d14 d15
    dsimp only [List.cons_append, List.nil_append] at hS
    go_wp2_with (refine yst hS (h := ?_); clear hS; intro _ hS)
    refine wp_ret2 hS 0 4 2 3 (hQ := ?_)
    · intro _ hS'
      clear hS
      have hS := hS'
      clear hS'
      dsimp only [List.set] at hS ⊢
      go_wp2
      have hZ := hS.get 2 rfl
      have hY := hS.get 3 rfl
      refine bodyPost_ret (v := .tuple #[.agg #[.int .i64 sl, .int .i64 st, .bool false, .int .u64 (s : Nat), .bool M.l.done], (.agg #[.int .i64 c.t, .int .i64 c.s, .int .i64 c.k, .int .i64 c.g, .int .u64 c.q, (.slice (some ⟨g', 0, none⟩) c.n cg'), .int .i64 M.cnt, .int .i64 M.l.kind, .int .i64 M.l.a, .int .i64 M.l.b, .int .u64 (M.l.old : Nat), .int .u64 (M.l.new : Nat), .bool M.l.done])]) (by simp [results, Tryz.results55, go_sem, hZ.cell 0 _ rfl, hZ.cell 1 _ rfl, hZ.cell 2 _ rfl, hZ.cell 3 _ rfl, hZ.cell 4 _ rfl, hY.cell 0 _ rfl, hY.cell 1 _ rfl, hY.cell 2 _ rfl, hY.cell 3 _ rfl, hY.cell 4 _ rfl, hY.cell 5 _ rfl, hY.cell 6 _ rfl, hY.cell 7 _ rfl, hY.cell 8 _ rfl, hY.cell 9 _ rfl, hY.cell 10 _ rfl, hY.cell 11 _ rfl, hY.cell 12 _ rfl]) rfl ?_
      exact ⟨g', cg', rfl, q1, q2, hFr, unhide HW2, hS.getE 0 rfl, hS.bel⟩
set_option maxHeartbeats 8000000 in
theorem rGo10_own (w : World) (c : Um.Cf) (m M : Um.Mm) (g cg : Nat) (sl : Int) (k s : Nat) (hk8 : k < 8) (hs : Um.Word s) (hB : BlkAt w g (rowW m.ws c.n)) (hr : c.r = true) (hw : WordsOk c m) (h1 : c.n ≤ cg) (h2 : cg ≤ maxLen) (hM : M = Um.mtouch c m 3 4 sl s (Um.moveN s k false)) :
    Calls Tryz.prog 55 #[.agg #[.int .i64 sl, .int .i64 (k : Nat), .bool true, .int .u64 (s : Nat), .bool false], (.agg #[.int .i64 c.t, .int .i64 c.s, .int .i64 c.k, .int .i64 c.g, .int .u64 c.q, (.slice (some ⟨g, 0, none⟩) c.n cg), .int .i64 m.cnt, .int .i64 m.l.kind, .int .i64 m.l.a, .int .i64 m.l.b, .int .u64 (m.l.old : Nat), .int .u64 (m.l.new : Nat), .bool m.l.done])] w fun r w' => ∃ g' cg', r = .returned (.tuple #[.agg #[.int .i64 sl, .int .i64 (k : Nat), .bool false, .int .u64 (s : Nat), .bool M.l.done], (.agg #[.int .i64 c.t, .int .i64 c.s, .int .i64 c.k, .int .i64 c.g, .int .u64 c.q, (.slice (some ⟨g', 0, none⟩) c.n cg'), .int .i64 M.cnt, .int .i64 M.l.kind, .int .i64 M.l.a, .int .i64 M.l.b, .int .u64 (M.l.old : Nat), .int .u64 (M.l.new : Nat), .bool M.l.done])]) ∧ c.n ≤ cg' ∧ cg' ≤ maxLen ∧ Fr w g g' ∧ WordsOk c M ∧ BlkAt w' g' (rowW M.ws c.n) ∧ Below w.heap.size w w' := by
  have hS := Sx.read1 hB
  have HSW := hide hs
  have p0 : ¬ (k : Int) < 0 := by omega
  have p1 : decide ((k : Int) < 0) = false := decide_eq_false p0
  have p3 : ¬ 7 < (k : Int) := by omega
  have p2 : decide (7 < (k : Int)) = false := decide_eq_false p3
  clear hs
  have HR := hide hr
  have HW := hide hw
  have HM := hide hM
  clear hB hr hw hM
  go_enter Tryz.func55, Tryz.ntmps55
  go_wp2_with (first | (refine ybox hS (h := ?_); clear hS; intro _ _ hS) | (refine yall hS (h := ?_); clear hS; intro _ _ hS) | refine yld hS (h := ?_) | (refine yst hS (h := ?_); clear hS; intro _ hS))
  obtain ⟨OB, rfl⟩ := nameB hS 0 rfl
  obtain ⟨MB, rfl⟩ := nameB hS 1 rfl
  obtain ⟨R1, rfl⟩ := nameB hS 2 rfl
  obtain ⟨R2, rfl⟩ := nameB hS 3 rfl
  refine wp_region_ogt (fun ts D ts' w' => ∃ (g' : Nat) (cg' : Nat) (NX : Nat), ts' = putS ts [(42, cond (D 0) (.agg #[.int .i64 c.t, .int .i64 c.s, .int .i64 c.k, .int .i64 c.g, .int .u64 c.q, (.slice (some ⟨g, 0, none⟩) c.n cg), .int .i64 m.cnt, .int .i64 m.l.kind, .int .i64 m.l.a, .int .i64 m.l.b, .int .u64 (m.l.old : Nat), .int .u64 (m.l.new : Nat), .bool m.l.done]) undef), (43, cond (D 1) (.pointer (some ⟨OB, 0, none⟩)) undef), (44, cond (D 2) (.int .i64 sl) undef), (45, cond (D 3) (.pointer (some ⟨OB, 3, none⟩)) undef), (46, cond (D 4) (.int .u64 (s : Nat)) undef), (47, cond (D 5) (.pointer (some ⟨OB, 3, none⟩)) undef), (48, cond (D 6) (.int .u64 (s : Nat)) undef), (49, cond (D 7) (.int .i64 (k : Nat)) undef), (50, cond (D 8) (.int .u64 (Um.moveN s k false : Nat)) undef), (51, cond (D 9) (.tuple #[.agg #[.int .i64 c.t, .int .i64 c.s, .int .i64 c.k, .int .i64 c.g, .int .u64 c.q, (.slice (some ⟨g', 0, none⟩) c.n cg'), .int .i64 M.cnt, .int .i64 M.l.kind, .int .i64 M.l.a, .int .i64 M.l.b, .int .u64 (M.l.old : Nat), .int .u64 (M.l.new : Nat), .bool M.l.done], .bool M.l.done]) undef), (41, cond (D 10) (.tuple #[.agg #[.int .i64 c.t, .int .i64 c.s, .int .i64 c.k, .int .i64 c.g, .int .u64 c.q, (.slice (some ⟨g', 0, none⟩) c.n cg'), .int .i64 M.cnt, .int .i64 M.l.kind, .int .i64 M.l.a, .int .i64 M.l.b, .int .u64 (M.l.old : Nat), .int .u64 (M.l.new : Nat), .bool M.l.done], .bool M.l.done]) undef), (52, cond (D 11) (.agg #[.int .i64 c.t, .int .i64 c.s, .int .i64 c.k, .int .i64 c.g, .int .u64 c.q, (.slice (some ⟨g', 0, none⟩) c.n cg'), .int .i64 M.cnt, .int .i64 M.l.kind, .int .i64 M.l.a, .int .i64 M.l.b, .int .u64 (M.l.old : Nat), .int .u64 (M.l.new : Nat), .bool M.l.done]) undef), (53, cond (D 12) (.bool M.l.done) undef), (9, cond (D 13) (.pointer (some ⟨NX, 0, none⟩)) undef), (10, cond (D 15) (.bool M.l.done) undef)] ∧ (D 9 = true → c.n ≤ cg' ∧ cg' ≤ maxLen ∧ Fr w g g' ∧ WordsOk c M) ∧ (D 10 = true → D 9 = true) ∧ (D 11 = true → D 9 = true) ∧ (D 14 = true → D 9 = true) ∧ (D 14 = true → D 13 = true) ∧ Sx [] w w' ([(OB, [.int .i64 sl, .int .i64 (k : Nat), .bool true, .int .u64 (s : Nat), .bool false]), (MB, [.int .i64 c.t, .int .i64 c.s, .int .i64 c.k, .int .i64 c.g, .int .u64 c.q, (.slice (some ⟨g, 0, none⟩) c.n cg), .int .i64 m.cnt, .int .i64 m.l.kind, .int .i64 m.l.a, .int .i64 m.l.b, .int .u64 (m.l.old : Nat), .int .u64 (m.l.new : Nat), .bool m.l.done]), (R1, [.int .i64 0, .int .i64 0, .bool false, .int .u64 0, .bool false]), (R2, [.int .i64 0, .int .i64 0, .int .i64 0, .int .i64 0, .int .u64 0, .slice none 0 0, .int .i64 0, .int .i64 0, .int .i64 0, .int .i64 0, .int .u64 0, .int .u64 0, .bool false])] ++ cond (D 13) [(NX, cond (D 14) [.int .i64 c.t, .int .i64 c.s, .int .i64 c.k, .int .i64 c.g, .int .u64 c.q, (.slice (some ⟨g', 0, none⟩) c.n cg'), .int .i64 M.cnt, .int .i64 M.l.kind, .int .i64 M.l.a, .int .i64 M.l.b, .int .u64 (M.l.old : Nat), .int .u64 (M.l.new : Nat), .bool M.l.done] [.int .i64 0, .int .i64 0, .int .i64 0, .int .i64 0, .int .u64 0, .slice none 0 0, .int .i64 0, .int .i64 0, .int .i64 0, .int .i64 0, .int .u64 0, .int .u64 0, .bool false])] []) [cond (D 9) (g', rowW M.ws c.n) (g, rowW m.ws c.n)]) (by kernel_rfl) (by kernel_rfl) ?start ?steps ?ends
  case start => exact ⟨0, 0, 0, rfl, (fun h => by cases h), (fun h => by cases h), (fun h => by cases h), (fun h => by cases h), (fun h => by cases h), hS.drew⟩
  case steps =>
   intro i o hi D ts' w' hD hpre hI
   obtain ⟨g', cg', NX, rfl, hc, hm, hx, hz, hA, hS⟩ := hI
   dsimp only [putS, List.set]
   match i, hi with
   | 0, hi =>
    cases hi
    refine wpOp_step rfl (fun K hK => ?_)
    refine stp_val rfl (by refine yif_load (S := fun q => q = w') rfl _ _ rfl _ _ rfl _ (fun _ h => h ▸ hS.get 1 rfl) _ (row_any2 rfl) (by exact rfl) _ (by dsimp only [cutL, List.drop, List.take]; first | done | exact rfl)) rfl ?_
    exact hK _ _ ⟨_, rfl, g', cg', NX, rfl, hc, hm, hx, hz, hA, hS⟩
   | 1, hi =>
    cases hi
    refine wpOp_step rfl (fun K hK => ?_)
    refine stp_val rfl (yif_by rfl _ (fun w => by go_simp; first | done | exact rfl)) rfl ?_
    exact hK _ _ ⟨_, rfl, g', cg', NX, rfl, hc, hm, hx, hz, hA, hS⟩
   | 2, hi =>
    cases hi
    have d1 : D 1 = true := og_pre hpre (by kernel_rfl)
    refine wpOp_step rfl (fun K hK => ?_)
    refine stp_val rfl (by refine yif_load1 (S := fun q => q = w') rfl _ (.tmp 43) rfl OB 0 ?_ _ (fun _ h => h ▸ hS.get 0 rfl) (one_any2 rfl) _ rfl; exact cond_at d1 rfl) rfl ?_
    exact hK _ _ ⟨_, rfl, g', cg', NX, rfl, hc, hm, hx, hz, hA, hS⟩
   | 3, hi =>
    cases hi
    refine wpOp_step rfl (fun K hK => ?_)
    refine stp_val rfl (yif_by rfl _ (fun w => by go_simp; first | done | exact rfl)) rfl ?_
    exact hK _ _ ⟨_, rfl, g', cg', NX, rfl, hc, hm, hx, hz, hA, hS⟩
   | 4, hi =>
    cases hi
    have d3 : D 3 = true := og_pre hpre (by kernel_rfl)
    refine wpOp_step rfl (fun K hK => ?_)
    refine stp_val rfl (by refine yif_load1 (S := fun q => q = w') rfl _ (.tmp 45) rfl OB 3 ?_ _ (fun _ h => h ▸ hS.get 0 rfl) (one_any2 rfl) _ rfl; exact cond_at d3 rfl) rfl ?_
    exact hK _ _ ⟨_, rfl, g', cg', NX, rfl, hc, hm, hx, hz, hA, hS⟩
   | 5, hi =>
    cases hi
    refine wpOp_step rfl (fun K hK => ?_)
    refine stp_val rfl (yif_by rfl _ (fun w => by go_simp; first | done | exact rfl)) rfl ?_
    exact hK _ _ ⟨_, rfl, g', cg', NX, rfl, hc, hm, hx, hz, hA, hS⟩
   | 6, hi =>
    cases hi
    have d5 : D 5 = true := og_pre hpre (by kernel_rfl)
    refine wpOp_step rfl (fun K hK => ?_)
    refine stp_val rfl (by refine yif_load1 (S := fun q => q = w') rfl _ (.tmp 47) rfl OB 3 ?_ _ (fun _ h => h ▸ hS.get 0 rfl) (one_any2 rfl) _ rfl; exact cond_at d5 rfl) rfl ?_
    exact hK _ _ ⟨_, rfl, g', cg', NX, rfl, hc, hm, hx, hz, hA, hS⟩
   | 7, hi =>
    cases hi
    refine wpOp_step rfl (fun K hK => ?_)
    refine stp_val rfl (yif_by rfl _ (fun w => by go_simp; first | done | exact rfl)) rfl ?_
    exact hK _ _ ⟨_, rfl, g', cg', NX, rfl, hc, hm, hx, hz, hA, hS⟩
   | 8, hi =>
    cases hi
    have d6 : D 6 = true := og_pre hpre (by kernel_rfl)
    have d7 : D 7 = true := og_pre hpre (by kernel_rfl)
    refine wpOp_step rfl (fun K hK => ?_)
    refine stp_call rfl _ _ _ rfl egMv10 _ (lst3_eq (cond_at d6 rfl) (cond_at d7 rfl) rfl) _ rfl ?_
    refine (rMoveN_x hS s k hk8 (unhide HSW)).mono ?_
    rintro r u ⟨rfl, hb⟩
    exact ⟨_, rfl, hK _ _ ⟨_, rfl, g', cg', NX, rfl, hc, hm, hx, hz, hA, hb⟩⟩
   | 9, hi =>
    cases hi
    have d0 : D 0 = true := og_pre hpre (by kernel_rfl)
    have d2 : D 2 = true := og_pre hpre (by kernel_rfl)
    have d4 : D 4 = true := og_pre hpre (by kernel_rfl)
    have d8 : D 8 = true := og_pre hpre (by kernel_rfl)
    refine wpOp_step rfl (fun K hK => ?_)
    refine stp_call rfl _ _ _ rfl egSw10 _ (lst5_eq (cond_at d0 rfl) rfl (cond_at d2 rfl) (cond_at d4 rfl) (cond_at d8 rfl)) _ rfl ?_
    have m0 := og_not hm hD
    have x0 := og_not hx hD
    have z0 := og_not hz hD
    rw [hD, cond_false] at hS
    have hSz := hS.size
    refine (rSwap_x hS 0 rfl (unhide HR) (unhide HW) h1 h2 4 sl s (Um.moveN s k false) (Um.move_word (unhide HSW) hk8) M (unhide HM)).mono ?_
    rintro r u ⟨gn, cgn, rfl, q1, q2, hFr, hW2, hSn⟩
    rw [z0] at hSn
    refine ⟨_, rfl, hK _ _ ⟨_, (by simp only [m0, x0]; rfl), gn, cgn, NX, rfl, (fun _ => ⟨q1, q2, (Fr.refl w g).trans hFr hSz, hW2⟩), (fun _ => rfl), (fun _ => rfl), (fun _ => rfl), hA, ?_⟩⟩
    show Sx _ _ _ (_ ++ cond (D 13) [(_, cond (D 14) _ _)] _) _
    rw [z0]
    exact hSn
   | 10, hi =>
    cases hi
    have d9 : D 9 = true := og_pre hpre (by kernel_rfl)
    refine wpOp_step rfl (fun K hK => ?_)
    refine stp_val rfl (by exact yif_mv rfl (.tmp 51) rfl _ (cond_at d9 rfl)) rfl ?_
    exact hK _ _ ⟨_, rfl, g', cg', NX, rfl, hc, (fun _ => d9), hx, hz, hA, hS⟩
   | 11, hi =>
    cases hi
    have d10 : D 10 = true := og_pre hpre (by kernel_rfl)
    refine wpOp_step rfl (fun K hK => ?_)
    refine stp_val rfl (by refine yif_extract rfl (.tmp 41) 0 rfl [.agg #[.int .i64 c.t, .int .i64 c.s, .int .i64 c.k, .int .i64 c.g, .int .u64 c.q, (.slice (some ⟨g', 0, none⟩) c.n cg'), .int .i64 M.cnt, .int .i64 M.l.kind, .int .i64 M.l.a, .int .i64 M.l.b, .int .u64 (M.l.old : Nat), .int .u64 (M.l.new : Nat), .bool M.l.done], .bool M.l.done] ?_ _ rfl; exact cond_at d10 rfl) rfl ?_
    exact hK _ _ ⟨_, rfl, g', cg', NX, rfl, hc, hm, (fun _ => hm d10), hz, hA, hS⟩
   | 12, hi =>
    cases hi
    have d10 : D 10 = true := og_pre hpre (by kernel_rfl)
    refine wpOp_step rfl (fun K hK => ?_)
    refine stp_val rfl (by refine yif_extract rfl (.tmp 41) 1 rfl [.agg #[.int .i64 c.t, .int .i64 c.s, .int .i64 c.k, .int .i64 c.g, .int .u64 c.q, (.slice (some ⟨g', 0, none⟩) c.n cg'), .int .i64 M.cnt, .int .i64 M.l.kind, .int .i64 M.l.a, .int .i64 M.l.b, .int .u64 (M.l.old : Nat), .int .u64 (M.l.new : Nat), .bool M.l.done], .bool M.l.done] ?_ _ rfl; exact cond_at d10 rfl) rfl ?_
    exact hK _ _ ⟨_, rfl, g', cg', NX, rfl, hc, hm, hx, hz, hA, hS⟩
   | 13, hi =>
    cases hi
    refine wpOp_step rfl (fun K hK => ?_)
    have e0 := og_not hA hD
    refine stx_alloc hS rfl _ rfl _ (zer_any2 rfl) _ rfl _ rfl _ (fun _ => rfl) ?_
    intro bn u hS'
    rw [hD, cond_false, List.append_nil] at hS'
    refine hK _ _ ⟨_, rfl, g', cg', bn, rfl, hc, hm, hx, hz, (fun _ => rfl), ?_⟩
    show Sx _ _ _ (_ ++ [(bn, cond (D 14) _ _)]) _
    rw [e0]
    exact hS'
   | 14, hi =>
    cases hi
    have d11 : D 11 = true := og_pre hpre (by kernel_rfl)
    have d13 : D 13 = true := og_pre hpre (by kernel_rfl)
    refine wpOp_step rfl (fun K hK => ?_)
    rw [d13, hD, cond_true, cond_false] at hS
    refine stx_store hS 4 rfl _ _ _ rfl _ _ (cond_at d13 rfl) _ rfl _ (cond_at d11 rfl) _ rfl _ (siz_any2 rfl) (by exact rfl) (by exact rfl) (by exact rfl) rfl ?_
    intro u hS'
    refine hK _ _ ⟨_, rfl, g', cg', NX, rfl, hc, hm, hx, (fun _ => hx d11), (fun _ => d13), ?_⟩
    show Sx _ _ _ (_ ++ cond (D 13) _ _) _
    rw [d13]
    exact hS'
   | 15, hi =>
    cases hi
    have d12 : D 12 = true := og_pre hpre (by kernel_rfl)
    refine wpOp_step rfl (fun K hK => ?_)
    refine stp_val rfl (yif_by rfl _ (fun w => by simp only [d12, cond_true]; go_simp; first | done | exact rfl)) rfl ?_
    exact hK _ _ ⟨_, rfl, g', cg', NX, rfl, hc, hm, hx, hz, hA, hS⟩
   | i + 16, hi => simp at hi
  case ends =>
    intro D ts' w' hall hI
    obtain ⟨g', cg', NX, rfl, hc, hm, hx, hz, hA, hS⟩ := hI
    have d0 : D 0 = true := hall 0 (by decide)
    have d1 : D 1 = true := hall 1 (by decide)
    have d2 : D 2 = true := hall 2 (by decide)
    have d3 : D 3 = true := hall 3 (by decide)
    have d4 : D 4 = true := hall 4 (by decide)
    have d5 : D 5 = true := hall 5 (by decide)
    have d6 : D 6 = true := hall 6 (by decide)
    have d7 : D 7 = true := hall 7 (by decide)
    have d8 : D 8 = true := hall 8 (by decide)
    have d9 : D 9 = true := hall 9 (by decide)
    have d10 : D 10 = true := hall 10 (by decide)
    have d11 : D 11 = true := hall 11 (by decide)
    have d12 : D 12 = true := hall 12 (by decide)
    have d13 : D 13 = true := hall 13 (by decide)
    have d14 : D 14 = true := hall 14 (by decide)
    have d15 : D 15 = true := hall 15 (by decide)
    simp only [d9, d13, d14, cond_true] at hS
    dsimp only [putS, List.set]
    simp only [d0, d1, d2, d3, d4, d5, d6, d7, d8, d9, d10, d11, d12, d13, d15, cond_true]
    obtain ⟨q1, q2, hFr, hW2⟩ := hc d9
    have HW2 := hide hW2
    clear hall hc hm hx hz hA hW2 d0 d1 d2 d3 d4 d5 d6 d7 d8 d9 d10 d11 d12 d13 d14 d15
    dsimp only [List.cons_append, List.nil_append] at hS
    go_wp2_with (refine yst hS (h := ?_); clear hS; intro _ hS)
    refine wp_ret2 hS 0 4 2 3 (hQ := ?_)
    · intro _ hS'
      clear hS
      have hS := hS'
      clear hS'
      dsimp only [List.set] at hS ⊢
      go_wp2
      have hZ := hS.get 2 rfl
      have hY := hS.get 3 rfl
      refine bodyPost_ret (v := .tuple #[.agg #[.int .i64 sl, .int .i64 (k : Nat), .bool false, .int .u64 (s : Nat), .bool M.l.done], (.agg #[.int .i64 c.t, .int .i64 c.s, .int .i64 c.k, .int .i64 c.g, .int .u64 c.q, (.slice (some ⟨g', 0, none⟩) c.n cg'), .int .i64 M.cnt, .int .i64 M.l.kind, .int .i64 M.l.a, .int .i64 M.l.b, .int .u64 (M.l.old : Nat), .int .u64 (M.l.new : Nat), .bool M.l.done])]) (by simp [results, Tryz.results55, go_sem, hZ.cell 0 _ rfl, hZ.cell 1 _ rfl, hZ.cell 2 _ rfl, hZ.cell 3 _ rfl, hZ.cell 4 _ rfl, hY.cell 0 _ rfl, hY.cell 1 _ rfl, hY.cell 2 _ rfl, hY.cell 3 _ rfl, hY.cell 4 _ rfl, hY.cell 5 _ rfl, hY.cell 6 _ rfl, hY.cell 7 _ rfl, hY.cell 8 _ rfl, hY.cell 9 _ rfl, hY.cell 10 _ rfl, hY.cell 11 _ rfl, hY.cell 12 _ rfl]) rfl ?_
      exact ⟨g', cg', rfl, q1, q2, hFr, unhide HW2, hS.getE 0 rfl, hS.bel⟩
end
end Go.Proofs.YtapgghciieloaaaGreat
