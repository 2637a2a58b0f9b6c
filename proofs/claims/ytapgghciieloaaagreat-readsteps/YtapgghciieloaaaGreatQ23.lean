/-
  Texts that the laws stand on, merged (ReadR10, ReadRA, ReadRS).
-/
import Derived.Test.YtapgghciieloaaaGreatQ15
import Derived.Test.YtapgghciieloaaaGreatQ17
import Derived.Test.YtapgghciieloaaaGreatQ18
import Derived.Test.YtapgghciieloaaaGreatQ22

namespace Go.Proofs.YtapgghciieloaaaGreat
section
set_option maxRecDepth 100000
open Go.RowKit Go.Sort
set_option linter.unusedVariables false
set_option linter.unusedSimpArgs false
set_option maxHeartbeats 8000000 in
theorem rStep12_enterb_on (w : World) (c : Um.Cf) (m M : Um.Mm) (g cg : Nat) (r : R12) (gt2 : Bool) (gs2 gw2 : Nat) (ge2 : Int) (hB : BlkAt w g (rowW m.ws c.n))
    (HJ : ∀ u, BlkAt u g (rowW m.ws c.n) → Below w.heap.size w u → Calls Tryz.prog 47 #[.agg #[.int .u64 (r.gh : Nat), .slice r.va r.vn r.vc, .bool r.gt, .int .u64 (r.gs : Nat), .int .u64 (r.gw : Nat), .int .i64 r.ge, .bool r.gn], (.agg #[.int .i64 c.t, .int .i64 c.s, .int .i64 c.k, .int .i64 c.g, .int .u64 c.q, (.slice (some ⟨g, 0, none⟩) c.n cg), .int .i64 m.cnt, .int .i64 m.l.kind, .int .i64 m.l.a, .int .i64 m.l.b, .int .u64 (m.l.old : Nat), .int .u64 (m.l.new : Nat), .bool m.l.done])] u fun e w' => ∃ g' cg', e = .returned (.tuple #[.agg #[.int .u64 (r.gh : Nat), .slice r.va r.vn r.vc, .bool gt2, .int .u64 (gs2 : Nat), .int .u64 (gw2 : Nat), .int .i64 ge2, .bool false], (.agg #[.int .i64 c.t, .int .i64 c.s, .int .i64 c.k, .int .i64 c.g, .int .u64 c.q, (.slice (some ⟨g', 0, none⟩) c.n cg'), .int .i64 M.cnt, .int .i64 M.l.kind, .int .i64 M.l.a, .int .i64 M.l.b, .int .u64 (M.l.old : Nat), .int .u64 (M.l.new : Nat), .bool M.l.done])]) ∧ c.n ≤ cg' ∧ cg' ≤ maxLen ∧ Fr u g g' ∧ BlkAt w' g' (rowW M.ws c.n) ∧ Below u.heap.size u w') :
    Calls Tryz.prog 18 #[R12.V { r with dn := false, nx := 0 }, (.agg #[.int .i64 c.t, .int .i64 c.s, .int .i64 c.k, .int .i64 c.g, .int .u64 c.q, (.slice (some ⟨g, 0, none⟩) c.n cg), .int .i64 m.cnt, .int .i64 m.l.kind, .int .i64 m.l.a, .int .i64 m.l.b, .int .u64 (m.l.old : Nat), .int .u64 (m.l.new : Nat), .bool m.l.done])] w fun e w' => ∃ g' cg', e = .returned (.tuple #[R12.V { r with dn := false, nx := 0, gt := gt2, gs := gs2, gw := gw2, ge := ge2, gn := false }, (.agg #[.int .i64 c.t, .int .i64 c.s, .int .i64 c.k, .int .i64 c.g, .int .u64 c.q, (.slice (some ⟨g', 0, none⟩) c.n cg'), .int .i64 M.cnt, .int .i64 M.l.kind, .int .i64 M.l.a, .int .i64 M.l.b, .int .u64 (M.l.old : Nat), .int .u64 (M.l.new : Nat), .bool M.l.done])]) ∧ c.n ≤ cg' ∧ cg' ≤ maxLen ∧ Fr w g g' ∧ BlkAt w' g' (rowW M.ws c.n) ∧ Below w.heap.size w w' := by
  have hS := Sx.read1 hB
  have HJ := hide HJ
  clear hB
  unfold R12.V
  dsimp only
  go_enter Tryz.func18, Tryz.ntmps18
  go_wp2_with (first | (refine ybox hS (h := ?_); clear hS; intro _ _ hS) | (refine yall hS (h := ?_); clear hS; intro _ _ hS) | refine yld hS (h := ?_) | (refine yst hS (h := ?_); clear hS; intro _ hS))
  have hSz := hS.size
  refine ((unhide HJ) _ (hS.getE 0 rfl) hS.bel).mono ?_
  rintro e u ⟨g', cg', rfl, q1, q2, hFr, hG, hb⟩
  replace hS := hS.ref hb 0 rfl hFr hG
  have hFr := (Fr.refl w g).trans hFr hSz
  clear hb hG HJ hSz
  dsimp only [List.set] at hS
  go_wp2_with (first | (refine ybox hS (h := ?_); clear hS; intro _ _ hS) | (refine yall hS (h := ?_); clear hS; intro _ _ hS) | refine yld hS (h := ?_) | (refine yst hS (h := ?_); clear hS; intro _ hS))
  refine wp_ret2 hS 0 5 2 3 (hQ := ?_)
  intro u hS'
  clear hS
  dsimp only [List.set] at hS' ⊢
  go_wp2
  have hZ := hS'.get 2 rfl
  have hY := hS'.get 3 rfl
  exact bodyPost_ret (v := .tuple #[R12.V { r with dn := false, nx := 0, gt := gt2, gs := gs2, gw := gw2, ge := ge2, gn := false }, (.agg #[.int .i64 c.t, .int .i64 c.s, .int .i64 c.k, .int .i64 c.g, .int .u64 c.q, (.slice (some ⟨g', 0, none⟩) c.n cg'), .int .i64 M.cnt, .int .i64 M.l.kind, .int .i64 M.l.a, .int .i64 M.l.b, .int .u64 (M.l.old : Nat), .int .u64 (M.l.new : Nat), .bool M.l.done])]) (results_rows Tryz.results18 rfl rfl hZ hY (row_any2 rfl) (row_any2 rfl) rfl rfl) rfl ⟨g', cg', rfl, q1, q2, hFr, hS'.getE 0 rfl, hS'.bel⟩
set_option maxHeartbeats 8000000 in
theorem rStep12_enterb_ok (w : World) (c : Um.Cf) (m M : Um.Mm) (g cg : Nat) (r : R12) (gt2 : Bool) (gs2 gw2 : Nat) (hB : BlkAt w g (rowW m.ws c.n))
    (HJ : ∀ u, BlkAt u g (rowW m.ws c.n) → Below w.heap.size w u → Calls Tryz.prog 47 #[.agg #[.int .u64 (r.gh : Nat), .slice r.va r.vn r.vc, .bool r.gt, .int .u64 (r.gs : Nat), .int .u64 (r.gw : Nat), .int .i64 r.ge, .bool r.gn], (.agg #[.int .i64 c.t, .int .i64 c.s, .int .i64 c.k, .int .i64 c.g, .int .u64 c.q, (.slice (some ⟨g, 0, none⟩) c.n cg), .int .i64 m.cnt, .int .i64 m.l.kind, .int .i64 m.l.a, .int .i64 m.l.b, .int .u64 (m.l.old : Nat), .int .u64 (m.l.new : Nat), .bool m.l.done])] u fun e w' => ∃ g' cg', e = .returned (.tuple #[.agg #[.int .u64 (r.gh : Nat), .slice r.va r.vn r.vc, .bool gt2, .int .u64 (gs2 : Nat), .int .u64 (gw2 : Nat), .int .i64 0, .bool true], (.agg #[.int .i64 c.t, .int .i64 c.s, .int .i64 c.k, .int .i64 c.g, .int .u64 c.q, (.slice (some ⟨g', 0, none⟩) c.n cg'), .int .i64 M.cnt, .int .i64 M.l.kind, .int .i64 M.l.a, .int .i64 M.l.b, .int .u64 (M.l.old : Nat), .int .u64 (M.l.new : Nat), .bool M.l.done])]) ∧ c.n ≤ cg' ∧ cg' ≤ maxLen ∧ Fr u g g' ∧ BlkAt w' g' (rowW M.ws c.n) ∧ Below u.heap.size u w') :
    Calls Tryz.prog 18 #[R12.V { r with dn := false, nx := 0 }, (.agg #[.int .i64 c.t, .int .i64 c.s, .int .i64 c.k, .int .i64 c.g, .int .u64 c.q, (.slice (some ⟨g, 0, none⟩) c.n cg), .int .i64 m.cnt, .int .i64 m.l.kind, .int .i64 m.l.a, .int .i64 m.l.b, .int .u64 (m.l.old : Nat), .int .u64 (m.l.new : Nat), .bool m.l.done])] w fun e w' => ∃ g' cg', e = .returned (.tuple #[R12.V { r with dn := false, nx := 1, e := 0, gt := gt2, gs := gs2, gw := gw2, ge := 0, gn := true }, (.agg #[.int .i64 c.t, .int .i64 c.s, .int .i64 c.k, .int .i64 c.g, .int .u64 c.q, (.slice (some ⟨g', 0, none⟩) c.n cg'), .int .i64 M.cnt, .int .i64 M.l.kind, .int .i64 M.l.a, .int .i64 M.l.b, .int .u64 (M.l.old : Nat), .int .u64 (M.l.new : Nat), .bool M.l.done])]) ∧ c.n ≤ cg' ∧ cg' ≤ maxLen ∧ Fr w g g' ∧ BlkAt w' g' (rowW M.ws c.n) ∧ Below w.heap.size w w' := by
  have hS := Sx.read1 hB
  have HJ := hide HJ
  clear hB
  unfold R12.V
  dsimp only
  go_enter Tryz.func18, Tryz.ntmps18
  go_wp2_with (first | (refine ybox hS (h := ?_); clear hS; intro _ _ hS) | (refine yall hS (h := ?_); clear hS; intro _ _ hS) | refine yld hS (h := ?_) | (refine yst hS (h := ?_); clear hS; intro _ hS))
  have hSz := hS.size
  refine ((unhide HJ) _ (hS.getE 0 rfl) hS.bel).mono ?_
  rintro e u ⟨g', cg', rfl, q1, q2, hFr, hG, hb⟩
  replace hS := hS.ref hb 0 rfl hFr hG
  have hFr := (Fr.refl w g).trans hFr hSz
  clear hb hG HJ hSz
  dsimp only [List.set] at hS
  go_wp2_with (first | (refine ybox hS (h := ?_); clear hS; intro _ _ hS) | (refine yall hS (h := ?_); clear hS; intro _ _ hS) | refine yld hS (h := ?_) | (refine yst hS (h := ?_); clear hS; intro _ hS))
  refine wp_ret2 hS 0 5 2 3 (hQ := ?_)
  intro u hS'
  clear hS
  dsimp only [List.set] at hS' ⊢
  go_wp2
  have hZ := hS'.get 2 rfl
  have hY := hS'.get 3 rfl
  exact bodyPost_ret (v := .tuple #[R12.V { r with dn := false, nx := 1, e := 0, gt := gt2, gs := gs2, gw := gw2, ge := 0, gn := true }, (.agg #[.int .i64 c.t, .int .i64 c.s, .int .i64 c.k, .int .i64 c.g, .int .u64 c.q, (.slice (some ⟨g', 0, none⟩) c.n cg'), .int .i64 M.cnt, .int .i64 M.l.kind, .int .i64 M.l.a, .int .i64 M.l.b, .int .u64 (M.l.old : Nat), .int .u64 (M.l.new : Nat), .bool M.l.done])]) (results_rows Tryz.results18 rfl rfl hZ hY (row_any2 rfl) (row_any2 rfl) rfl rfl) rfl ⟨g', cg', rfl, q1, q2, hFr, hS'.getE 0 rfl, hS'.bel⟩
set_option maxHeartbeats 8000000 in
theorem rStep12_enterb_no (w : World) (c : Um.Cf) (m M : Um.Mm) (g cg : Nat) (r : R12) (gt2 : Bool) (gs2 gw2 : Nat) (ge2 : Int) (he : ge2 ≠ 0) (hB : BlkAt w g (rowW m.ws c.n))
    (HJ : ∀ u, BlkAt u g (rowW m.ws c.n) → Below w.heap.size w u → Calls Tryz.prog 47 #[.agg #[.int .u64 (r.gh : Nat), .slice r.va r.vn r.vc, .bool r.gt, .int .u64 (r.gs : Nat), .int .u64 (r.gw : Nat), .int .i64 r.ge, .bool r.gn], (.agg #[.int .i64 c.t, .int .i64 c.s, .int .i64 c.k, .int .i64 c.g, .int .u64 c.q, (.slice (some ⟨g, 0, none⟩) c.n cg), .int .i64 m.cnt, .int .i64 m.l.kind, .int .i64 m.l.a, .int .i64 m.l.b, .int .u64 (m.l.old : Nat), .int .u64 (m.l.new : Nat), .bool m.l.done])] u fun e w' => ∃ g' cg', e = .returned (.tuple #[.agg #[.int .u64 (r.gh : Nat), .slice r.va r.vn r.vc, .bool gt2, .int .u64 (gs2 : Nat), .int .u64 (gw2 : Nat), .int .i64 ge2, .bool true], (.agg #[.int .i64 c.t, .int .i64 c.s, .int .i64 c.k, .int .i64 c.g, .int .u64 c.q, (.slice (some ⟨g', 0, none⟩) c.n cg'), .int .i64 M.cnt, .int .i64 M.l.kind, .int .i64 M.l.a, .int .i64 M.l.b, .int .u64 (M.l.old : Nat), .int .u64 (M.l.new : Nat), .bool M.l.done])]) ∧ c.n ≤ cg' ∧ cg' ≤ maxLen ∧ Fr u g g' ∧ BlkAt w' g' (rowW M.ws c.n) ∧ Below u.heap.size u w') :
    Calls Tryz.prog 18 #[R12.V { r with dn := false, nx := 0 }, (.agg #[.int .i64 c.t, .int .i64 c.s, .int .i64 c.k, .int .i64 c.g, .int .u64 c.q, (.slice (some ⟨g, 0, none⟩) c.n cg), .int .i64 m.cnt, .int .i64 m.l.kind, .int .i64 m.l.a, .int .i64 m.l.b, .int .u64 (m.l.old : Nat), .int .u64 (m.l.new : Nat), .bool m.l.done])] w fun e w' => ∃ g' cg', e = .returned (.tuple #[R12.V { r with dn := true, nx := 1, e := ge2, gt := gt2, gs := gs2, gw := gw2, ge := ge2, gn := true }, (.agg #[.int .i64 c.t, .int .i64 c.s, .int .i64 c.k, .int .i64 c.g, .int .u64 c.q, (.slice (some ⟨g', 0, none⟩) c.n cg'), .int .i64 M.cnt, .int .i64 M.l.kind, .int .i64 M.l.a, .int .i64 M.l.b, .int .u64 (M.l.old : Nat), .int .u64 (M.l.new : Nat), .bool M.l.done])]) ∧ c.n ≤ cg' ∧ cg' ≤ maxLen ∧ Fr w g g' ∧ BlkAt w' g' (rowW M.ws c.n) ∧ Below w.heap.size w w' := by
  have hS := Sx.read1 hB
  have HJ := hide HJ
  clear hB
  have x1 : ¬ ge2 = 0 := he
  have x2 : (ge2 != 0) = true := by simpa using x1
  clear he
  unfold R12.V
  dsimp only
  go_enter Tryz.func18, Tryz.ntmps18
  go_wp2_with (first | (refine ybox hS (h := ?_); clear hS; intro _ _ hS) | (refine yall hS (h := ?_); clear hS; intro _ _ hS) | refine yld hS (h := ?_) | (refine yst hS (h := ?_); clear hS; intro _ hS))
  have hSz := hS.size
  refine ((unhide HJ) _ (hS.getE 0 rfl) hS.bel).mono ?_
  rintro e u ⟨g', cg', rfl, q1, q2, hFr, hG, hb⟩
  replace hS := hS.ref hb 0 rfl hFr hG
  have hFr := (Fr.refl w g).trans hFr hSz
  clear hb hG HJ hSz
  dsimp only [List.set] at hS
  go_wp2_with (first | (refine ybox hS (h := ?_); clear hS; intro _ _ hS) | (refine yall hS (h := ?_); clear hS; intro _ _ hS) | refine yld hS (h := ?_) | (refine yst hS (h := ?_); clear hS; intro _ hS))
  refine wp_ret2 hS 0 5 2 3 (hQ := ?_)
  intro u hS'
  clear hS
  dsimp only [List.set] at hS' ⊢
  go_wp2
  have hZ := hS'.get 2 rfl
  have hY := hS'.get 3 rfl
  exact bodyPost_ret (v := .tuple #[R12.V { r with dn := true, nx := 1, e := ge2, gt := gt2, gs := gs2, gw := gw2, ge := ge2, gn := true }, (.agg #[.int .i64 c.t, .int .i64 c.s, .int .i64 c.k, .int .i64 c.g, .int .u64 c.q, (.slice (some ⟨g', 0, none⟩) c.n cg'), .int .i64 M.cnt, .int .i64 M.l.kind, .int .i64 M.l.a, .int .i64 M.l.b, .int .u64 (M.l.old : Nat), .int .u64 (M.l.new : Nat), .bool M.l.done])]) (results_rows Tryz.results18 rfl rfl hZ hY (row_any2 rfl) (row_any2 rfl) rfl rfl) rfl ⟨g', cg', rfl, q1, q2, hFr, hS'.getE 0 rfl, hS'.bel⟩
def R12.zero : R12 := { key := 0, slot := 0, nx := 0, n := 0, w := 0, oa := none, on := 0, oc := 0, gh := 0, va := none, vn := 0, vc := 0, gt := false, gs := 0, gw := 0, ge := 0, gn := false, jl := 0, jd := 0, jb := 0, jn := 0, jx := 0, js := 0, jr := 0, ol := 0, od := 0, ob := 0, ok := false, oS := 0, oD := false, ll := 0, lt := 0, lk := false, ls := 0, ld := false, td := 0, e := 0, dn := false }
set_option maxHeartbeats 8000000 in
theorem rNew12_k1 (w : World) (c : Um.Cf) (h : Nat) (ky : Int) (hh : Um.Word h) (hk : ky < 0) :
    Calls Tryz.prog 13 #[(.agg #[.int .i64 (c.t), .int .i64 (c.s), .int .i64 (c.k), .int .i64 (c.g), .int .u64 (c.q : Int)]), .int .u64 (h : Nat), .int .i64 ky] w fun e w' => e = .returned (R12.V { R12.zero with e := 5, dn := true }) ∧ Below w.heap.size w w' := by
  have hS := Sx.new w
  have HO := hide (fun w => krOf_any h c.s w hh)
  have p1 : decide (ky < 0) = true := decide_eq_true hk
  clear hk hh
  go_enter Tryz.func13, Tryz.ntmps13
  go_wp2_with (first | (refine ybox hS (h := ?_); clear hS; intro _ _ hS) | (refine yall hS (h := ?_); clear hS; intro _ _ hS) | refine yld hS (h := ?_) | (refine yst hS (h := ?_); clear hS; intro _ hS))
  refine ((unhide HO) _).mono ?_
  rintro e u ⟨rfl, rfl⟩
  go_wp2_with (first | (refine ybox hS (h := ?_); clear hS; intro _ _ hS) | (refine yall hS (h := ?_); clear hS; intro _ _ hS) | refine yld hS (h := ?_) | (refine yst hS (h := ?_); clear hS; intro _ hS))
  have hZ := hS.get 1 rfl
  exact bodyPost_ret (v := R12.V { R12.zero with e := 5, dn := true }) (results_one Tryz.results13 rfl hZ (row_any2 rfl) rfl) rfl ⟨rfl, hS.bel⟩
set_option maxHeartbeats 8000000 in
theorem rNew12_k2 (w : World) (c : Um.Cf) (h : Nat) (ky : Int) (hh : Um.Word h) (hk0 : ¬ ky < 0) (hk : c.k ≤ ky) :
    Calls Tryz.prog 13 #[(.agg #[.int .i64 (c.t), .int .i64 (c.s), .int .i64 (c.k), .int .i64 (c.g), .int .u64 (c.q : Int)]), .int .u64 (h : Nat), .int .i64 ky] w fun e w' => e = .returned (R12.V { R12.zero with e := 5, dn := true }) ∧ Below w.heap.size w w' := by
  have hS := Sx.new w
  have HO := hide (fun w => krOf_any h c.s w hh)
  have p1 : decide (ky < 0) = false := decide_eq_false hk0
  have p2 : decide (c.k ≤ ky) = true := decide_eq_true hk
  clear hk hk0 hh
  go_enter Tryz.func13, Tryz.ntmps13
  go_wp2_with (first | (refine ybox hS (h := ?_); clear hS; intro _ _ hS) | (refine yall hS (h := ?_); clear hS; intro _ _ hS) | refine yld hS (h := ?_) | (refine yst hS (h := ?_); clear hS; intro _ hS))
  refine ((unhide HO) _).mono ?_
  rintro e u ⟨rfl, rfl⟩
  go_wp2_with (first | (refine ybox hS (h := ?_); clear hS; intro _ _ hS) | (refine yall hS (h := ?_); clear hS; intro _ _ hS) | refine yld hS (h := ?_) | (refine yst hS (h := ?_); clear hS; intro _ hS))
  have hZ := hS.get 1 rfl
  exact bodyPost_ret (v := R12.V { R12.zero with e := 5, dn := true }) (results_one Tryz.results13 rfl hZ (row_any2 rfl) rfl) rfl ⟨rfl, hS.bel⟩
set_option maxHeartbeats 8000000 in
theorem rNew12_st (w : World) (c : Um.Cf) (h : Nat) (ky : Int) (hh : Um.Word h) (hk0 : ¬ ky < 0) (hk : ¬ c.k ≤ ky) (hn : Um.ook h c.s = false) :
    Calls Tryz.prog 13 #[(.agg #[.int .i64 (c.t), .int .i64 (c.s), .int .i64 (c.k), .int .i64 (c.g), .int .u64 (c.q : Int)]), .int .u64 (h : Nat), .int .i64 ky] w fun e w' => e = .returned (R12.V { R12.zero with e := 2, dn := true }) ∧ Below w.heap.size w w' := by
  have hS := Sx.new w
  have HO := hide (fun w => krOf_any h c.s w hh)
  have p1 : decide (ky < 0) = false := decide_eq_false hk0
  have p2 : decide (c.k ≤ ky) = false := decide_eq_false hk
  have HN := hide hn
  clear hk hk0 hh hn
  go_enter Tryz.func13, Tryz.ntmps13
  go_wp2_with (first | (refine ybox hS (h := ?_); clear hS; intro _ _ hS) | (refine yall hS (h := ?_); clear hS; intro _ _ hS) | refine yld hS (h := ?_) | (refine yst hS (h := ?_); clear hS; intro _ hS))
  refine ((unhide HO) _).mono ?_
  rintro e u ⟨rfl, rfl⟩
  rw [unhide HN]
  go_wp2_with (first | (refine ybox hS (h := ?_); clear hS; intro _ _ hS) | (refine yall hS (h := ?_); clear hS; intro _ _ hS) | refine yld hS (h := ?_) | (refine yst hS (h := ?_); clear hS; intro _ hS))
  have hZ := hS.get 1 rfl
  exact bodyPost_ret (v := R12.V { R12.zero with e := 2, dn := true }) (results_one Tryz.results13 rfl hZ (row_any2 rfl) rfl) rfl ⟨rfl, hS.bel⟩
set_option maxHeartbeats 8000000 in
theorem rNew12_ok (w : World) (c : Um.Cf) (h : Nat) (ky : Int) (hh : Um.Word h) (hk0 : ¬ ky < 0) (hk : ¬ c.k ≤ ky) (hn : Um.ook h c.s = true) :
    Calls Tryz.prog 13 #[(.agg #[.int .i64 (c.t), .int .i64 (c.s), .int .i64 (c.k), .int .i64 (c.g), .int .u64 (c.q : Int)]), .int .u64 (h : Nat), .int .i64 ky] w fun e w' => ∃ G, e = .returned (R12.V { R12.zero with key := ky, slot := Um.svN h, gh := h, va := some ⟨G, 0, none⟩, vn := 1, vc := 1 }) ∧ BlkAt w' G [.int .i64 2] ∧ w.heap.size ≤ G ∧ Below w.heap.size w w' := by
  have hS := Sx.new w
  have HO := hide (fun w => krOf_any h c.s w hh)
  have p1 : decide (ky < 0) = false := decide_eq_false hk0
  have p2 : decide (c.k ≤ ky) = false := decide_eq_false hk
  have HN := hide hn
  have HQ := hide (Um.os_yes hn)
  have HU := hide (Um.ook_facts hn).2.2
  clear hk hk0 hh hn
  go_enter Tryz.func13, Tryz.ntmps13
  go_wp2_with (first | (refine ybox hS (h := ?_); clear hS; intro _ _ hS) | (refine yall hS (h := ?_); clear hS; intro _ _ hS) | refine yld hS (h := ?_) | (refine yst hS (h := ?_); clear hS; intro _ hS))
  refine ((unhide HO) _).mono ?_
  rintro e u ⟨rfl, rfl⟩
  rw [unhide HN, unhide HQ, ← unhide HU]
  go_wp2_with (first | (first | (refine ybox hS (h := ?_); clear hS; intro _ _ hS) | (refine yall hS (h := ?_); clear hS; intro _ _ hS) | refine yld hS (h := ?_) | (refine yst hS (h := ?_); clear hS; intro _ hS)) | (refine wpx_build1 hS rfl _ rfl _ rfl _ (by intro _; simp only [Act.put, List.setIfInBounds_toArray, List.set_cons_zero, List.set_cons_succ]; first | done | exact rfl) ?_; clear hS; intro _ _ hS; dsimp only [List.cons_append, List.nil_append] at hS))
  obtain ⟨G, rfl⟩ := nameB hS 2 rfl
  have hG := hS.get 2 rfl
  have hl := (hS.low _ (List.mem_of_getElem? (show _[2]? = some _ from rfl)))
  have hZ := hS.get 1 rfl
  exact bodyPost_ret (v := R12.V { R12.zero with key := ky, slot := Um.svN h, gh := h, va := some ⟨G, 0, none⟩, vn := 1, vc := 1 }) (results_one Tryz.results13 rfl hZ (row_any2 rfl) rfl) rfl ⟨G, rfl, hG, (by simpa using hl), hS.bel⟩
end
section
set_option maxRecDepth 100000
open Go.RowKit Go.Sort
set_option linter.unusedVariables false
set_option linter.unusedSimpArgs false
structure Ref12 (h : Nat) (ky sl : Int) (e : List (Nat × List Value)) (o : Um.Rd) (r : R12) : Prop where
  dn : r.dn = o.dn
  er : r.e = o.e
  nx : o.dn = false → r.nx = ((o.nx : Nat) : Int)
  fk : o.dn = false → r.key = ky
  fs : o.dn = false → r.slot = sl
  fn : o.dn = false → r.n = o.n
  fw : o.dn = false → r.w = o.w
  g : o.dn = false → o.nx = 0 → StB r.va 1 st12 e ∧ r.vn = 1 ∧ r.gh = h ∧ r.gt = o.g.tk ∧ r.gs = o.g.s ∧ r.gw = o.g.w ∧ r.ge = o.g.e ∧ r.gn = o.g.en
  t : o.dn = false → o.nx = 4 ∨ o.nx = 5 → ∀ W', (∀ p ∈ e, BlkAt W' p.1 p.2) → IsRow W' (.slice r.oa r.on r.oc) o.ot
  j : o.dn = false → o.nx = 4 → r.jl = o.jp ∧ r.jd = 1 ∧ r.jb = sl ∧ r.jn = o.n ∧ r.jx = ((o.j.nx : Nat) : Int) ∧ r.js = o.j.s ∧ r.jr = ((o.j.r : Nat) : Int)
  v : o.dn = false → o.nx = 5 → r.ol = sl ∧ r.od = 0 ∧ r.ob = o.op ∧ r.ok = o.o.lk ∧ r.oS = o.o.s ∧ r.oD = o.o.dn
  l : o.dn = false → o.nx = 6 → r.ll = sl ∧ r.lt = o.lp ∧ r.lk = o.l.lk ∧ r.ls = o.l.s ∧ r.ld = o.l.dn ∧ r.td = o.td
section
variable {h : Nat} {ky sl : Int} {e sb : List (Nat × List Value)} {o : Um.Rd} {r : R12}
theorem Ref12.mono {e' : List (Nat × List Value)} (A : Ref12 h ky sl e o r) (hs : ∀ p ∈ e, p ∈ e') : Ref12 h ky sl e' o r :=
  ⟨A.dn, A.er, A.nx, A.fk, A.fs, A.fn, A.fw, fun a b => ⟨(A.g a b).1.mono hs, (A.g a b).2⟩, fun a b W' hW => A.t a b W' (fun p hp => hW p (hs p hp)), A.j, A.v, A.l⟩
theorem Ref12.setR (A : Ref12 h ky sl e o r) (m : Um.Mm) : Ref12 h ky sl e (Um.setR m o) r := ⟨A.dn, A.er, A.nx, A.fk, A.fs, A.fn, A.fw, A.g, A.t, A.j, A.v, A.l⟩
theorem R12.eta2 {k : Int} (h1 : r.dn = false) (h2 : r.nx = k) : { r with dn := false, nx := k } = r := by
  cases r
  dsimp only at h1 h2
  subst h1 h2
  rfl
theorem ref_done (hd : o.dn = true) (hr : r.dn = true) (he : r.e = o.e) : Ref12 h ky sl e o r := by
  have n : o.dn = false → False := fun q => by rw [hd] at q; cases q
  exact ⟨by rw [hr, hd], he, fun q => (n q).elim, fun q => (n q).elim, fun q => (n q).elim, fun q => (n q).elim, fun q => (n q).elim, fun q => (n q).elim, fun q => (n q).elim, fun q => (n q).elim, fun q => (n q).elim, fun q => (n q).elim⟩
theorem ref_plain (hd : r.dn = o.dn) (he : r.e = o.e) (hx : r.nx = ((o.nx : Nat) : Int)) (hk : r.key = ky) (hs : r.slot = sl) (hn : r.n = o.n) (hw : r.w = o.w) (h1 : 1 ≤ o.nx) (h3 : o.nx ≤ 3) : Ref12 h ky sl e o r :=
  ⟨hd, he, fun _ => hx, fun _ => hk, fun _ => hs, fun _ => hn, fun _ => hw, fun _ q => by omega, fun _ q => by omega, fun _ q => by omega, fun _ q => by omega, fun _ q => by omega⟩
theorem ref_go (hd : r.dn = o.dn) (he : r.e = o.e) (hk : r.key = ky) (hs : r.slot = sl) (hn : r.n = o.n) (hw : r.w = o.w)
    (hI : ∀ W', (∀ p ∈ e, BlkAt W' p.1 p.2) → IsRow W' (.slice r.oa r.on r.oc) o.ot) : Ref12 h ky sl e (Um.rdgo o) (R12.go r o.ot) := by
  cases hx : o.ot with
  | nil =>
    rw [rd_nil hx]
    exact ⟨hd, he, fun _ => rfl, fun _ => hk, fun _ => hs, fun _ => hn, fun _ => hw, fun _ (q : 6 = 0) => by omega, fun _ (q : 6 = 4 ∨ 6 = 5) => by omega, fun _ (q : 6 = 4) => by omega, fun _ (q : 6 = 5) => by omega, fun _ _ => ⟨hs, rfl, rfl, rfl, rfl, rfl⟩⟩
  | cons x xs =>
    rw [rd_cons hx]
    exact ⟨hd, he, fun _ => rfl, fun _ => hk, fun _ => hs, fun _ => hn, fun _ => hw, fun _ (q : 4 = 0) => by omega, fun _ _ => hI, fun _ _ => ⟨rfl, rfl, hs, hn, rfl, rfl, rfl⟩, fun _ (q : 4 = 5) => by omega, fun _ (q : 4 = 6) => by omega⟩
theorem stB_row {u : World} {la : Option Addr} {nl : Nat} {Z : Nat → Int} (h : StB la nl Z e) (hb : ∀ p ∈ e, BlkAt u p.1 p.2) : RowOf u la nl (fun i => .int .i64 (Z i)) := by
  rcases h with h | ⟨G, rfl, hG⟩
  · exact .inl h
  · exact (hb _ hG).rowOf
theorem row_tl {x : Int} {xs : List Int} {b off : Nat} (hI : ∀ W', (∀ p ∈ e, BlkAt W' p.1 p.2) → IsRow W' (.slice r.oa r.on r.oc) (x :: xs)) (ha : r.oa = some ⟨b, off, none⟩) :
    ∀ W', (∀ p ∈ e, BlkAt W' p.1 p.2) → (IsRow W' (.slice (some ⟨b, off + 1, none⟩) xs.length (r.oc - 1)) xs ∧ (r.oc = 1 → IsRow W' (.slice (some ⟨b, off, none⟩) xs.length 0) xs)) := by
  intro W' hW
  obtain ⟨b2, off2, e1, e2, e3, e4, e5, e6, e7⟩ := (hI W' hW).cut
  rw [ha] at e1
  simp only [Option.some.injEq, Addr.mk.injEq, and_true] at e1
  obtain ⟨rfl, rfl⟩ := e1
  refine ⟨e7, fun hc => ?_⟩
  have hl : xs = [] := List.length_eq_zero_iff.1 (by omega)
  subst hl
  exact .inr ⟨b, off, 0, rfl, Nat.le_refl _, Nat.zero_le _, e5, fun j hj => absurd hj (Nat.not_lt_zero _)⟩
end
theorem rdgo_m (o : Um.Rd) : (Um.rdgo o).m = o.m := by
  cases hx : o.ot with
  | nil => rw [rd_nil hx]; rfl
  | cons x xs => rw [rd_cons hx]
def Stp12 (c : Um.Cf) (h : Nat) (ky sl : Int) (e : List (Nat × List Value)) (O : Um.Rd) (g : Nat) (w : World) (q : Ending) (w' : World) : Prop :=
  ∃ g' cg' G, ∃ sb : List (Nat × List Value), q = .returned (.tuple #[R12.V G, (.agg #[.int .i64 c.t, .int .i64 c.s, .int .i64 c.k, .int .i64 c.g, .int .u64 c.q, (.slice (some ⟨g', 0, none⟩) c.n cg'), .int .i64 O.m.cnt, .int .i64 O.m.l.kind, .int .i64 O.m.l.a, .int .i64 O.m.l.b, .int .u64 (O.m.l.old : Nat), .int .u64 (O.m.l.new : Nat), .bool O.m.l.done])]) ∧ c.n ≤ cg' ∧ cg' ≤ maxLen ∧ Fr w g g' ∧ BlkAt w' g' (rowW O.m.ws c.n) ∧ (∀ p ∈ sb, BlkAt w' p.1 p.2 ∧ w.heap.size ≤ p.1) ∧ Ref12 h ky sl (e ++ sb) O G ∧ Below w.heap.size w w'
theorem stp_nil {c : Um.Cf} {h : Nat} {ky sl : Int} {e : List (Nat × List Value)} {O : Um.Rd} {g : Nat} {w w' : World} {q : Ending} (g' cg' : Nat) (G : R12) (h1 : q = .returned (.tuple #[R12.V G, (.agg #[.int .i64 c.t, .int .i64 c.s, .int .i64 c.k, .int .i64 c.g, .int .u64 c.q, (.slice (some ⟨g', 0, none⟩) c.n cg'), .int .i64 O.m.cnt, .int .i64 O.m.l.kind, .int .i64 O.m.l.a, .int .i64 O.m.l.b, .int .u64 (O.m.l.old : Nat), .int .u64 (O.m.l.new : Nat), .bool O.m.l.done])])) (h2 : c.n ≤ cg') (h3 : cg' ≤ maxLen) (h4 : Fr w g g') (h5 : BlkAt w' g' (rowW O.m.ws c.n)) (h6 : Below w.heap.size w w') (h7 : Ref12 h ky sl e O G) : Stp12 c h ky sl e O g w q w' :=
  ⟨g', cg', G, [], h1, h2, h3, h4, h5, (fun p hp => by cases hp), (by rw [List.append_nil]; exact h7), h6⟩
set_option maxHeartbeats 4000000 in
theorem rStep12_any (w : World) (c : Um.Cf) (h : Nat) (ky sl : Int) (e : List (Nat × List Value)) (o O : Um.Rd) (hO : O = Um.rdstep c h inn12 ky sl o) (r : R12) (A : Ref12 h ky sl e o r) (he : ∀ p ∈ e, BlkAt w p.1 p.2) (g cg : Nat) (ho : Um.Rok c o) (hh : Um.Word h) (hB : BlkAt w g (rowW o.m.ws c.n)) (hr : c.r = true) (h1 : c.n ≤ cg) (h2 : cg ≤ maxLen) :
    Calls Tryz.prog 18 #[R12.V r, (.agg #[.int .i64 c.t, .int .i64 c.s, .int .i64 c.k, .int .i64 c.g, .int .u64 c.q, (.slice (some ⟨g, 0, none⟩) c.n cg), .int .i64 o.m.cnt, .int .i64 o.m.l.kind, .int .i64 o.m.l.a, .int .i64 o.m.l.b, .int .u64 (o.m.l.old : Nat), .int .u64 (o.m.l.new : Nat), .bool o.m.l.done])] w (Stp12 c h ky sl e O g w) := by
  cases hd : o.dn with
  | true =>
    have eO : O = o := by rw [hO]; exact Um.rdstep_done hd
    subst eO
    have hrd : r.dn = true := A.dn.trans hd
    have C := rStep12_done w c O.m g cg r hB hr ho.wd h1 h2
    rw [show ({ r with dn := true } : R12) = r by cases r; dsimp only at hrd; subst hrd; rfl] at C
    refine C.mono ?_
    rintro q w' ⟨g', cg', rfl, q1, q2, hFr, _, hG, hb⟩
    exact stp_nil g' cg' r rfl q1 q2 hFr hG hb A
  | false =>
  have hrd : r.dn = false := A.dn.trans hd
  have hnx := A.nx hd
  have hn := A.fn hd
  have hw := A.fw hd
  obtain rfl := A.fs hd
  obtain rfl := A.fk hd
  have hnx6 := ho.k.nx
  rcases (by omega : o.nx = 0 ∨ o.nx = 1 ∨ o.nx = 2 ∨ o.nx = 3 ∨ o.nx = 4 ∨ o.nx = 5 ∨ o.nx = 6) with q | q | q | q | q | q | q <;> rw [q] at hnx
  · -- enter
    replace hnx : r.nx = 0 := hnx.trans rfl
    obtain ⟨z1, z2, z3, z4, z5, z6, z7, z8⟩ := A.g hd q
    obtain ⟨x, hx⟩ : ∃ x, x = Um.estep c h inn12 (Um.setE o.m o.g) := ⟨_, rfl⟩
    have eO : O = Um.rd0 o x := by rw [hO, hx]; exact Um.step0 hd q
    have K := fun (u : World) (hu : BlkAt u g (rowW o.m.ws c.n)) (hbu : Below w.heap.size w u) => rStep10_any u c h r.va 1 r.vc st12 (Um.setE o.m o.g) x hx g cg hh (ho.k.g o.m ho.wd) (by decide) (stB_row z1 (fun p hp => (he p hp).below hbu)) hu hr h1 h2
    unfold entV at K
    dsimp only [Um.setE] at K
    rw [← z4, ← z5, ← z6, ← z7, ← z8, ← z3] at K
    unfold Um.rd0 at eO
    cases hen : x.en with
    | false =>
      rw [if_neg (by rw [hen]; decide)] at eO
      subst eO
      rw [hen] at K
      have C := rStep12_enterb_on w c o.m x.m g cg r x.tk x.s x.w x.e hB (fun u hu hbu => by rw [z2]; exact K u hu hbu)
      rw [R12.eta2 hrd hnx] at C
      refine C.mono ?_
      rintro q' w' ⟨g', cg', rfl, q1, q2, hFr, hG, hb⟩
      refine stp_nil g' cg' _ rfl q1 q2 hFr hG hb ⟨hd.symm, A.er, fun _ => ?_, fun _ => rfl, fun _ => rfl, fun _ => hn, fun _ => hw, fun _ _ => ⟨z1, z2, z3, rfl, rfl, rfl, rfl, hen.symm⟩, fun _ p => ?_, fun _ p => ?_, fun _ p => ?_, fun _ p => ?_⟩
      · show (0 : Int) = ((o.nx : Nat) : Int)
        omega
      all_goals (dsimp only at p; omega)
    | true =>
      rw [if_pos hen] at eO
      rw [hen] at K
      by_cases h0 : x.e = 0
      · subst eO
        rw [h0] at K
        have C := rStep12_enterb_ok w c o.m x.m g cg r x.tk x.s x.w hB (fun u hu hbu => by rw [z2]; exact K u hu hbu)
        rw [R12.eta2 hrd hnx] at C
        refine C.mono ?_
        rintro q' w' ⟨g', cg', rfl, q1, q2, hFr, hG, hb⟩
        exact stp_nil g' cg' _ rfl q1 q2 hFr hG hb (ref_plain (by show false = decide (x.e ≠ 0); rw [decide_eq_false (by simpa using h0)]) h0.symm rfl rfl rfl hn hw (Nat.le_refl _) (by show 1 ≤ 3; omega))
      · subst eO
        have C := rStep12_enterb_no w c o.m x.m g cg r x.tk x.s x.w x.e h0 hB (fun u hu hbu => by rw [z2]; exact K u hu hbu)
        rw [R12.eta2 hrd hnx] at C
        refine C.mono ?_
        rintro q' w' ⟨g', cg', rfl, q1, q2, hFr, hG, hb⟩
        exact stp_nil g' cg' _ rfl q1 q2 hFr hG hb (ref_done (decide_eq_true h0) rfl rfl)
  · -- snapshot
    replace hnx : r.nx = 1 := hnx.trans rfl
    have eO : O = Um.rd1 o (Um.mtouch c o.m 1 5 r.slot 0 0) := by rw [hO]; exact Um.step1 hd q
    subst eO
    have C := rStep12_snap w c o.m _ g cg r hB hr ho.wd h1 h2 rfl
    rw [R12.eta2 hrd hnx] at C
    refine C.mono ?_
    rintro q' w' ⟨g', cg', rfl, q1, q2, hFr, _, hG, hb⟩
    exact stp_nil g' cg' _ rfl q1 q2 hFr hG hb (ref_plain hd.symm A.er rfl rfl rfl rfl hw (by show 1 ≤ 2; omega) (by show 2 ≤ 3; omega))
  · -- look
    replace hnx : r.nx = 2 := hnx.trans rfl
    obtain ⟨M, hM⟩ : ∃ M, M = Um.mtouch c o.m 1 8 r.key 0 0 := ⟨_, rfl⟩
    have eO : O = Um.rd2 r.slot o M := by rw [hO, hM]; exact Um.step2 hd q
    unfold Um.rd2 at eO
    cases hx : Um.hasN M.l.old 0 r.slot with
    | false =>
      rw [if_neg (by rw [hx]; decide)] at eO
      subst eO
      have C := rStep12_look w c o.m M g cg r hx hB hr ho.wd h1 h2 hM
      rw [R12.eta2 hrd hnx] at C
      refine C.mono ?_
      rintro q' w' ⟨g', cg', rfl, q1, q2, hFr, _, hG, hb⟩
      exact stp_nil g' cg' _ rfl q1 q2 hFr hG hb (ref_plain hd.symm A.er rfl rfl rfl hn rfl (by show 1 ≤ 3; omega) (by show 3 ≤ 3; omega))
    | true =>
      rw [if_pos hx] at eO
      have eO2 : O = Um.rdgo { o with m := M, w := M.l.old, nx := 3, ot := Um.othersN M.l.old 1 r.slot } := eO
      have eM : O.m = M := by rw [eO2]; exact rdgo_m _
      have C := rStep12_found w c o.m M g cg r hx hB hr ho.wd h1 h2 hM
      rw [R12.eta2 hrd hnx] at C
      refine C.mono ?_
      rintro q' w' ⟨g', cg', a, n, cc, sb, rfl, q1, q2, hFr, _, hG, hsb, hI, hb⟩
      refine ⟨g', cg', _, sb, by rw [eM], q1, q2, hFr, by rw [eM]; exact hG, hsb, ?_, hb⟩
      rw [eO2]
      exact ref_go (o := { o with m := M, w := M.l.old, nx := 3, ot := Um.othersN M.l.old 1 r.slot }) (r := { r with dn := false, w := M.l.old, nx := 3, oa := a, on := n, oc := cc }) hd.symm A.er rfl rfl hn rfl (fun W' hW => hI W' (fun p hp => hW p (List.mem_append_right _ hp)))
  · -- mark
    replace hnx : r.nx = 3 := hnx.trans rfl
    obtain ⟨M, hM⟩ : ∃ M, M = Um.mtouch c o.m 3 8 r.key o.w (Um.withN o.w 0 r.slot) := ⟨_, rfl⟩
    have eO : O = Um.rd3 r.slot o M := by rw [hO, hM]; exact Um.step3 hd q
    unfold Um.rd3 at eO
    have C := rStep12_swap w c o.m M g cg r M.l.done rfl (by rw [hw]; exact ho.k.w) hB hr ho.wd h1 h2 (by rw [hw]; exact hM)
    rw [R12.eta2 hrd hnx] at C
    refine C.mono ?_
    rintro q' w' ⟨g', cg', G, sb, rfl, q1, q2, hFr, _, hG, hsb, hs, hb⟩
    rcases hs with ⟨hx, rfl⟩ | ⟨hx, a, n, cc, rfl, hI⟩
    · rw [if_neg (by rw [hx]; decide)] at eO
      subst eO
      exact stp_nil g' cg' _ rfl q1 q2 hFr hG hb (ref_plain hd.symm A.er rfl rfl rfl hn hw (by show 1 ≤ 2; omega) (by show 2 ≤ 3; omega))
    · rw [if_pos hx] at eO
      have eO2 : O = Um.rdgo { o with m := M, nx := 2, ot := Um.othersN o.w 1 r.slot } := eO
      have eM : O.m = M := by rw [eO2]; exact rdgo_m _
      refine ⟨g', cg', _, sb, by rw [eM], q1, q2, hFr, by rw [eM]; exact hG, hsb, ?_, hb⟩
      rw [eO2, hw]
      rw [hw] at hI
      exact ref_go (o := { o with m := M, nx := 2, ot := Um.othersN o.w 1 r.slot }) (r := { r with dn := false, nx := 2, w := o.w, oa := a, on := n, oc := cc }) hd.symm A.er rfl rfl hn rfl (fun W' hW => hI W' (fun p hp => hW p (List.mem_append_right _ hp)))
  · -- join
    replace hnx : r.nx = 4 := hnx.trans rfl
    obtain ⟨z1, z2, z3, z4, z5, z6, z7⟩ := A.j hd q
    obtain ⟨j2, hj2⟩ : ∃ j2, j2 = Um.jstep c o.jp 1 r.slot o.n (Um.setJ o.m o.j) := ⟨_, rfl⟩
    have eO : O = Um.rd4 o j2 := by rw [hO, hj2]; exact Um.step4 hd q
    have hJ := ho.k.j o.m ho.wd
    have hJ2 : Um.Jok c j2 := hj2 ▸ Um.jstep_ok hJ
    have hr3 := hJ2.r
    have hI := A.t hd (.inl q)
    obtain ⟨x, xs, hot⟩ : ∃ x xs, o.ot = x :: xs := by
      cases hz : o.ot with
      | nil => exact absurd hz (ho.k.ne (.inl q))
      | cons x xs => exact ⟨x, xs, rfl⟩
    have hjp : x = o.jp := by
      have := ho.k.hd q
      rw [hot] at this
      simpa using this
    rw [hot] at hI
    have K := fun (u : World) (hu : BlkAt u g (rowW o.m.ws c.n)) => rStep11_any u c o.jp 1 r.slot o.n (Um.setJ o.m o.j) j2 hj2 g cg hJ (by omega) (by omega) hu hr h1 h2
    unfold joinV at K
    dsimp only [Um.setJ] at K
    rw [← z1, ← z4, ← z5, ← z6, ← z7, ← z2] at K
    rw [show (r.slot : Int) = r.jb from z3.symm] at K
    have he' : ∀ u, Below w.heap.size w u → ∀ p ∈ e, BlkAt u p.1 p.2 := fun u hb p hp => (he p hp).below hb
    obtain ⟨b, off, a1, a2, a3, a4, a5, a6, a7⟩ := (hI w he).cut
    have hT := row_tl hI a1
    unfold Um.rd4 at eO
    by_cases r1 : j2.r = 1
    · rw [if_pos r1] at eO
      have eO2 : O = Um.rdgo { o with m := j2.m, j := j2, ot := xs } := by rw [eO, hot]; rfl
      have eM : O.m = j2.m := by rw [eO2]; exact rdgo_m _
      have x0 : ((j2.r : Nat) : Int) = 1 := by omega
      rw [x0] at K
      by_cases hc : r.oc = 1
      · have C := rStep12_join w c o.m j2.m g cg r _ hB (fun u hu hbu => by
          rw [R12.eta2 hrd hnx]
          exact rJoins12_1a u c o.m j2.m g cg r j2.nx j2.s b off xs a1 a2 a3 hc ((hT u (he' u hbu)).2 hc) hu K)
        rw [R12.eta2 hrd hnx] at C
        refine C.mono ?_
        rintro q' w' ⟨g', cg', rfl, q1, q2, hFr, hG, hb⟩
        refine stp_nil g' cg' _ (by rw [eM]) q1 q2 hFr (by rw [eM]; exact hG) hb ?_
        rw [eO2]
        exact ref_go (o := { o with m := j2.m, j := j2, ot := xs }) (r := { r with jx := j2.nx, js := j2.s, jr := 1, oa := some ⟨b, off, none⟩, on := xs.length, oc := 0 }) A.dn A.er rfl rfl hn hw (fun W' hW => (hT W' hW).2 hc)
      · have C := rStep12_join w c o.m j2.m g cg r _ hB (fun u hu hbu => by
          rw [R12.eta2 hrd hnx]
          exact rJoins12_1b u c o.m j2.m g cg r j2.nx j2.s b off xs a1 a2 a3 hc (hT u (he' u hbu)).1 hu K)
        rw [R12.eta2 hrd hnx] at C
        refine C.mono ?_
        rintro q' w' ⟨g', cg', rfl, q1, q2, hFr, hG, hb⟩
        refine stp_nil g' cg' _ (by rw [eM]) q1 q2 hFr (by rw [eM]; exact hG) hb ?_
        rw [eO2]
        exact ref_go (o := { o with m := j2.m, j := j2, ot := xs }) (r := { r with jx := j2.nx, js := j2.s, jr := 1, oa := some ⟨b, off + 1, none⟩, on := xs.length, oc := r.oc - 1 }) A.dn A.er rfl rfl hn hw (fun W' hW => (hT W' hW).1)
    rw [if_neg r1] at eO
    by_cases r2 : j2.r = 2
    · rw [if_pos r2] at eO
      subst eO
      have x0 : ((j2.r : Nat) : Int) = 2 := by omega
      rw [x0] at K
      have C := rStep12_join w c o.m j2.m g cg r _ hB (fun u hu hbu => by
        rw [R12.eta2 hrd hnx]
        obtain ⟨b2, off2, c1, c2, c3, c4, c5, c6, c7⟩ := (hI u (he' u hbu)).cut
        exact rJoins12_2 u c o.m j2.m g cg r j2.nx j2.s x b2 off2 c1 (by omega) c5 c6 hu K)
      rw [R12.eta2 hrd hnx] at C
      refine C.mono ?_
      rintro q' w' ⟨g', cg', rfl, q1, q2, hFr, hG, hb⟩
      refine stp_nil g' cg' _ rfl q1 q2 hFr hG hb ⟨A.dn, A.er, fun _ => rfl, fun _ => rfl, fun _ => rfl, fun _ => hn, fun _ => hw, fun _ (p : 5 = 0) => by omega, fun _ _ W' hW => ?_, fun _ (p : 5 = 4) => by omega, fun _ _ => ⟨rfl, rfl, hjp, rfl, rfl, rfl⟩, fun _ (p : 5 = 6) => by omega⟩
      show IsRow W' _ o.ot
      rw [hot]
      exact hI W' hW
    rw [if_neg r2] at eO
    by_cases r3 : j2.r = 3
    · rw [if_pos r3] at eO
      subst eO
      have x0 : ((j2.r : Nat) : Int) = 3 := by omega
      rw [x0] at K
      have C := rStep12_join w c o.m j2.m g cg r _ hB (fun u hu hbu => by
        rw [R12.eta2 hrd hnx]
        exact rJoins12_3 u c o.m j2.m g cg r j2.nx j2.s hu K)
      rw [R12.eta2 hrd hnx] at C
      refine C.mono ?_
      rintro q' w' ⟨g', cg', rfl, q1, q2, hFr, hG, hb⟩
      exact stp_nil g' cg' _ rfl q1 q2 hFr hG hb ⟨A.dn, A.er, fun _ => rfl, fun _ => rfl, fun _ => rfl, fun _ => hn, fun _ => hw, fun _ (p : 6 = 0) => by omega, fun _ (p : 6 = 4 ∨ 6 = 5) => by omega, fun _ (p : 6 = 4) => by omega, fun _ (p : 6 = 5) => by omega, fun _ _ => ⟨rfl, rfl, rfl, rfl, rfl, rfl⟩⟩
    · rw [if_neg r3] at eO
      subst eO
      have x0 : ((j2.r : Nat) : Int) = 0 := by omega
      have r0 : j2.r = 0 := by omega
      rw [x0] at K
      have C := rStep12_join w c o.m j2.m g cg r _ hB (fun u hu hbu => by
        rw [R12.eta2 hrd hnx]
        exact rJoins12_0 u c o.m j2.m g cg r j2.nx j2.s hu K)
      rw [R12.eta2 hrd hnx] at C
      refine C.mono ?_
      rintro q' w' ⟨g', cg', rfl, q1, q2, hFr, hG, hb⟩
      refine stp_nil g' cg' _ rfl q1 q2 hFr hG hb ⟨A.dn, A.er, fun _ => A.nx hd, fun _ => rfl, fun _ => rfl, fun _ => hn, fun _ => hw, fun _ p => ?_, fun _ _ W' hW => ?_, fun _ _ => ⟨z1, z2, z3, z4, rfl, rfl, x0.symm⟩, fun _ p => ?_, fun _ p => ?_⟩
      · dsimp only at p; omega
      · show IsRow W' _ o.ot
        rw [hot]
        exact hI W' hW
      all_goals (dsimp only at p; omega)
  · -- own
    replace hnx : r.nx = 5 := hnx.trans rfl
    obtain ⟨z1, z2, z3, z4, z5, z6⟩ := A.v hd q
    obtain ⟨v2, hv2⟩ : ∃ v2, v2 = Um.wstep c r.slot 0 o.op (Um.setLs o.m o.o) := ⟨_, rfl⟩
    have eO : O = Um.rd5 o v2 := by rw [hO, hv2]; exact Um.step5 hd q
    have hV := ho.k.v o.m ho.wd
    have hI := A.t hd (.inr q)
    obtain ⟨x, xs, hot⟩ : ∃ x xs, o.ot = x :: xs := by
      cases hz : o.ot with
      | nil => exact absurd hz (ho.k.ne (.inr q))
      | cons x xs => exact ⟨x, xs, rfl⟩
    have hop : x = o.op := by
      have := ho.k.he q
      rw [hot] at this
      simpa using this
    rw [hot] at hI
    have K := fun (u : World) (hu : BlkAt u g (rowW o.m.ws c.n)) => rGo11_any u c r.slot 0 o.op (Um.setLs o.m o.o) v2 hv2 g cg hV hu hr h1 h2
    unfold ownV at K
    dsimp only [Um.setLs] at K
    rw [← z3, ← z4, ← z5, ← z6, ← z2] at K
    rw [show (r.slot : Int) = r.ol from z1.symm] at K
    obtain ⟨b, off, a1, a2, a3, a4, a5, a6, a7⟩ := (hI w he).cut
    have hT := row_tl hI a1
    unfold Um.rd5 at eO
    cases hx : v2.dn with
    | true =>
      rw [if_pos hx] at eO
      rw [hx] at K
      have eO2 : O = Um.rdgo { o with m := v2.m, o := v2, ot := xs } := by rw [eO, hot]; rfl
      have eM : O.m = v2.m := by rw [eO2]; exact rdgo_m _
      by_cases hc : r.oc = 1
      · have C := rStep12_own_enda w c o.m v2.m g cg r v2.lk v2.s b off xs a1 a2 a3 hc ((hT w he).2 hc) hB K
        rw [R12.eta2 hrd hnx] at C
        refine C.mono ?_
        rintro q' w' ⟨g', cg', rfl, q1, q2, hFr, hG, hb⟩
        refine stp_nil g' cg' _ (by rw [eM]) q1 q2 hFr (by rw [eM]; exact hG) hb ?_
        rw [eO2]
        exact ref_go (o := { o with m := v2.m, o := v2, ot := xs }) (r := { r with dn := false, nx := 5, ok := v2.lk, oS := v2.s, oD := true, oa := some ⟨b, off, none⟩, on := xs.length, oc := 0 }) hd.symm A.er rfl rfl hn hw (fun W' hW => (hT W' hW).2 hc)
      · have C := rStep12_own_endb w c o.m v2.m g cg r v2.lk v2.s b off xs a1 a2 a3 hc (hT w he).1 hB K
        rw [R12.eta2 hrd hnx] at C
        refine C.mono ?_
        rintro q' w' ⟨g', cg', rfl, q1, q2, hFr, hG, hb⟩
        refine stp_nil g' cg' _ (by rw [eM]) q1 q2 hFr (by rw [eM]; exact hG) hb ?_
        rw [eO2]
        exact ref_go (o := { o with m := v2.m, o := v2, ot := xs }) (r := { r with dn := false, nx := 5, ok := v2.lk, oS := v2.s, oD := true, oa := some ⟨b, off + 1, none⟩, on := xs.length, oc := r.oc - 1 }) hd.symm A.er rfl rfl hn hw (fun W' hW => (hT W' hW).1)
    | false =>
      rw [if_neg (by rw [hx]; decide)] at eO
      rw [hx] at K
      subst eO
      have C := rStep12_own_on w c o.m v2.m g cg r v2.lk v2.s hB K
      rw [R12.eta2 hrd hnx] at C
      refine C.mono ?_
      rintro q' w' ⟨g', cg', rfl, q1, q2, hFr, hG, hb⟩
      refine stp_nil g' cg' _ rfl q1 q2 hFr hG hb ⟨hd.symm, A.er, fun _ => ?_, fun _ => rfl, fun _ => rfl, fun _ => hn, fun _ => hw, fun _ p => ?_, fun _ _ W' hW => ?_, fun _ p => ?_, fun _ _ => ⟨z1, z2, z3, rfl, rfl, hx.symm⟩, fun _ p => ?_⟩
      · show (5 : Int) = ((o.nx : Nat) : Int)
        omega
      · dsimp only at p; omega
      · show IsRow W' _ o.ot
        rw [hot]
        exact hI W' hW
      all_goals (dsimp only at p; omega)
  · -- leave
    replace hnx : r.nx = 6 := hnx.trans rfl
    obtain ⟨z1, z2, z3, z4, z5, z6⟩ := A.l hd q
    obtain ⟨v2, hv2⟩ : ∃ v2, v2 = Um.lstep c r.slot o.lp (Um.setLs o.m o.l) := ⟨_, rfl⟩
    have eO : O = Um.rd6 o v2 := by rw [hO, hv2]; exact Um.step6 hd q
    have hV := ho.k.l o.m ho.wd
    have K := fun (u : World) (hu : BlkAt u g (rowW o.m.ws c.n)) => rGo10_any u c r.slot o.lp (Um.setLs o.m o.l) v2 hv2 g cg hV hu hr h1 h2
    unfold leaV at K
    dsimp only [Um.setLs] at K
    rw [← z2, ← z3, ← z4, ← z5] at K
    rw [show (r.slot : Int) = r.ll from z1.symm] at K
    unfold Um.rd6 at eO
    cases hx : v2.dn with
    | true =>
      rw [if_pos hx] at eO
      rw [hx] at K
      subst eO
      have C := rStep12_leave_end w c o.m v2.m g cg r v2.lk v2.s hB K
      rw [R12.eta2 hrd hnx] at C
      refine C.mono ?_
      rintro q' w' ⟨g', cg', rfl, q1, q2, hFr, hG, hb⟩
      exact stp_nil g' cg' _ rfl q1 q2 hFr hG hb (ref_done rfl rfl z6)
    | false =>
      rw [if_neg (by rw [hx]; decide)] at eO
      rw [hx] at K
      subst eO
      have C := rStep12_leave_on w c o.m v2.m g cg r v2.lk v2.s hB K
      rw [R12.eta2 hrd hnx] at C
      refine C.mono ?_
      rintro q' w' ⟨g', cg', rfl, q1, q2, hFr, hG, hb⟩
      refine stp_nil g' cg' _ rfl q1 q2 hFr hG hb ⟨hd.symm, A.er, fun _ => ?_, fun _ => rfl, fun _ => rfl, fun _ => hn, fun _ => hw, fun _ p => ?_, fun _ p => ?_, fun _ p => ?_, fun _ p => ?_, fun _ _ => ⟨z1, z2, rfl, rfl, hx.symm, z6⟩⟩
      · show (6 : Int) = ((o.nx : Nat) : Int)
        omega
      all_goals (dsimp only at p; omega)
end
section
set_option maxRecDepth 100000
open Go.RowKit Go.Sort
set_option linter.unusedVariables false
set_option linter.unusedSimpArgs false
section
variable {bs : List Nat} {w0 w w' : World} {l l0 e sb hb : List (Nat × List Value)}
theorem Sx.dup0 {p : Nat × List Value} (h : Sx bs w0 w l (p :: e)) : Sx bs w0 w l (p :: p :: e) :=
  h.sub (fun _ q => q) h.nd (fun q hq => by
    rcases List.mem_cons.1 hq with rfl | hq
    · exact List.mem_cons_self
    · exact hq)
theorem Sx.addR {g g' : Nat} {x y : List Value} (h : Sx bs w0 w l ((g, x) :: e)) (b : Below w.heap.size w w') (hF : Fr w g g') (hG : BlkAt w' g' y) (hs : ∀ p ∈ sb, BlkAt w' p.1 p.2 ∧ w.heap.size ≤ p.1) : Sx bs w0 w' l ((g', y) :: (((g, x) :: e) ++ sb)) := by
  have h1 := h.addEs b hs
  have h2 : Sx bs w0 w' l ((g', y) :: ((g, x) :: e)) := h.dup0.ref b 0 rfl hF hG
  refine ⟨h1.off, h1.low, h1.blk, h1.nd, fun p hp => ?_, fun p hp q hq => ?_⟩
  · rcases List.mem_cons.1 hp with rfl | hp
    · exact h2.eb _ List.mem_cons_self
    · exact h1.eb p hp
  · rcases List.mem_cons.1 hp with rfl | hp
    · exact h2.ed _ List.mem_cons_self q hq
    · exact h1.ed p hp q hq
theorem Sx.park (h : Sx bs w0 w (l ++ hb) e) : Sx bs w0 w l (e ++ hb) := by
  have nd := List.pairwise_append.1 h.nd
  refine ⟨h.off, fun p hp => h.low p (List.mem_append_left _ hp), fun p hp => h.blk p (List.mem_append_left _ hp), nd.1, fun p hp => ?_, fun p hp q hq => ?_⟩
  · rcases List.mem_append.1 hp with hp | hp
    · exact h.eb p hp
    · exact h.blk p (List.mem_append_right _ hp)
  · rcases List.mem_append.1 hp with hp | hp
    · exact h.ed p hp q (List.mem_append_left _ hq)
    · exact (nd.2.2 q hq p hp).symm
theorem Sx.unpark (h0 : Sx bs w0 w (l0 ++ hb) e) (h : Sx bs w0 w' l ((e ++ hb) ++ sb)) (hx : ∀ p ∈ sb, ∀ q ∈ hb, p.1 ≠ q.1) : Sx bs w0 w' (l ++ hb) (e ++ sb) := by
  refine ⟨h.off, fun p hp => ?_, fun p hp => ?_, List.pairwise_append.2 ⟨h.nd, (List.pairwise_append.1 h0.nd).2.1, fun a ha b hb' => (h.ed b (List.mem_append_left _ (List.mem_append_right _ hb')) a ha).symm⟩, fun p hp => ?_, fun p hp q hq => ?_⟩
  · rcases List.mem_append.1 hp with hp | hp
    · exact h.low p hp
    · exact h0.low p (List.mem_append_right _ hp)
  · rcases List.mem_append.1 hp with hp | hp
    · exact h.blk p hp
    · exact h.eb p (List.mem_append_left _ (List.mem_append_right _ hp))
  · rcases List.mem_append.1 hp with hp | hp
    · exact h.eb p (List.mem_append_left _ (List.mem_append_left _ hp))
    · exact h.eb p (List.mem_append_right _ hp)
  · rcases List.mem_append.1 hp with hp | hp <;> rcases List.mem_append.1 hq with hq | hq
    · exact h.ed p (List.mem_append_left _ (List.mem_append_left _ hp)) q hq
    · exact h0.ed p hp q (List.mem_append_right _ hq)
    · exact h.ed p (List.mem_append_right _ hp) q hq
    · exact hx p hp q hq
end
theorem rNew12_any (w : World) (c : Um.Cf) (h : Nat) (ky : Int) (hh : Um.Word h) (m : Um.Mm) :
    Calls Tryz.prog 13 #[(.agg #[.int .i64 (c.t), .int .i64 (c.s), .int .i64 (c.k), .int .i64 (c.g), .int .u64 (c.q : Int)]), .int .u64 (h : Nat), .int .i64 ky] w fun e w' => ∃ G, ∃ sb : List (Nat × List Value), e = .returned (R12.V G) ∧ (∀ p ∈ sb, BlkAt w' p.1 p.2 ∧ w.heap.size ≤ p.1) ∧ Ref12 h ky (Um.svN h) sb (Um.rdbeg c h ky m) G ∧ Below w.heap.size w w' := by
  by_cases hk0 : ky < 0
  · refine (rNew12_k1 w c h ky hh hk0).mono ?_
    rintro e w' ⟨rfl, hb⟩
    refine ⟨_, [], rfl, (fun p hp => by cases hp), ?_, hb⟩
    unfold Um.rdbeg
    rw [if_pos (.inl hk0)]
    exact ref_done rfl rfl rfl
  by_cases hk : c.k ≤ ky
  · refine (rNew12_k2 w c h ky hh hk0 hk).mono ?_
    rintro e w' ⟨rfl, hb⟩
    refine ⟨_, [], rfl, (fun p hp => by cases hp), ?_, hb⟩
    unfold Um.rdbeg
    rw [if_pos (.inr hk)]
    exact ref_done rfl rfl rfl
  have hno : ¬ (ky < 0 ∨ c.k ≤ ky) := fun q => q.elim hk0 hk
  cases hn : Um.ook h c.s with
  | false =>
    refine (rNew12_st w c h ky hh hk0 hk hn).mono ?_
    rintro e w' ⟨rfl, hb⟩
    refine ⟨_, [], rfl, (fun p hp => by cases hp), ?_, hb⟩
    unfold Um.rdbeg
    rw [if_neg hno, if_neg (by rw [hn]; decide)]
    exact ref_done rfl rfl rfl
  | true =>
    refine (rNew12_ok w c h ky hh hk0 hk hn).mono ?_
    rintro e w' ⟨G, rfl, hG, hl, hb⟩
    refine ⟨_, [(G, [.int .i64 2])], rfl, (fun p hp => ?_), ?_, hb⟩
    · obtain rfl : p = (G, [.int .i64 2]) := by simpa using hp
      exact ⟨hG, hl⟩
    unfold Um.rdbeg
    rw [if_neg hno, if_pos hn]
    exact ⟨rfl, rfl, fun _ => rfl, fun _ => rfl, fun _ => rfl, fun _ => rfl, fun _ => rfl, fun _ _ => ⟨.inr ⟨G, rfl, List.mem_singleton.2 rfl⟩, rfl, rfl, rfl, rfl, rfl, rfl, rfl⟩, fun _ (q : 0 = 4 ∨ 0 = 5) => by omega, fun _ (q : 0 = 4) => by omega, fun _ (q : 0 = 5) => by omega, fun _ (q : 0 = 6) => by omega⟩
end
end Go.Proofs.YtapgghciieloaaaGreat
