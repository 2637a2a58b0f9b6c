/-
  For every world's size and all two spots, the law ChartApart answers true: if both stand somewhere, they stand in one cell just if they are the same. Conditions: none.
-/
import Derived.Test.YtbbleemonhecjaaRows
import Derived.Test.YtbbleemonhecjaaChartAlive
import Derived.Test.YtbbleemonhecjaaOpenCfg
import Derived.Test.YtbbleemonhecjaaOpenPair
import Derived.WalkKit
import Derived.ProofKit
import Derived.OpenShut
import Derived.ShutString
namespace Go.Proofs.Ytbbleemonhecjaa.chartApart
open Go.ChangeShapes Go.WideShapes Go.ChangeAt Go.RowKit Go.Sort
set_option linter.unusedVariables false

theorem own : ownKnob Try.prog.godebug = none := by kernel_rfl
theorem laidOut : laidOutB Try.prog = true := by kernel_rfl

set_option maxHeartbeats 2000000 in
theorem walkN (w : World) (t s k g : Int) (q : Nat) (a b c d : Int) (hb0 : -9223372036854775808 ≤ b) (hb1 : b ≤ 9223372036854775807) (hd0 : -9223372036854775808 ≤ d) (hd1 : d ≤ 9223372036854775807) :
    Calls Try.prog 7 #[(.agg #[.int .i64 t, .int .i64 s, .int .i64 k, .int .i64 g, .int .u64 (q : Int)]), (.agg #[.int .i64 a, .int .i64 b]), (.agg #[.int .i64 c, .int .i64 d])] w fun e w' => e = .returned (.bool true) ∧ Below w.heap.size w w' := by
  have hC := fun a b w h0 h1 => cCell_any t s k g q a b w h0 h1
  have hinj := fun h1 h2 e => Um.cell_inj (a := a) (b := b) (a' := c) (b' := d) (Um.rt_rb t s k g q) h1 h2 e
  have hsame : a = c ∧ b = d → Um.cellN (Um.rt t s k g q) t s k a b = Um.cellN (Um.rt t s k g q) t s k c d := by rintro ⟨rfl, rfl⟩; rfl
  generalize Um.rt t s k g q = r at *
  generalize Um.cellN r t s k = F at *
  have hpair : ∀ w, (binOp .eql 39 (.agg #[.int .i64 a, .int .i64 b]) (.agg #[.int .i64 c, .int .i64 d])).run Try.prog w = .ok (.bool (decide (a = c ∧ b = d))) w := eqPairI a b c d
  have hrel : ¬ F a b < 0 → ¬ F c d < 0 → ((F a b == F c d) == decide (a = c ∧ b = d)) = true := by
    intro h1 h2
    have h3 := hinj (by omega) (by omega)
    rw [beq_iff_eq, Bool.eq_iff_iff, beq_iff_eq, decide_eq_true_iff]
    exact ⟨h3, hsame⟩
  have HR := hide hrel
  clear hinj hsame hrel
  generalize decide (a = c ∧ b = d) = o at *
  have hz1 : w.heap.size < w.heap.size + 3 := by omega
  have hz2 : w.heap.size + 1 < w.heap.size + 3 := by omega
  go_enter Try.func7, Try.ntmps7
  go_wp2_with fail
  generalize hW : World.alloc _ _ = W
  have hBW : Below w.heap.size w W := by subst hW; exact (((Below.refl _ _).alloc (Nat.le_refl _) _).alloc (by simp) _).alloc (by simp; omega) _
  have hzW : w.heap.size + 2 < W.heap.size := by subst hW; simp
  have c0 : W.cell? ⟨w.heap.size, 0, none⟩ = some (.int .i64 t) := by subst hW; go_simp
  have c1 : W.cell? ⟨w.heap.size, 1, none⟩ = some (.int .i64 s) := by subst hW; go_simp
  have c2 : W.cell? ⟨w.heap.size, 2, none⟩ = some (.int .i64 k) := by subst hW; go_simp
  have c3 : W.cell? ⟨w.heap.size, 3, none⟩ = some (.int .i64 g) := by subst hW; go_simp
  have c4 : W.cell? ⟨w.heap.size, 4, none⟩ = some (.int .u64 q) := by subst hW; go_simp
  have c5 : W.cell? ⟨w.heap.size + 1, 0, none⟩ = some (.int .i64 a) := by subst hW; go_simp
  have c6 : W.cell? ⟨w.heap.size + 1, 1, none⟩ = some (.int .i64 b) := by subst hW; go_simp
  have c7 : W.cell? ⟨w.heap.size + 2, 0, none⟩ = some (.int .i64 c) := by subst hW; go_simp
  have c8 : W.cell? ⟨w.heap.size + 2, 1, none⟩ = some (.int .i64 d) := by subst hW; go_simp
  clear hW hz1 hz2
  have k0 := fun d os => cell_regrown c0 d os
  have k1 := fun d os => cell_regrown c1 d os
  have k2 := fun d os => cell_regrown c2 d os
  have k3 := fun d os => cell_regrown c3 d os
  have k4 := fun d os => cell_regrown c4 d os
  have k5 := fun d os => cell_regrown c5 d os
  have k6 := fun d os => cell_regrown c6 d os
  have k7 := fun d os => cell_regrown c7 d os
  have k8 := fun d os => cell_regrown c8 d os
  refine wp_region_quiet_below (by kernel_rfl) (by kernel_rfl) ?_
  repeat (go_big_quiet_step (first
    | (go_at_call 14; exact Calls.regrown_of (hC _ _ _ (by assumption) (by assumption)))))
  refine wpQuiet_nil ?_
  intro _ hw'
  obtain ⟨⟨dq, osq⟩, hw''⟩ := hw'
  subst hw''
  have hQ := below_regrown W dq osq
  have hBQ := hBW.trans (hQ.mono hBW.size)
  have m5 := k5 dq osq
  have m6 := k6 dq osq
  have m7 := k7 dq osq
  have m8 := k8 dq osq
  have hzQ : w.heap.size + 2 < (grow (redrawn W dq) osq).heap.size := Nat.lt_of_lt_of_le hzW hQ.size
  clear k0 k1 k2 k3 k4 k5 k6 k7 k8 c0 c1 c2 c3 c4 c5 c6 c7 c8 hQ hC hBW hzW hb0 hb1 hd0 hd1
  generalize F a b = x at *
  generalize F c d = y at *
  generalize grow (redrawn W dq) osq = V at *
  go_wp2_with fail
  refine (cAlive_any _).mono ?_
  rintro e w2 ⟨rfl, hb2⟩
  have n5 := (hb2.cell (p := ⟨w.heap.size + 1, 0, none⟩) (show w.heap.size + 1 < V.heap.size by omega)).trans m5
  have n6 := (hb2.cell (p := ⟨w.heap.size + 1, 1, none⟩) (show w.heap.size + 1 < V.heap.size by omega)).trans m6
  have n7 := (hb2.cell (p := ⟨w.heap.size + 2, 0, none⟩) (show w.heap.size + 2 < V.heap.size by omega)).trans m7
  have n8 := (hb2.cell (p := ⟨w.heap.size + 2, 1, none⟩) (show w.heap.size + 2 < V.heap.size by omega)).trans m8
  have hB2 := hBQ.trans (hb2.mono hBQ.size)
  clear hb2 hBQ m5 m6 m7 m8 hzQ
  by_cases hx : x < 0
  · clear HR
    have hdx : decide (x < 0) = true := decide_eq_true hx
    go_wp2
    go_ret
    exact ⟨rfl, hB2⟩
  · have hdx : decide (x < 0) = false := decide_eq_false hx
    by_cases hy : y < 0
    · clear HR
      have hdy : decide (y < 0) = true := decide_eq_true hy
      go_wp2
      go_ret
      exact ⟨rfl, hB2⟩
    · have hdy : decide (y < 0) = false := decide_eq_false hy
      have hres := unhide HR (by omega) (by omega)
      clear HR
      go_wp2
      go_ret
      exact ⟨rfl, hB2⟩

theorem walk {H : Type} {enc : TypeId × Value → H} {base : Nat} {v u u' : Value} {d d' d'' : DataW H} {p p' p'' : List MemPlace} (w : World)
    (hv : Value.okWide Try.prog w .any base 24 v) (h : DataW.Trod enc Try.prog w 0 (fun _ => true) true 24 v d p)
    (hu : Value.okWide Try.prog w .any base 39 u) (h' : DataW.Trod enc Try.prog w 0 (fun _ => true) true 39 u d' p')
    (hu' : Value.okWide Try.prog w .any base 39 u') (h'' : DataW.Trod enc Try.prog w 0 (fun _ => true) true 39 u' d'' p'') :
    Calls Try.prog 7 #[v, u, u'] w fun e w' => e = .returned (.bool true) ∧ Below w.heap.size w w' := by
  obtain ⟨t, s, k, g, q, rfl, _⟩ := open_cfg hv h
  obtain ⟨a, b, rfl, ha, hb⟩ := open_pairB hu h'
  obtain ⟨c, d, rfl, hc, hd⟩ := open_pairB hu' h''
  exact walkN w t s k g q a b c d hb.1 hb.2 hd.1 hd.2

set_option maxRecDepth 100000 in
theorem lifted (os : Os) (started : os.Started) (H : Type) (enc : TypeId × Value → H) :
    ReturnsInHanded {} Try.checked os 7 .any (Rows.chartApartSpec.pre6 enc Try.prog Try.f7 Rows.chartApartRow.domain false) (Rows.chartApartSpec.post enc Try.prog Try.f7 false true false false) := by
  refine returnsInHanded_of_change (C := Try.checked) own started (by kernel_rfl) Try.func7
    (ChangeSpec.witness6 (enc := enc) (C := Try.checked) false ⟨#[], #[.agg #[.int .i64 0, .int .i64 0, .int .i64 0, .int .i64 0, .int .u64 0], .agg #[.int .i64 0, .int .i64 0], .agg #[.int .i64 0, .int .i64 0]], []⟩ 8 (by kernel_rfl) (by kernel_rfl) (by kernel_rfl) (by kernel_rfl)) ?_
  intro W base args ds gs before hval0 hW hcnd _
  have hval : ∀ (j : Nat) t v, Try.f7.params[j]? = some t → args[j]? = some v → Value.okWide Try.prog W .any base t v := hval0
  have hW' := hW
  obtain ⟨p, q, hA0, hV, rfl, hfz, hnd⟩ := hW
  have hA : DataW.TrodAll enc Try.prog W 0 (fun _ => true) true Try.f7.params.toList args.toList ds p := hA0
  rw [Try.params7] at hA hval
  obtain ⟨v0, vs0, d0, ds0, p0, q0, hargs, rfl, rfl, h0, r0⟩ := trodAll_cons hA
  obtain ⟨v1, vs1, d1, ds1, p1, q1, rfl, rfl, rfl, h1, r1⟩ := trodAll_cons r0
  obtain ⟨v2, vs2, d2, ds2, p2, q2, rfl, rfl, rfl, h2, r2⟩ := trodAll_cons r1
  obtain ⟨rfl, rfl, rfl⟩ := trodAll_nil r2
  obtain rfl : args = #[v0, v1, v2] := by cases args; simp_all
  obtain ⟨rfl, rfl⟩ := trodVars_none hV
  have k0 := h0
  have lt0 : ∀ x ∈ p0, x.block < W.heap.size := by obtain ⟨m, hm⟩ := k0; exact DataW.trod_lt m _ _ _ hm
  have k1 := h1
  have lt1 : ∀ x ∈ p1, x.block < W.heap.size := by obtain ⟨m, hm⟩ := k1; exact DataW.trod_lt m _ _ _ hm
  have k2 := h2
  have lt2 : ∀ x ∈ p2, x.block < W.heap.size := by obtain ⟨m, hm⟩ := k2; exact DataW.trod_lt m _ _ _ hm
  refine (walk W (hval 0 24 v0 rfl rfl) h0 (hval 1 39 v1 rfl rfl) h1 (hval 2 39 v2 rfl rfl) h2).mono fun e W' ⟨he, bel⟩ => ?_
  subst he
  exact ⟨_, rfl, _, _, _, [], _, [], hW', trodAll_mk1 (shut_bool Try.underlying4 _), (trodAll_cons_mk (Below.trod laidOut (by kernel_rfl) (of_decide_eq_true (by kernel_rfl)) k0 bel lt0) (trodAll_cons_mk (Below.trod laidOut (by kernel_rfl) (of_decide_eq_true (by kernel_rfl)) k1 bel lt1) (trodAll_cons_mk (Below.trod laidOut (by kernel_rfl) (of_decide_eq_true (by kernel_rfl)) k2 bel lt2) trodAll_mk0))), rfl, bel.frame _, fun h => by cases h⟩

theorem ChartApart_proved : Rows.ChartApartSaid :=
  OpenClaim.holds_of_wide 7 Try.f7 rfl rfl rfl rfl rfl rfl rfl ⟨rfl, rfl, rfl, rfl, rfl⟩ rfl rfl rfl rfl rfl (by kernel_rfl) Try.func7 (by kernel_rfl)
    (of_decide_eq_true (by kernel_rfl)) (by unfold Func.isWrapper; first | (rw [if_pos (by decide +kernel)]; kernel_rfl) | (rw [if_neg (by decide +kernel)]; exact ⟨rfl, rfl⟩))
    (fun os started H enc _ => lifted os started H enc)

end Go.Proofs.Ytbbleemonhecjaa.chartApart
