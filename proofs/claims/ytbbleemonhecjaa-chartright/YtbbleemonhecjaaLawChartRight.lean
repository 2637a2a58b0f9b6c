/-
  For every world's size, the law ChartRight answers true: whether there is such a world, and how many cells it has, is what the document's own answer says. Conditions: none.
-/
import Derived.Test.YtbbleemonhecjaaRows
import Derived.Test.YtbbleemonhecjaaChartAlive
import Derived.Test.YtbbleemonhecjaaChartD
import Derived.Test.YtbbleemonhecjaaOpenCfg
import Derived.WalkKit
import Derived.ProofKit
import Derived.OpenShut
import Derived.ShutString
namespace Go.Proofs.Ytbbleemonhecjaa.chartRight
open Go.ChangeShapes Go.WideShapes Go.ChangeAt Go.RowKit Go.Sort
set_option linter.unusedVariables false

theorem own : ownKnob Try.prog.godebug = none := by kernel_rfl
theorem laidOut : laidOutB Try.prog = true := by kernel_rfl

set_option maxHeartbeats 2000000 in
theorem walkN (w : World) (t s k g : Int) (q : Nat) :
    Calls Try.prog 3 #[(.agg #[.int .i64 t, .int .i64 s, .int .i64 k, .int .i64 g, .int .u64 (q : Int)])] w fun e w' => e = .returned (.bool true) ∧ Below w.heap.size w w' := by
  have hR := cRight_any t s k g q
  have hR' := rRight_any t s k g q
  have hL := cLen_any t s k g q
  have hL' := rLen_any t s k g q
  have hpos : (decide (Um.clen (Um.rt t s k g q) t s k > 0)) = Um.rt t s k g q := by
    have hb := Um.rt_rb t s k g q
    generalize Um.rt t s k g q = r at *
    cases r
    · simp [Um.clen]
    · have := hb rfl
      simp [Um.clen]
      omega
  generalize Um.rt t s k g q = r at *
  generalize Um.clen r t s k = n at *
  have hB0 : Below w.heap.size w (w.alloc (.cells #[.int .i64 t, .int .i64 s, .int .i64 k, .int .i64 g, .int .u64 q] 24)) := (Below.refl w.heap.size w).alloc (Nat.le_refl _) _
  have k0 : ∀ d os, (grow (redrawn (w.alloc (.cells #[.int .i64 t, .int .i64 s, .int .i64 k, .int .i64 g, .int .u64 q] 24)) d) os).cell? ⟨w.heap.size, 0, none⟩ = some (.int .i64 t) := fun d os => cell_regrown (by go_simp) d os
  have k1 : ∀ d os, (grow (redrawn (w.alloc (.cells #[.int .i64 t, .int .i64 s, .int .i64 k, .int .i64 g, .int .u64 q] 24)) d) os).cell? ⟨w.heap.size, 1, none⟩ = some (.int .i64 s) := fun d os => cell_regrown (by go_simp) d os
  have k2 : ∀ d os, (grow (redrawn (w.alloc (.cells #[.int .i64 t, .int .i64 s, .int .i64 k, .int .i64 g, .int .u64 q] 24)) d) os).cell? ⟨w.heap.size, 2, none⟩ = some (.int .i64 k) := fun d os => cell_regrown (by go_simp) d os
  have k3 : ∀ d os, (grow (redrawn (w.alloc (.cells #[.int .i64 t, .int .i64 s, .int .i64 k, .int .i64 g, .int .u64 q] 24)) d) os).cell? ⟨w.heap.size, 3, none⟩ = some (.int .i64 g) := fun d os => cell_regrown (by go_simp) d os
  have k4 : ∀ d os, (grow (redrawn (w.alloc (.cells #[.int .i64 t, .int .i64 s, .int .i64 k, .int .i64 g, .int .u64 q] 24)) d) os).cell? ⟨w.heap.size, 4, none⟩ = some (.int .u64 q) := fun d os => cell_regrown (by go_simp) d os
  go_enter Try.func3, Try.ntmps3
  go_wp2_with fail
  generalize w.alloc _ = W at *
  refine wp_region_quiet_below (by kernel_rfl) (by kernel_rfl) ?_
  repeat (go_big_quiet_step (first
    | (go_at_call 9; exact Calls.regrown_of (cAlive_any _))
    | (go_at_call 10; exact Calls.regrown_of (hR _))
    | (go_at_call 11; exact Calls.regrown_of (hR' _))
    | (go_at_call 12; exact Calls.regrown_of (hL _))
    | (go_at_call 13; exact Calls.regrown_of (hL' _))))
  refine wpQuiet_nil ?_
  intro _ hw'
  obtain ⟨⟨dq, osq⟩, hw''⟩ := hw'
  subst hw''
  go_wp2
  go_ret
  exact ⟨rfl, hB0.trans ((below_regrown _ dq osq).mono hB0.size)⟩

theorem walk {H : Type} {enc : TypeId × Value → H} {base : Nat} {v : Value} {d : DataW H} {p : List MemPlace} (w : World)
    (hv : Value.okWide Try.prog w .any base 24 v) (h : DataW.Trod enc Try.prog w 0 (fun _ => true) true 24 v d p) :
    Calls Try.prog 3 #[v] w fun e w' => e = .returned (.bool true) ∧ Below w.heap.size w w' := by
  obtain ⟨t, s, k, g, q, rfl, _⟩ := open_cfg hv h
  exact walkN w t s k g q

set_option maxRecDepth 100000 in
theorem lifted (os : Os) (started : os.Started) (H : Type) (enc : TypeId × Value → H) :
    ReturnsInHanded {} Try.checked os 3 .any (Rows.chartRightSpec.pre6 enc Try.prog Try.f3 Rows.chartRightRow.domain false) (Rows.chartRightSpec.post enc Try.prog Try.f3 false true false false) := by
  refine returnsInHanded_of_change (C := Try.checked) own started (by kernel_rfl) Try.func3
    (ChangeSpec.witness6 (enc := enc) (C := Try.checked) false ⟨#[], #[.agg #[.int .i64 0, .int .i64 0, .int .i64 0, .int .i64 0, .int .u64 0]], []⟩ 8 (by kernel_rfl) (by kernel_rfl) (by kernel_rfl) (by kernel_rfl)) ?_
  intro W base args ds gs before hval0 hW hcnd _
  have hval : ∀ (j : Nat) t v, Try.f3.params[j]? = some t → args[j]? = some v → Value.okWide Try.prog W .any base t v := hval0
  have hW' := hW
  obtain ⟨p, q, hA0, hV, rfl, hfz, hnd⟩ := hW
  have hA : DataW.TrodAll enc Try.prog W 0 (fun _ => true) true Try.f3.params.toList args.toList ds p := hA0
  rw [Try.params3] at hA hval
  obtain ⟨v0, vs0, d0, ds0, p0, q0, hargs, rfl, rfl, h0, r0⟩ := trodAll_cons hA
  obtain ⟨rfl, rfl, rfl⟩ := trodAll_nil r0
  obtain rfl : args = #[v0] := by cases args; simp_all
  obtain ⟨rfl, rfl⟩ := trodVars_none hV
  have k0 := h0
  have lt0 : ∀ x ∈ p0, x.block < W.heap.size := by obtain ⟨m, hm⟩ := k0; exact DataW.trod_lt m _ _ _ hm
  refine (walk W (hval 0 24 v0 rfl rfl) h0).mono fun e W' ⟨he, bel⟩ => ?_
  subst he
  exact ⟨_, rfl, _, _, _, [], _, [], hW', trodAll_mk1 (shut_bool Try.underlying4 _), (trodAll_cons_mk (Below.trod laidOut (by kernel_rfl) (of_decide_eq_true (by kernel_rfl)) k0 bel lt0) trodAll_mk0), rfl, bel.frame _, fun h => by cases h⟩

theorem ChartRight_proved : Rows.ChartRightSaid :=
  OpenClaim.holds_of_wide 3 Try.f3 rfl rfl rfl rfl rfl rfl rfl ⟨rfl, rfl, rfl, rfl, rfl⟩ rfl rfl rfl rfl rfl (by kernel_rfl) Try.func3 (by kernel_rfl)
    (of_decide_eq_true (by kernel_rfl)) (by unfold Func.isWrapper; first | (rw [if_pos (by decide +kernel)]; kernel_rfl) | (rw [if_neg (by decide +kernel)]; exact ⟨rfl, rfl⟩))
    (fun os started H enc _ => lifted os started H enc)

end Go.Proofs.Ytbbleemonhecjaa.chartRight
