/-
  For every world's size and every cell, the law ChartSpots answers true: which spot stands there, or that none does, is what the document's own answer says; it stands there. Conditions: none.
-/
import Derived.Test.YtbbleemonhecjaaRows
import Derived.Test.YtbbleemonhecjaaChartAlive
import Derived.Test.YtbbleemonhecjaaChartD
import Derived.Test.YtbbleemonhecjaaOpenCfg
import Derived.WalkKit
import Derived.ProofKit
import Derived.OpenShut
import Derived.ShutString
namespace Go.Proofs.Ytbbleemonhecjaa.chartSpots
open Go.ChangeShapes Go.WideShapes Go.ChangeAt Go.RowKit Go.Sort
set_option linter.unusedVariables false

theorem own : ownKnob Try.prog.godebug = none := by kernel_rfl
theorem laidOut : laidOutB Try.prog = true := by kernel_rfl

set_option maxHeartbeats 2000000 in
theorem walkN (w : World) (t s k g : Int) (q : Nat) (x : Int) (hx : x ≤ 9223372036854775807) :
    Calls Try.prog 5 #[(.agg #[.int .i64 t, .int .i64 s, .int .i64 k, .int .i64 g, .int .u64 (q : Int)]), .int .i64 x] w fun e w' => e = .returned (.bool true) ∧ Below w.heap.size w w' := by
  have hA := fun w => cAt_any t s k g q x w hx
  have hA' := rAt_any t s k g q x
  have hL := cLen_any t s k g q
  have hC := fun a b w h0 h1 => cCell_any t s k g q a b w h0 h1
  have hpos := fun h0 h1 => Um.at_pos (x := x) (Um.rt_rb t s k g q) h0 h1
  have hcell := fun h0 h1 => Um.at_cell (x := x) (Um.rt_rb t s k g q) h0 h1
  have hout := fun h => Um.at_out (x := x) (Um.rt_rb t s k g q) h
  have hneg := fun h => Um.at_neg (r := Um.rt t s k g q) (t := t) (s := s) (k := k) (x := x) h
  generalize Um.rt t s k g q = r at *
  generalize Um.clen r t s k = n at *
  by_cases h0 : 0 ≤ x
  · by_cases h1 : x < n
    · obtain ⟨p1, p2, p3, p4⟩ := hpos h0 h1
      have hC' := fun w => hC (Um.atK r t s k x) (Um.atO r t s k x) w (by omega) (by omega)
      rw [hcell h0 h1] at hC'
      have hne : (Um.atK r t s k x != 0) = true := by simp; omega
      have hne' : (Um.atK r t s k x == 0) = false := by simp; omega
      clear hpos hcell hout hneg hC p1 p2 p3 p4 hx
      generalize Um.atK r t s k x = a at *
      generalize Um.atO r t s k x = b at *
      have hg : decide (x ≥ 0) = true := decide_eq_true h0
      have hd : decide (x < n) = true := decide_eq_true h1
      have heq : ∀ w, (binOp .eql 34 (.agg #[.int .i64 a, .int .i64 b]) (.agg #[.int .i64 a, .int .i64 b])).run Try.prog w = .ok (.bool true) w := eqlSpot _ (Or.inr rfl) (by simp)
      go_enter Try.func5, Try.ntmps5
      go_wp2_with fail
      refine (hA _).mono ?_
      rintro e w1 ⟨rfl, hb1⟩
      have K1 : CfgAt w1 w.heap.size t s k g q := CfgAt.below ⟨by simp, by go_simp, by go_simp, by go_simp, by go_simp, by go_simp⟩ hb1
      have hB0 : Below w.heap.size w w1 := by
        refine Below.trans ?_ (hb1.mono (by simp))
        repeat first | exact Below.refl _ _ | refine Below.setCell ?_ (by simp) _ | refine Below.alloc ?_ (by simp) _
      clear hb1
      go_wp2_with fail
      generalize hW : w1.alloc _ = W
      have hz := hB0.size
      have K2 : CfgAt W w.heap.size t s k g q := by subst hW; exact K1.below ((Below.refl _ _).alloc (Nat.le_refl _) _)
      have hBW : Below w.heap.size w W := by subst hW; exact hB0.alloc hz _
      have c5 : W.cell? ⟨w1.heap.size, 0, none⟩ = some (.int .i64 a) := by subst hW; go_simp
      have c6 : W.cell? ⟨w1.heap.size, 1, none⟩ = some (.int .i64 b) := by subst hW; go_simp
      clear hW
      obtain ⟨_, c0, c1, c2, c3, c4⟩ := K2
      have k0 := fun d os => cell_regrown c0 d os
      have k1 := fun d os => cell_regrown c1 d os
      have k2 := fun d os => cell_regrown c2 d os
      have k3 := fun d os => cell_regrown c3 d os
      have k4 := fun d os => cell_regrown c4 d os
      have k5 := fun d os => cell_regrown c5 d os
      have k6 := fun d os => cell_regrown c6 d os
      refine wp_region_quiet_below (by kernel_rfl) (by kernel_rfl) ?_
      repeat (go_big_quiet_step (first
        | (go_at_call 9; exact Calls.regrown_of (cAlive_any _))
        | (go_at_call 17; exact Calls.regrown_of (hA' _))
        | (go_at_call 12; exact Calls.regrown_of (hL _))
        | (go_at_call 14; exact Calls.regrown_of (hC' _))))
      refine wpQuiet_nil ?_
      intro _ hw'
      obtain ⟨⟨dq, osq⟩, hw''⟩ := hw'
      subst hw''
      go_wp2
      go_ret
      exact ⟨rfl, hBW.trans ((below_regrown _ dq osq).mono hBW.size)⟩
    · obtain ⟨e0, e1⟩ := hout (by omega)
      rw [e0, e1] at hA hA'
      clear hpos hcell hout hneg hC hx e0 e1
      have hg : decide (x ≥ 0) = true := decide_eq_true h0
      have hd : decide (x < n) = false := decide_eq_false h1
      have heq : ∀ w, (binOp .eql 34 (.agg #[.int .i64 0, .int .i64 0]) (.agg #[.int .i64 0, .int .i64 0])).run Try.prog w = .ok (.bool true) w := eqlSpot _ (Or.inr rfl) (by simp)
      go_enter Try.func5, Try.ntmps5
      go_wp2_with fail
      refine (hA _).mono ?_
      rintro e w1 ⟨rfl, hb1⟩
      have K1 : CfgAt w1 w.heap.size t s k g q := CfgAt.below ⟨by simp, by go_simp, by go_simp, by go_simp, by go_simp, by go_simp⟩ hb1
      have hB0 : Below w.heap.size w w1 := by
        refine Below.trans ?_ (hb1.mono (by simp))
        repeat first | exact Below.refl _ _ | refine Below.setCell ?_ (by simp) _ | refine Below.alloc ?_ (by simp) _
      clear hb1
      go_wp2_with fail
      generalize hW : w1.alloc _ = W
      have hz := hB0.size
      have K2 : CfgAt W w.heap.size t s k g q := by subst hW; exact K1.below ((Below.refl _ _).alloc (Nat.le_refl _) _)
      have hBW : Below w.heap.size w W := by subst hW; exact hB0.alloc hz _
      have c5 : W.cell? ⟨w1.heap.size, 0, none⟩ = some (.int .i64 0) := by subst hW; go_simp
      have c6 : W.cell? ⟨w1.heap.size, 1, none⟩ = some (.int .i64 0) := by subst hW; go_simp
      clear hW
      obtain ⟨_, c0, c1, c2, c3, c4⟩ := K2
      have k0 := fun d os => cell_regrown c0 d os
      have k1 := fun d os => cell_regrown c1 d os
      have k2 := fun d os => cell_regrown c2 d os
      have k3 := fun d os => cell_regrown c3 d os
      have k4 := fun d os => cell_regrown c4 d os
      have k5 := fun d os => cell_regrown c5 d os
      have k6 := fun d os => cell_regrown c6 d os
      refine wp_region_quiet_below (by kernel_rfl) (by kernel_rfl) ?_
      repeat (go_big_quiet_step (first
        | (go_at_call 9; exact Calls.regrown_of (cAlive_any _))
        | (go_at_call 17; exact Calls.regrown_of (hA' _))
        | (go_at_call 12; exact Calls.regrown_of (hL _))))
      refine wpQuiet_nil ?_
      intro _ hw'
      obtain ⟨⟨dq, osq⟩, hw''⟩ := hw'
      subst hw''
      go_wp2
      go_ret
      exact ⟨rfl, hBW.trans ((below_regrown _ dq osq).mono hBW.size)⟩
  · obtain ⟨e0, e1⟩ := hneg (by omega)
    rw [e0, e1] at hA hA'
    clear hpos hcell hout hneg hC hx e0 e1
    have hg : decide (x ≥ 0) = false := decide_eq_false h0
    have heq : ∀ w, (binOp .eql 34 (.agg #[.int .i64 0, .int .i64 0]) (.agg #[.int .i64 0, .int .i64 0])).run Try.prog w = .ok (.bool true) w := eqlSpot _ (Or.inr rfl) (by simp)
    go_enter Try.func5, Try.ntmps5
    go_wp2_with fail
    refine (hA _).mono ?_
    rintro e w1 ⟨rfl, hb1⟩
    have K1 : CfgAt w1 w.heap.size t s k g q := CfgAt.below ⟨by simp, by go_simp, by go_simp, by go_simp, by go_simp, by go_simp⟩ hb1
    have hB0 : Below w.heap.size w w1 := by
      refine Below.trans ?_ (hb1.mono (by simp))
      repeat first | exact Below.refl _ _ | refine Below.setCell ?_ (by simp) _ | refine Below.alloc ?_ (by simp) _
    clear hb1
    go_wp2_with fail
    generalize hW : w1.alloc _ = W
    have hz := hB0.size
    have K2 : CfgAt W w.heap.size t s k g q := by subst hW; exact K1.below ((Below.refl _ _).alloc (Nat.le_refl _) _)
    have hBW : Below w.heap.size w W := by subst hW; exact hB0.alloc hz _
    have c5 : W.cell? ⟨w1.heap.size, 0, none⟩ = some (.int .i64 0) := by subst hW; go_simp
    have c6 : W.cell? ⟨w1.heap.size, 1, none⟩ = some (.int .i64 0) := by subst hW; go_simp
    clear hW
    obtain ⟨_, c0, c1, c2, c3, c4⟩ := K2
    have k0 := fun d os => cell_regrown c0 d os
    have k1 := fun d os => cell_regrown c1 d os
    have k2 := fun d os => cell_regrown c2 d os
    have k3 := fun d os => cell_regrown c3 d os
    have k4 := fun d os => cell_regrown c4 d os
    have k5 := fun d os => cell_regrown c5 d os
    have k6 := fun d os => cell_regrown c6 d os
    refine wp_region_quiet_below (by kernel_rfl) (by kernel_rfl) ?_
    repeat (go_big_quiet_step (first
      | (go_at_call 9; exact Calls.regrown_of (cAlive_any _))
      | (go_at_call 17; exact Calls.regrown_of (hA' _))))
    refine wpQuiet_nil ?_
    intro _ hw'
    obtain ⟨⟨dq, osq⟩, hw''⟩ := hw'
    subst hw''
    go_wp2
    go_ret
    exact ⟨rfl, hBW.trans ((below_regrown _ dq osq).mono hBW.size)⟩

theorem walk {H : Type} {enc : TypeId × Value → H} {base : Nat} {v : Value} {d : DataW H} {p : List MemPlace} (w : World)
    (hv : Value.okWide Try.prog w .any base 24 v) (h : DataW.Trod enc Try.prog w 0 (fun _ => true) true 24 v d p)
    (a1 : Int) (w1 : (Lit.int .i64 a1).wf = true) :
    Calls Try.prog 5 #[v, .int .i64 a1] w fun e w' => e = .returned (.bool true) ∧ Below w.heap.size w w' := by
  obtain ⟨t, s, k, g, q, rfl, _⟩ := open_cfg hv h
  exact walkN w t s k g q a1 (int_of w1).2

set_option maxRecDepth 100000 in
theorem lifted (os : Os) (started : os.Started) (H : Type) (enc : TypeId × Value → H) :
    ReturnsInHanded {} Try.checked os 5 .any (Rows.chartSpotsSpec.pre6 enc Try.prog Try.f5 Rows.chartSpotsRow.domain false) (Rows.chartSpotsSpec.post enc Try.prog Try.f5 false true false false) := by
  refine returnsInHanded_of_change (C := Try.checked) own started (by kernel_rfl) Try.func5
    (ChangeSpec.witness6 (enc := enc) (C := Try.checked) false ⟨#[], #[.agg #[.int .i64 0, .int .i64 0, .int .i64 0, .int .i64 0, .int .u64 0], .int .i64 0], []⟩ 8 (by kernel_rfl) (by kernel_rfl) (by kernel_rfl) (by kernel_rfl)) ?_
  intro W base args ds gs before hval0 hW hcnd _
  have hval : ∀ (j : Nat) t v, Try.f5.params[j]? = some t → args[j]? = some v → Value.okWide Try.prog W .any base t v := hval0
  have hW' := hW
  obtain ⟨p, q, hA0, hV, rfl, hfz, hnd⟩ := hW
  have hA : DataW.TrodAll enc Try.prog W 0 (fun _ => true) true Try.f5.params.toList args.toList ds p := hA0
  rw [Try.params5] at hA hval
  obtain ⟨v0, vs0, d0, ds0, p0, q0, hargs, rfl, rfl, h0, r0⟩ := trodAll_cons hA
  obtain ⟨v1, vs1, d1, ds1, p1, q1, rfl, rfl, rfl, h1, r1⟩ := trodAll_cons r0
  obtain ⟨rfl, rfl, rfl⟩ := trodAll_nil r1
  obtain rfl : args = #[v0, v1] := by cases args; simp_all
  obtain ⟨rfl, rfl⟩ := trodVars_none hV
  have k0 := h0
  have lt0 : ∀ x ∈ p0, x.block < W.heap.size := by obtain ⟨m, hm⟩ := k0; exact DataW.trod_lt m _ _ _ hm
  have k1 := h1
  have lt1 : ∀ x ∈ p1, x.block < W.heap.size := by obtain ⟨m, hm⟩ := k1; exact DataW.trod_lt m _ _ _ hm
  obtain ⟨a1, rfl, hd1, hp1, w1⟩ := open_int Try.underlying3 (hval 1 3 v1 rfl rfl) h1
  refine (walk W (hval 0 24 v0 rfl rfl) h0 a1 w1).mono fun e W' ⟨he, bel⟩ => ?_
  subst he
  exact ⟨_, rfl, _, _, _, [], _, [], hW', trodAll_mk1 (shut_bool Try.underlying4 _), (trodAll_cons_mk (Below.trod laidOut (by kernel_rfl) (of_decide_eq_true (by kernel_rfl)) k0 bel lt0) (trodAll_cons_mk (Below.trod laidOut (by kernel_rfl) (of_decide_eq_true (by kernel_rfl)) k1 bel lt1) trodAll_mk0)), rfl, bel.frame _, fun h => by cases h⟩

theorem ChartSpots_proved : Rows.ChartSpotsSaid :=
  OpenClaim.holds_of_wide 5 Try.f5 rfl rfl rfl rfl rfl rfl rfl ⟨rfl, rfl, rfl, rfl, rfl⟩ rfl rfl rfl rfl rfl (by kernel_rfl) Try.func5 (by kernel_rfl)
    (of_decide_eq_true (by kernel_rfl)) (by unfold Func.isWrapper; first | (rw [if_pos (by decide +kernel)]; kernel_rfl) | (rw [if_neg (by decide +kernel)]; exact ⟨rfl, rfl⟩))
    (fun os started H enc _ => lifted os started H enc)

end Go.Proofs.Ytbbleemonhecjaa.chartSpots
