/-
  For every world's size and every kind and thing, the law ChartMore answers true: with one key more each spot stands where it did; with one thread more all behind the pins stand one cell on. Conditions: none.
-/
import Derived.Test.YtbbleemonhecjaaRows
import Derived.Test.YtbbleemonhecjaaChartAlive
import Derived.Test.YtbbleemonhecjaaOpenCfg
import Derived.WalkKit
import Derived.ProofKit
import Derived.OpenShut
import Derived.ShutString
namespace Go.Proofs.Ytbbleemonhecjaa.chartMore
open Go.ChangeShapes Go.WideShapes Go.ChangeAt Go.RowKit Go.Sort
set_option linter.unusedVariables false

theorem own : ownKnob Try.prog.godebug = none := by kernel_rfl
theorem laidOut : laidOutB Try.prog = true := by kernel_rfl

set_option maxHeartbeats 4000000 in
theorem walkF (w : World) (t s k g : Int) (q : Nat) (a b : Int) (F G : Int → Int → Int → Int) (rd re : Bool)
    (hCs : ∀ t s k w, Calls Try.prog 14 #[(.agg #[.int .i64 t, .int .i64 s, .int .i64 k, .int .i64 g, .int .u64 (q : Int)]), (.agg #[.int .i64 a, .int .i64 b])] w fun e w' => e = .returned (.int .i64 (F t s k)) ∧ Below w.heap.size w w')
    (hLs : ∀ t s k w, Calls Try.prog 12 #[(.agg #[.int .i64 t, .int .i64 s, .int .i64 k, .int .i64 g, .int .u64 (q : Int)])] w fun e w' => e = .returned (.int .i64 (G t s k)) ∧ Below w.heap.size w w')
    (hRd : ∀ w, Calls Try.prog 10 #[(.agg #[.int .i64 t, .int .i64 s, .int .i64 (wrap64 (k + 1)), .int .i64 g, .int .u64 (q : Int)])] w fun e w' => e = .returned (.bool rd) ∧ Below w.heap.size w w')
    (hRe : ∀ w, Calls Try.prog 10 #[(.agg #[.int .i64 (wrap64 (t + 1)), .int .i64 s, .int .i64 k, .int .i64 g, .int .u64 (q : Int)])] w fun e w' => e = .returned (.bool re) ∧ Below w.heap.size w w')
    (hmain : rd = true → re = true → 0 ≤ F t s k → F t s (wrap64 (k + 1)) = F t s k ∧ F (wrap64 (t + 1)) s k = F t s k + (if 3 < a then 1 else 0) ∧ G t s (wrap64 (k + 1)) = G t s k + 1 ∧ G (wrap64 (t + 1)) s k = G t s k + 1 ∧ F t s k ≤ 66 ∧ 0 ≤ G t s k ∧ G t s k ≤ 66) :
    Calls Try.prog 8 #[(.agg #[.int .i64 t, .int .i64 s, .int .i64 k, .int .i64 g, .int .u64 (q : Int)]), .int .i64 a, .int .i64 b] w fun e w' => e = .returned (.bool true) ∧ Below w.heap.size w w' := by
  have HM := hide hmain
  clear hmain
  have hz1 : w.heap.size < w.heap.size + 3 := by omega
  have hz2 : w.heap.size + 1 < w.heap.size + 3 := by omega
  go_enter Try.func8, Try.ntmps8
  go_wp2_with fail
  go_region
  · go_wp2_with fail
    refine (hCs _ _ _ _).mono ?_
    rintro e w1 ⟨rfl, hb1⟩
    have K1 : CfgAt w1 (w.heap.size) t s k g q := CfgAt.below ⟨by simp; omega, by go_simp, by go_simp, by go_simp, by go_simp, by go_simp⟩ hb1
    have Kd1 : CfgAt w1 (w.heap.size + 1) t s (wrap64 (k + 1)) g q := CfgAt.below ⟨by simp; try omega, by go_simp, by go_simp, by go_simp, by go_simp, by go_simp⟩ hb1
    have Ke1 : CfgAt w1 (w.heap.size + 1 + 1) (wrap64 (t + 1)) s k g q := CfgAt.below ⟨by simp; try omega, by go_simp, by go_simp, by go_simp, by go_simp, by go_simp⟩ hb1
    have hB1 : Below w.heap.size w w1 := by
      refine Below.trans ?_ (hb1.mono (by simp; omega))
      exact ((((Below.refl _ _).alloc (Nat.le_refl _) _).alloc (by simp) _).alloc (by simp; omega) _).drew
    have HK1 := hide K1
    have HKe1 := hide Ke1
    clear hb1 K1 Ke1 hz1 hz2
    generalize wrap64 (k + 1) = kk at *
    generalize wrap64 (t + 1) = tt at *
    have HKd1 := hide Kd1
    obtain ⟨_, c0, c1, c2, c3, c4⟩ := Kd1
    go_wp2_with fail
    refine (hRd _).mono ?_
    rintro e w2 ⟨rfl, hb2⟩
    have K2 := (unhide HK1).below hb2
    have Kd2 := (unhide HKd1).below hb2
    have Ke2 := (unhide HKe1).below hb2
    have hB2 := hB1.trans (hb2.mono hB1.size)
    clear hb2 c0 c1 c2 c3 c4 HK1 HKd1 HKe1 hB1
    cases rd
    · clear K2 Kd2 Ke2 HM
      go_wp2_with fail
      refine (cAlive_any _).mono ?_
      rintro e w3 ⟨rfl, hb3⟩
      go_wp2
      go_ret
      exact ⟨rfl, hB2.trans (hb3.mono hB2.size)⟩
    · have HK2 := hide K2
      have HKd2 := hide Kd2
      have HKe2 := hide Ke2
      clear K2 Kd2
      obtain ⟨_, c0, c1, c2, c3, c4⟩ := Ke2
      go_wp2_with fail
      refine (hRe _).mono ?_
      rintro e w3 ⟨rfl, hb3⟩
      have K3 := (unhide HK2).below hb3
      have Kd3 := (unhide HKd2).below hb3
      have Ke3 := (unhide HKe2).below hb3
      have hB3 := hB2.trans (hb3.mono hB2.size)
      clear hb3 c0 c1 c2 c3 c4 HK2 HKd2 HKe2 hB2
      cases re
      · clear K3 Kd3 Ke3 HM
        go_wp2_with fail
        refine (cAlive_any _).mono ?_
        rintro e w4 ⟨rfl, hb4⟩
        go_wp2
        go_ret
        exact ⟨rfl, hB3.trans (hb4.mono hB3.size)⟩
      · by_cases hx : F t s k < 0
        · clear K3 Kd3 Ke3 HM
          have hdx : decide (F t s k < 0) = true := decide_eq_true hx
          go_wp2_with fail
          refine (cAlive_any _).mono ?_
          rintro e w4 ⟨rfl, hb4⟩
          go_wp2
          go_ret
          exact ⟨rfl, hB3.trans (hb4.mono hB3.size)⟩
        · have hdx : decide (F t s k < 0) = false := decide_eq_false hx
          obtain ⟨e1, e2, e3, e4, e5, e6, e7⟩ := unhide HM (by trivial) (by trivial) (by omega)
          clear HM
          obtain ⟨_, c0, c1, c2, c3, c4⟩ := K3
          obtain ⟨_, d0, d1, d2, d3, d4⟩ := Kd3
          obtain ⟨_, f0, f1, f2, f3, f4⟩ := Ke3
          have k0 := fun d os => cell_regrown c0 d os
          have k1 := fun d os => cell_regrown c1 d os
          have k2 := fun d os => cell_regrown c2 d os
          have k3 := fun d os => cell_regrown c3 d os
          have k4 := fun d os => cell_regrown c4 d os
          have l0 := fun d os => cell_regrown d0 d os
          have l1 := fun d os => cell_regrown d1 d os
          have l2 := fun d os => cell_regrown d2 d os
          have l3 := fun d os => cell_regrown d3 d os
          have l4 := fun d os => cell_regrown d4 d os
          have m0 := fun d os => cell_regrown f0 d os
          have m1 := fun d os => cell_regrown f1 d os
          have m2 := fun d os => cell_regrown f2 d os
          have m3 := fun d os => cell_regrown f3 d os
          have m4 := fun d os => cell_regrown f4 d os
          by_cases ha : 3 < a
          · have hda : decide (a > 3) = true := decide_eq_true ha
            rw [if_pos ha] at e2
            go_wp2_with fail
            refine wp_region_quiet_below (by kernel_rfl) (by kernel_rfl) ?_
            repeat (go_big_quiet_step (first
              | (go_at_call 9; exact Calls.regrown_of (cAlive_any _))
              | (go_at_call 14; exact Calls.regrown_of (hCs _ _ _ _))
              | (go_at_call 12; exact Calls.regrown_of (hLs _ _ _ _))))
            refine wpQuiet_nil ?_
            intro _ hw'
            obtain ⟨⟨dq, osq⟩, hw''⟩ := hw'
            subst hw''
            go_wp2
            go_ret
            exact ⟨rfl, hB3.trans ((below_regrown _ dq osq).mono hB3.size)⟩
          · have hda : decide (a > 3) = false := decide_eq_false ha
            rw [if_neg ha, Int.add_zero] at e2
            go_wp2_with fail
            refine wp_region_quiet_below (by kernel_rfl) (by kernel_rfl) ?_
            repeat (go_big_quiet_step (first
              | (go_at_call 9; exact Calls.regrown_of (cAlive_any _))
              | (go_at_call 14; exact Calls.regrown_of (hCs _ _ _ _))
              | (go_at_call 12; exact Calls.regrown_of (hLs _ _ _ _))))
            refine wpQuiet_nil ?_
            intro _ hw'
            obtain ⟨⟨dq, osq⟩, hw''⟩ := hw'
            subst hw''
            go_wp2
            go_ret
            exact ⟨rfl, hB3.trans ((below_regrown _ dq osq).mono hB3.size)⟩
  · go_wp2_with fail
    refine (hCs _ _ _ _).mono ?_
    rintro e w1 ⟨rfl, hb1⟩
    have K1 : CfgAt w1 (w.heap.size) t s k g q := CfgAt.below ⟨by simp; omega, by go_simp, by go_simp, by go_simp, by go_simp, by go_simp⟩ hb1
    have Kd1 : CfgAt w1 (w.heap.size + 1 + 1) t s (wrap64 (k + 1)) g q := CfgAt.below ⟨by simp; try omega, by go_simp, by go_simp, by go_simp, by go_simp, by go_simp⟩ hb1
    have Ke1 : CfgAt w1 (w.heap.size + 1) (wrap64 (t + 1)) s k g q := CfgAt.below ⟨by simp; try omega, by go_simp, by go_simp, by go_simp, by go_simp, by go_simp⟩ hb1
    have hB1 : Below w.heap.size w w1 := by
      refine Below.trans ?_ (hb1.mono (by simp; omega))
      exact ((((Below.refl _ _).alloc (Nat.le_refl _) _).alloc (by simp) _).alloc (by simp; omega) _).drew
    have HK1 := hide K1
    have HKe1 := hide Ke1
    clear hb1 K1 Ke1 hz1 hz2
    generalize wrap64 (k + 1) = kk at *
    generalize wrap64 (t + 1) = tt at *
    have HKd1 := hide Kd1
    obtain ⟨_, c0, c1, c2, c3, c4⟩ := Kd1
    go_wp2_with fail
    refine (hRd _).mono ?_
    rintro e w2 ⟨rfl, hb2⟩
    have K2 := (unhide HK1).below hb2
    have Kd2 := (unhide HKd1).below hb2
    have Ke2 := (unhide HKe1).below hb2
    have hB2 := hB1.trans (hb2.mono hB1.size)
    clear hb2 c0 c1 c2 c3 c4 HK1 HKd1 HKe1 hB1
    cases rd
    · clear K2 Kd2 Ke2 HM
      go_wp2_with fail
      refine (cAlive_any _).mono ?_
      rintro e w3 ⟨rfl, hb3⟩
      go_wp2
      go_ret
      exact ⟨rfl, hB2.trans (hb3.mono hB2.size)⟩
    · have HK2 := hide K2
      have HKd2 := hide Kd2
      have HKe2 := hide Ke2
      clear K2 Kd2
      obtain ⟨_, c0, c1, c2, c3, c4⟩ := Ke2
      go_wp2_with fail
      refine (hRe _).mono ?_
      rintro e w3 ⟨rfl, hb3⟩
      have K3 := (unhide HK2).below hb3
      have Kd3 := (unhide HKd2).below hb3
      have Ke3 := (unhide HKe2).below hb3
      have hB3 := hB2.trans (hb3.mono hB2.size)
      clear hb3 c0 c1 c2 c3 c4 HK2 HKd2 HKe2 hB2
      cases re
      · clear K3 Kd3 Ke3 HM
        go_wp2_with fail
        refine (cAlive_any _).mono ?_
        rintro e w4 ⟨rfl, hb4⟩
        go_wp2
        go_ret
        exact ⟨rfl, hB3.trans (hb4.mono hB3.size)⟩
      · by_cases hx : F t s k < 0
        · clear K3 Kd3 Ke3 HM
          have hdx : decide (F t s k < 0) = true := decide_eq_true hx
          go_wp2_with fail
          refine (cAlive_any _).mono ?_
          rintro e w4 ⟨rfl, hb4⟩
          go_wp2
          go_ret
          exact ⟨rfl, hB3.trans (hb4.mono hB3.size)⟩
        · have hdx : decide (F t s k < 0) = false := decide_eq_false hx
          obtain ⟨e1, e2, e3, e4, e5, e6, e7⟩ := unhide HM (by trivial) (by trivial) (by omega)
          clear HM
          obtain ⟨_, c0, c1, c2, c3, c4⟩ := K3
          obtain ⟨_, d0, d1, d2, d3, d4⟩ := Kd3
          obtain ⟨_, f0, f1, f2, f3, f4⟩ := Ke3
          have k0 := fun d os => cell_regrown c0 d os
          have k1 := fun d os => cell_regrown c1 d os
          have k2 := fun d os => cell_regrown c2 d os
          have k3 := fun d os => cell_regrown c3 d os
          have k4 := fun d os => cell_regrown c4 d os
          have l0 := fun d os => cell_regrown d0 d os
          have l1 := fun d os => cell_regrown d1 d os
          have l2 := fun d os => cell_regrown d2 d os
          have l3 := fun d os => cell_regrown d3 d os
          have l4 := fun d os => cell_regrown d4 d os
          have m0 := fun d os => cell_regrown f0 d os
          have m1 := fun d os => cell_regrown f1 d os
          have m2 := fun d os => cell_regrown f2 d os
          have m3 := fun d os => cell_regrown f3 d os
          have m4 := fun d os => cell_regrown f4 d os
          by_cases ha : 3 < a
          · have hda : decide (a > 3) = true := decide_eq_true ha
            rw [if_pos ha] at e2
            go_wp2_with fail
            refine wp_region_quiet_below (by kernel_rfl) (by kernel_rfl) ?_
            repeat (go_big_quiet_step (first
              | (go_at_call 9; exact Calls.regrown_of (cAlive_any _))
              | (go_at_call 14; exact Calls.regrown_of (hCs _ _ _ _))
              | (go_at_call 12; exact Calls.regrown_of (hLs _ _ _ _))))
            refine wpQuiet_nil ?_
            intro _ hw'
            obtain ⟨⟨dq, osq⟩, hw''⟩ := hw'
            subst hw''
            go_wp2
            go_ret
            exact ⟨rfl, hB3.trans ((below_regrown _ dq osq).mono hB3.size)⟩
          · have hda : decide (a > 3) = false := decide_eq_false ha
            rw [if_neg ha, Int.add_zero] at e2
            go_wp2_with fail
            refine wp_region_quiet_below (by kernel_rfl) (by kernel_rfl) ?_
            repeat (go_big_quiet_step (first
              | (go_at_call 9; exact Calls.regrown_of (cAlive_any _))
              | (go_at_call 14; exact Calls.regrown_of (hCs _ _ _ _))
              | (go_at_call 12; exact Calls.regrown_of (hLs _ _ _ _))))
            refine wpQuiet_nil ?_
            intro _ hw'
            obtain ⟨⟨dq, osq⟩, hw''⟩ := hw'
            subst hw''
            go_wp2
            go_ret
            exact ⟨rfl, hB3.trans ((below_regrown _ dq osq).mono hB3.size)⟩

theorem more (t s k g : Int) (q : Nat) (a b : Int) (ht : -9223372036854775808 ≤ t ∧ t ≤ 9223372036854775807) (hk : -9223372036854775808 ≤ k ∧ k ≤ 9223372036854775807)
    (h1 : Um.rt t s (wrap64 (k + 1)) g q = true) (h2 : Um.rt (wrap64 (t + 1)) s k g q = true) (h3 : 0 ≤ Um.cellN (Um.rt t s k g q) t s k a b) :
    Um.cellN (Um.rt t s (wrap64 (k + 1)) g q) t s (wrap64 (k + 1)) a b = Um.cellN (Um.rt t s k g q) t s k a b ∧
    Um.cellN (Um.rt (wrap64 (t + 1)) s k g q) (wrap64 (t + 1)) s k a b = Um.cellN (Um.rt t s k g q) t s k a b + (if 3 < a then 1 else 0) ∧
    Um.clen (Um.rt t s (wrap64 (k + 1)) g q) t s (wrap64 (k + 1)) = Um.clen (Um.rt t s k g q) t s k + 1 ∧
    Um.clen (Um.rt (wrap64 (t + 1)) s k g q) (wrap64 (t + 1)) s k = Um.clen (Um.rt t s k g q) t s k + 1 ∧
    Um.cellN (Um.rt t s k g q) t s k a b ≤ 66 ∧ 0 ≤ Um.clen (Um.rt t s k g q) t s k ∧ Um.clen (Um.rt t s k g q) t s k ≤ 66 := by
  have b1 := Um.rt_rb _ _ _ _ _ h1
  have b2 := Um.rt_rb _ _ _ _ _ h2
  have e1 : wrap64 (k + 1) = k + 1 := by unfold wrap64 at b1 ⊢; omega
  have e2 : wrap64 (t + 1) = t + 1 := by unfold wrap64 at b2 ⊢; omega
  rw [e1] at h1 b1
  rw [e2] at h2 b2
  rw [e1, e2, h1, h2]
  have hb := Um.rt_rb t s k g q
  have hlb := Um.clen_bd hb
  have hcl := (Um.cell_at hb h3).1
  generalize Um.rt t s k g q = r at *
  cases r
  · simp [Um.cellN] at h3
  · refine ⟨Um.cell_key (fun _ => b1) h3, Um.cell_thread (fun _ => b2) h3, ?_, ?_, by omega, hlb.1, hlb.2⟩
    · simp only [Um.clen, if_true]; omega
    · simp only [Um.clen, if_true]; omega

theorem walkN (w : World) (t s k g : Int) (q : Nat) (a b : Int) (hb0 : -9223372036854775808 ≤ b) (hb1 : b ≤ 9223372036854775807)
    (ht : -9223372036854775808 ≤ t ∧ t ≤ 9223372036854775807) (hk : -9223372036854775808 ≤ k ∧ k ≤ 9223372036854775807) :
    Calls Try.prog 8 #[(.agg #[.int .i64 t, .int .i64 s, .int .i64 k, .int .i64 g, .int .u64 (q : Int)]), .int .i64 a, .int .i64 b] w fun e w' => e = .returned (.bool true) ∧ Below w.heap.size w w' :=
  walkF w t s k g q a b (fun t s k => Um.cellN (Um.rt t s k g q) t s k a b) (fun t s k => Um.clen (Um.rt t s k g q) t s k) _ _
    (fun t s k w => cCell_any t s k g q a b w hb0 hb1) (fun t s k w => cLen_any t s k g q w) (cRight_any t s (wrap64 (k + 1)) g q) (cRight_any (wrap64 (t + 1)) s k g q) (more t s k g q a b ht hk)

theorem walk {H : Type} {enc : TypeId × Value → H} {base : Nat} {v : Value} {d : DataW H} {p : List MemPlace} (w : World)
    (hv : Value.okWide Try.prog w .any base 24 v) (h : DataW.Trod enc Try.prog w 0 (fun _ => true) true 24 v d p)
    (a1 : Int) (w1 : (Lit.int .i64 a1).wf = true) (a2 : Int) (w2 : (Lit.int .i64 a2).wf = true) :
    Calls Try.prog 8 #[v, .int .i64 a1, .int .i64 a2] w fun e w' => e = .returned (.bool true) ∧ Below w.heap.size w w' := by
  obtain ⟨t, s, k, g, q, rfl, ht, _, hk⟩ := open_cfg hv h
  exact walkN w t s k g q a1 a2 (int_of w2).1 (int_of w2).2 ht hk

set_option maxRecDepth 100000 in
theorem lifted (os : Os) (started : os.Started) (H : Type) (enc : TypeId × Value → H) :
    ReturnsInHanded {} Try.checked os 8 .any (Rows.chartMoreSpec.pre6 enc Try.prog Try.f8 Rows.chartMoreRow.domain false) (Rows.chartMoreSpec.post enc Try.prog Try.f8 false true false false) := by
  refine returnsInHanded_of_change (C := Try.checked) own started (by kernel_rfl) Try.func8
    (ChangeSpec.witness6 (enc := enc) (C := Try.checked) false ⟨#[], #[.agg #[.int .i64 0, .int .i64 0, .int .i64 0, .int .i64 0, .int .u64 0], .int .i64 0, .int .i64 0], []⟩ 8 (by kernel_rfl) (by kernel_rfl) (by kernel_rfl) (by kernel_rfl)) ?_
  intro W base args ds gs before hval0 hW hcnd _
  have hval : ∀ (j : Nat) t v, Try.f8.params[j]? = some t → args[j]? = some v → Value.okWide Try.prog W .any base t v := hval0
  have hW' := hW
  obtain ⟨p, q, hA0, hV, rfl, hfz, hnd⟩ := hW
  have hA : DataW.TrodAll enc Try.prog W 0 (fun _ => true) true Try.f8.params.toList args.toList ds p := hA0
  rw [Try.params8] at hA hval
  obtain ⟨v0, vs0, d0, ds0, p0, q0, hargs, rfl, rfl, h0, r0⟩ := trodAll_cons hA
  obtain ⟨v1, vs1, d1, ds1, p1, q1, rfl, rfl, rfl, h1, r1⟩ := trodAll_cons r0
  obtain ⟨v2, vs2, d2, ds2, p2, q2, rfl, rfl, rfl, h2, r2⟩ := trodAll_cons r1
  obtain ⟨rfl, rfl, rfl⟩ := trodAll_nil r2
  obtain rfl : args = #[v0, v1, v2] := by cases args; simp_all
  obtain ⟨rfl, rfl⟩ := trodVars_none hV
  have k0 := h0
  have lt0 : ∀ x ∈ p0, x.block < W.heap.size := by obtain ⟨m, hm⟩ := k0; exact DataW.trod_lt m _ _ _ hm
  have k1 := h1
  have lt1 : ∀ x ∈ p1, x.block < W.heap.size := by obtain ⟨m, hm⟩ := k1; exact DataW.trod_lt m _ _ _ hm
  have k2 := h2
  have lt2 : ∀ x ∈ p2, x.block < W.heap.size := by obtain ⟨m, hm⟩ := k2; exact DataW.trod_lt m _ _ _ hm
  obtain ⟨a1, rfl, hd1, hp1, w1⟩ := open_int Try.underlying3 (hval 1 3 v1 rfl rfl) h1
  obtain ⟨a2, rfl, hd2, hp2, w2⟩ := open_int Try.underlying3 (hval 2 3 v2 rfl rfl) h2
  refine (walk W (hval 0 24 v0 rfl rfl) h0 a1 w1 a2 w2).mono fun e W' ⟨he, bel⟩ => ?_
  subst he
  exact ⟨_, rfl, _, _, _, [], _, [], hW', trodAll_mk1 (shut_bool Try.underlying4 _), (trodAll_cons_mk (Below.trod laidOut (by kernel_rfl) (of_decide_eq_true (by kernel_rfl)) k0 bel lt0) (trodAll_cons_mk (Below.trod laidOut (by kernel_rfl) (of_decide_eq_true (by kernel_rfl)) k1 bel lt1) (trodAll_cons_mk (Below.trod laidOut (by kernel_rfl) (of_decide_eq_true (by kernel_rfl)) k2 bel lt2) trodAll_mk0))), rfl, bel.frame _, fun h => by cases h⟩

theorem ChartMore_proved : Rows.ChartMoreSaid :=
  OpenClaim.holds_of_wide 8 Try.f8 rfl rfl rfl rfl rfl rfl rfl ⟨rfl, rfl, rfl, rfl, rfl⟩ rfl rfl rfl rfl rfl (by kernel_rfl) Try.func8 (by kernel_rfl)
    (of_decide_eq_true (by kernel_rfl)) (by unfold Func.isWrapper; first | (rw [if_pos (by decide +kernel)]; kernel_rfl) | (rw [if_neg (by decide +kernel)]; exact ⟨rfl, rfl⟩))
    (fun os started H enc _ => lifted os started H enc)

end Go.Proofs.Ytbbleemonhecjaa.chartMore
