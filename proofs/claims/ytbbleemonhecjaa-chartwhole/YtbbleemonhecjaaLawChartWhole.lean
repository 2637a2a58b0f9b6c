/-
  For every world's size, the law ChartWhole answers true: all its cells, in order, are the spots that the document's own answer lists. Conditions: none.
-/
import Derived.Test.YtbbleemonhecjaaRows
import Derived.Test.YtbbleemonhecjaaChartAlive
import Derived.Test.YtbbleemonhecjaaChartD
import Derived.Test.YtbbleemonhecjaaOpenCfg
import Derived.WalkKit
import Derived.ProofKit
import Derived.OpenShut
import Derived.ShutString
namespace Go.Proofs.Ytbbleemonhecjaa.chartWhole
open Go.ChangeShapes Go.WideShapes Go.ChangeAt Go.RowKit Go.Sort
set_option linter.unusedVariables false

theorem own : ownKnob Try.prog.godebug = none := by kernel_rfl
theorem laidOut : laidOutB Try.prog = true := by kernel_rfl

set_option maxHeartbeats 2000000 in
theorem walkN (w : World) (t s k g : Int) (q : Nat) :
    Calls Try.prog 6 #[(.agg #[.int .i64 t, .int .i64 s, .int .i64 k, .int .i64 g, .int .u64 (q : Int)])] w fun e w' => e = .returned (.bool true) ∧ Below w.heap.size w w' := by
  have hS := rSpots_any t s k g q
  have hL := cLen_any t s k g q
  have hA := fun x w hx => cAt_any t s k g q x w hx
  have hlb := Um.clen_bd (Um.rt_rb t s k g q)
  generalize Um.rt t s k g q = r at *
  go_enter Try.func6, Try.ntmps6
  go_wp2_with fail
  refine (hS _).mono ?_
  rintro e w1 ⟨v, n, rfl, hI, hb1⟩
  have K1 : CfgAt w1 w.heap.size t s k g q := CfgAt.below ⟨by simp, by go_simp, by go_simp, by go_simp, by go_simp, by go_simp⟩ hb1
  have hB1 : Below w.heap.size w w1 := ((Below.refl w.heap.size w).alloc (Nat.le_refl _) _).trans (hb1.mono (by simp))
  have hn := hI.1
  rw [← hn] at hL
  have hn66 : n ≤ 66 := by omega
  clear hb1 hS hn hlb
  rcases id hI.2 with ⟨rfl, rfl⟩ | ⟨b, cap, rfl, h1, h2, _, _⟩
  · clear hI hA
    go_wp2_with fail
    go_loopw [10] (fun i wr => i = .int .i64 0 ∧ wr = w1) (fun _ _ => 0)
    case atStart => exact ⟨rfl, rfl⟩
    case round =>
      obtain ⟨rfl, rfl⟩ := hrel
      go_wp2_with fail
      refine (cAlive_any _).mono ?_
      rintro e w2 ⟨rfl, hb2⟩
      obtain ⟨_, c0, c1, c2, c3, c4⟩ := K1.below hb2
      have hB2 := hB1.trans (hb2.mono hB1.size)
      clear hb2 hB1 K1
      go_wp2_with fail
      refine (hL _).mono ?_
      rintro e w3 ⟨rfl, hb3⟩
      have hB3 := hB2.trans (hb3.mono hB2.size)
      clear hb3 hB2
      go_wp2
      go_ret
      exact ⟨rfl, hB3⟩
  · have HI := hide hI
    have HK := hide K1
    clear hI K1
    go_wp2_with fail
    go_loopw [10] (fun i wr => ∃ j : Nat, j ≤ n ∧ i = .int .i64 j ∧ Below w.heap.size w wr ∧ Hid (CfgAt wr w.heap.size t s k g q) ∧ Hid (IsSpots r t s k wr (.slice (some ⟨b, 0, none⟩) n cap) n)) (fun i _ => n - (intOf i).toNat)
    case atStart => exact ⟨0, by omega, rfl, hB1, HK, HI⟩
    case round =>
      clear hB1 HK HI
      rename_i wr
      obtain ⟨j, hj, rfl, hB, HK, HI⟩ := hrel
      by_cases hlt : j < n
      · have hz := hB.size
        rcases (unhide HI).2 with ⟨h, _⟩ | ⟨b', cap', h, _, _, hbs, hcells⟩
        · cases h
        · obtain ⟨rfl, rfl⟩ : b' = b ∧ cap' = cap := by cases h; exact ⟨rfl, rfl⟩
          clear h
          obtain ⟨d0, d1⟩ := hcells j hlt
          clear hcells
          have hAj := fun w => hA (j : Int) w (by omega)
          have hlti : (j : Int) < (n : Int) := by omega
          generalize Um.atK r t s k (j : Int) = u at *
          generalize Um.atO r t s k (j : Int) = y at *
          have hne : ∀ w, (binOp .neq 34 (.agg #[.int .i64 u, .int .i64 y]) (.agg #[.int .i64 u, .int .i64 y])).run Try.prog w = .ok (.bool (!true)) w := neqSpot _ (Or.inr rfl) (by simp)
          go_wp2_with fail
          generalize hW : wr.alloc _ = W
          have hBr : Below wr.heap.size wr W := by subst hW; exact (Below.refl _ _).alloc (Nat.le_refl _) _
          have hBW : Below w.heap.size w W := hB.trans (hBr.mono hz)
          have KW := (unhide HK).below hBr
          have IW := (unhide HI).below hBr (Nat.le_refl _)
          have c5 : W.cell? ⟨wr.heap.size, 0, none⟩ = some (.int .i64 u) := by subst hW; go_simp
          have c6 : W.cell? ⟨wr.heap.size, 1, none⟩ = some (.int .i64 y) := by subst hW; go_simp
          have HKW := hide KW
          have HIW := hide IW
          clear IW
          obtain ⟨_, c0, c1, c2, c3, c4⟩ := KW
          have k0 := fun d os => cell_regrown c0 d os
          have k1 := fun d os => cell_regrown c1 d os
          have k2 := fun d os => cell_regrown c2 d os
          have k3 := fun d os => cell_regrown c3 d os
          have k4 := fun d os => cell_regrown c4 d os
          have k5 := fun d os => cell_regrown c5 d os
          have k6 := fun d os => cell_regrown c6 d os
          clear hW hBr HK HI d0 d1 hA hL
          refine wp_region_quiet_below (by kernel_rfl) (by kernel_rfl) ?_
          repeat (go_big_quiet_step (first
            | (go_at_call 16; exact Calls.regrown_of (hAj _))))
          refine wpQuiet_nil ?_
          intro _ hw'
          obtain ⟨⟨dq, osq⟩, hw''⟩ := hw'
          subst hw''
          have hQ := below_regrown W dq osq
          go_wp2
          refine ⟨⟨j + 1, by omega, by go_num, hBW.trans (hQ.mono hBW.size), (unhide HKW).below hQ, (unhide HIW).below hQ (Nat.le_refl _)⟩, by simp [intOf]; omega⟩
      · obtain rfl : j = n := by omega
        clear HI hA
        have K1 := unhide HK
        clear HK
        go_wp2_with fail
        refine (cAlive_any _).mono ?_
        rintro e w2 ⟨rfl, hb2⟩
        obtain ⟨_, c0, c1, c2, c3, c4⟩ := K1.below hb2
        have hB2 := hB.trans (hb2.mono hB.size)
        clear hb2 hB K1
        go_wp2_with fail
        refine (hL _).mono ?_
        rintro e w3 ⟨rfl, hb3⟩
        have hB3 := hB2.trans (hb3.mono hB2.size)
        clear hb3 hB2
        go_wp2
        go_ret
        exact ⟨rfl, hB3⟩

theorem walk {H : Type} {enc : TypeId × Value → H} {base : Nat} {v : Value} {d : DataW H} {p : List MemPlace} (w : World)
    (hv : Value.okWide Try.prog w .any base 24 v) (h : DataW.Trod enc Try.prog w 0 (fun _ => true) true 24 v d p) :
    Calls Try.prog 6 #[v] w fun e w' => e = .returned (.bool true) ∧ Below w.heap.size w w' := by
  obtain ⟨t, s, k, g, q, rfl, _⟩ := open_cfg hv h
  exact walkN w t s k g q

set_option maxRecDepth 100000 in
theorem lifted (os : Os) (started : os.Started) (H : Type) (enc : TypeId × Value → H) :
    ReturnsInHanded {} Try.checked os 6 .any (Rows.chartWholeSpec.pre6 enc Try.prog Try.f6 Rows.chartWholeRow.domain false) (Rows.chartWholeSpec.post enc Try.prog Try.f6 false true false false) := by
  refine returnsInHanded_of_change (C := Try.checked) own started (by kernel_rfl) Try.func6
    (ChangeSpec.witness6 (enc := enc) (C := Try.checked) false ⟨#[], #[.agg #[.int .i64 0, .int .i64 0, .int .i64 0, .int .i64 0, .int .u64 0]], []⟩ 8 (by kernel_rfl) (by kernel_rfl) (by kernel_rfl) (by kernel_rfl)) ?_
  intro W base args ds gs before hval0 hW hcnd _
  have hval : ∀ (j : Nat) t v, Try.f6.params[j]? = some t → args[j]? = some v → Value.okWide Try.prog W .any base t v := hval0
  have hW' := hW
  obtain ⟨p, q, hA0, hV, rfl, hfz, hnd⟩ := hW
  have hA : DataW.TrodAll enc Try.prog W 0 (fun _ => true) true Try.f6.params.toList args.toList ds p := hA0
  rw [Try.params6] at hA hval
  obtain ⟨v0, vs0, d0, ds0, p0, q0, hargs, rfl, rfl, h0, r0⟩ := trodAll_cons hA
  obtain ⟨rfl, rfl, rfl⟩ := trodAll_nil r0
  obtain rfl : args = #[v0] := by cases args; simp_all
  obtain ⟨rfl, rfl⟩ := trodVars_none hV
  have k0 := h0
  have lt0 : ∀ x ∈ p0, x.block < W.heap.size := by obtain ⟨m, hm⟩ := k0; exact DataW.trod_lt m _ _ _ hm
  refine (walk W (hval 0 24 v0 rfl rfl) h0).mono fun e W' ⟨he, bel⟩ => ?_
  subst he
  exact ⟨_, rfl, _, _, _, [], _, [], hW', trodAll_mk1 (shut_bool Try.underlying4 _), (trodAll_cons_mk (Below.trod laidOut (by kernel_rfl) (of_decide_eq_true (by kernel_rfl)) k0 bel lt0) trodAll_mk0), rfl, bel.frame _, fun h => by cases h⟩

theorem ChartWhole_proved : Rows.ChartWholeSaid :=
  OpenClaim.holds_of_wide 6 Try.f6 rfl rfl rfl rfl rfl rfl rfl ⟨rfl, rfl, rfl, rfl, rfl⟩ rfl rfl rfl rfl rfl (by kernel_rfl) Try.func6 (by kernel_rfl)
    (of_decide_eq_true (by kernel_rfl)) (by unfold Func.isWrapper; first | (rw [if_pos (by decide +kernel)]; kernel_rfl) | (rw [if_neg (by decide +kernel)]; exact ⟨rfl, rfl⟩))
    (fun os started H enc _ => lifted os started H enc)

end Go.Proofs.Ytbbleemonhecjaa.chartWhole
