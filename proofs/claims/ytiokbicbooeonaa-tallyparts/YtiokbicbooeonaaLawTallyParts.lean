/-
  For every word, the law TallyParts answers true: its parts, and the word of which nothing is pending, are what the document's own answers say. Conditions: none.
-/
import Derived.Test.YtiokbicbooeonaaRows
import Derived.Test.YtiokbicbooeonaaTallyAlive
import Derived.WalkKit
import Derived.ProofKit
import Derived.OpenShut
import Derived.ShutString
import Derived.Lib.QuietBelow
namespace Go.Proofs.Ytiokbicbooeonaa.tallyParts
open Go.ChangeShapes Go.WideShapes Go.ChangeAt Go.RowKit Go.Sort
set_option linter.unusedVariables false

theorem own : ownKnob Try.prog.godebug = none := by kernel_rfl
theorem laidOut : laidOutB Try.prog = true := by kernel_rfl

set_option maxHeartbeats 2000000 in
theorem walkN (w : World) (x : Nat) (hx : Um.Word x) :
    Calls Try.prog 4 #[.int .u64 x] w fun e w' => e = .returned (.bool true) ∧ Below w.heap.size w w' := by
  have hs := Um.setl_word hx
  have heq : ∀ w, (binOp .eql 24 (.agg #[.int .u64 (Um.seqN x : Nat), .int .i64 (Um.penN x)]) (.agg #[.int .u64 (Um.seqN x : Nat), .int .i64 (Um.penN x)])).run Try.prog w = .ok (.bool true) w := by
    apply eqlTally _ (Or.inr rfl)
    simp
  have heq2 : ∀ w, (binOp .eql 27 (.agg #[.int .u64 (Um.seqN (Um.setlN x) : Nat), .int .i64 (Um.penN (Um.setlN x))]) (.agg #[.int .u64 (Um.seqN x : Nat), .int .i64 (-1)])).run Try.prog w = .ok (.bool true) w := by
    apply eqlTally _ (Or.inl rfl)
    rw [Um.seq_setl, Um.pen_setl]
    simp
  have hss : ∀ w, Calls Try.prog 13 #[.int .u64 (Um.setlN x : Nat)] w fun e w' => e = .returned (.int .u64 (Um.setlN x : Nat)) ∧ w' = w := by
    intro w
    have h := tSettled_any _ w hs
    rw [Um.setl_setl] at h
    exact h
  go_enter Try.func4, Try.ntmps4
  go_wp2_with fail
  refine (tUnpack_any _ _ hx).mono ?_
  rintro e w1 ⟨rfl, hb1⟩
  go_wp2_with fail
  refine (tSettled_any _ _ hx).mono ?_
  rintro e w2 ⟨rfl, rfl⟩
  go_wp2_with fail
  refine (tUnpack_any _ _ hs).mono ?_
  rintro e w3 ⟨rfl, hb3⟩
  obtain ⟨hc3, hf3⟩ := bcell hb3
  have hz3 : w1.heap.size < w3.heap.size := by have := hb3.size; simp at this; omega
  have hB1 := hb1.alloc hb1.size (.cells #[.int .u64 (Um.seqN x : Nat), .int .i64 (Um.penN x)] 27)
  have hB3 := hB1.trans (hb3.mono hB1.size)
  go_wp2_with fail
  generalize hW : w3.alloc _ = W
  have hk0 : ∀ d os, (grow (redrawn W d) os).cell? ⟨w1.heap.size, 0, none⟩ = some (.int .u64 (Um.seqN x : Nat)) := fun d os => cell_regrown (by subst hW; go_simp) d os
  have hk1 : ∀ d os, (grow (redrawn W d) os).cell? ⟨w1.heap.size, 1, none⟩ = some (.int .i64 (Um.penN x)) := fun d os => cell_regrown (by subst hW; go_simp) d os
  have hk2 : ∀ d os, (grow (redrawn W d) os).cell? ⟨w3.heap.size, 0, none⟩ = some (.int .u64 (Um.seqN (Um.setlN x) : Nat)) := fun d os => cell_regrown (by subst hW; go_simp) d os
  have hk3 : ∀ d os, (grow (redrawn W d) os).cell? ⟨w3.heap.size, 1, none⟩ = some (.int .i64 (Um.penN (Um.setlN x))) := fun d os => cell_regrown (by subst hW; go_simp) d os
  have hB : Below w.heap.size w W := by rw [← hW]; exact hB3.alloc hB3.size _
  clear hW hc3 hf3 hz3 hb3 hb1 hB1 hB3
  refine wp_region_quiet_below (by kernel_rfl) (by kernel_rfl) ?_
  repeat (go_big_quiet_step (first
    | (go_at_call 11; exact Calls.regrown_of (tAlive_any _))
    | (go_at_call 14; exact Calls.regrown_of (trUnpack_any _ _ hx))
    | (go_at_call 15; exact Calls.regrown_of (same_below (trSettled_any _ _ hx)))
    | (go_at_call 13; exact Calls.regrown_of (same_below (hss _)))
    | (go_at_call 13; exact Calls.regrown_of (same_below (tSettled_any _ _ hx)))))
  refine wpQuiet_nil ?_
  intro _ hw'
  obtain ⟨⟨dq, osq⟩, hw''⟩ := hw'
  subst hw''
  go_wp2
  go_ret
  exact ⟨rfl, hB.trans ((below_regrown W dq osq).mono hB.size)⟩

theorem walk (w : World) (a0 : Int) (w0 : (Lit.int .u64 a0).wf = true) :
    Calls Try.prog 4 #[.int .u64 a0] w fun e w' => e = .returned (.bool true) ∧ Below w.heap.size w w' := by
  obtain ⟨x, rfl, hx⟩ := word_of w0
  exact walkN w x hx

set_option maxRecDepth 100000 in
theorem lifted (os : Os) (started : os.Started) (H : Type) (enc : TypeId × Value → H) :
    ReturnsInHanded {} Try.checked os 4 .any (Rows.tallyPartsSpec.pre6 enc Try.prog Try.f4 Rows.tallyPartsRow.domain false) (Rows.tallyPartsSpec.post enc Try.prog Try.f4 false true false false) := by
  refine returnsInHanded_of_change (C := Try.checked) own started (by kernel_rfl) Try.func4
    (ChangeSpec.witness6 (enc := enc) (C := Try.checked) false ⟨#[], #[.int .u64 0], []⟩ 8 (by kernel_rfl) (by kernel_rfl) (by kernel_rfl) (by kernel_rfl)) ?_
  intro W base args ds gs before hval0 hW hcnd _
  have hval : ∀ (j : Nat) t v, Try.f4.params[j]? = some t → args[j]? = some v → Value.okWide Try.prog W .any base t v := hval0
  have hW' := hW
  obtain ⟨p, q, hA0, hV, rfl, hfz, hnd⟩ := hW
  have hA : DataW.TrodAll enc Try.prog W 0 (fun _ => true) true Try.f4.params.toList args.toList ds p := hA0
  rw [Try.params4] at hA hval
  obtain ⟨v0, vs0, d0, ds0, p0, q0, hargs, rfl, rfl, h0, r0⟩ := trodAll_cons hA
  obtain ⟨rfl, rfl, rfl⟩ := trodAll_nil r0
  obtain rfl : args = #[v0] := by cases args; simp_all
  obtain ⟨rfl, rfl⟩ := trodVars_none hV
  have k0 := h0
  have lt0 : ∀ x ∈ p0, x.block < W.heap.size := by obtain ⟨m, hm⟩ := k0; exact DataW.trod_lt m _ _ _ hm
  obtain ⟨a0, rfl, hd0, hp0, w0⟩ := open_int Try.underlying22 (hval 0 22 v0 rfl rfl) h0
  refine (walk W a0 w0).mono fun e W' ⟨he, bel⟩ => ?_
  subst he
  exact ⟨_, rfl, _, _, _, [], _, [], hW', trodAll_mk1 (shut_bool Try.underlying4 _), (trodAll_cons_mk (Below.trod laidOut (by kernel_rfl) (of_decide_eq_true (by kernel_rfl)) k0 bel lt0) trodAll_mk0), rfl, bel.frame _, fun h => by cases h⟩

theorem TallyParts_proved : Rows.TallyPartsSaid :=
  OpenClaim.holds_of_wide 4 Try.f4 rfl rfl rfl rfl rfl rfl rfl ⟨rfl, rfl, rfl, rfl, rfl⟩ rfl rfl rfl rfl rfl (by kernel_rfl) Try.func4 (by kernel_rfl)
    (of_decide_eq_true (by kernel_rfl)) (by unfold Func.isWrapper; first | (rw [if_pos (by decide +kernel)]; kernel_rfl) | (rw [if_neg (by decide +kernel)]; exact ⟨rfl, rfl⟩))
    (fun os started H enc _ => lifted os started H enc)

end Go.Proofs.Ytiokbicbooeonaa.tallyParts
