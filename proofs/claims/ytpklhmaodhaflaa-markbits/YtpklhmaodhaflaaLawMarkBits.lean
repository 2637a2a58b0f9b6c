/-
  For every word, kind and slot, the law MarkBits answers true: whether the slot is marked, and the word with its mark, are what the document's own answers say. Conditions: none.
-/
import Derived.Test.YtpklhmaodhaflaaRows
import Derived.Test.YtpklhmaodhaflaaMarkAlive
import Derived.WalkKit
import Derived.ProofKit
import Derived.OpenShut
import Derived.ShutString
namespace Go.Proofs.Ytpklhmaodhaflaa.markBits
open Go.ChangeShapes Go.WideShapes Go.ChangeAt Go.RowKit
set_option linter.unusedVariables false

theorem own : ownKnob Try.prog.godebug = none := by kernel_rfl
theorem laidOut : laidOutB Try.prog = true := by kernel_rfl

set_option maxHeartbeats 2000000 in
theorem walkN (w : World) (x : Nat) (hx : Um.Word x) (a b : Int) :
    Calls Try.prog 3 #[.int .u64 x, .int .i64 a, .int .i64 b] w fun e w' => e = .returned (.bool true) ∧ Below w.heap.size w w' := by
  have hy := Um.with_word hx a b
  have hh := Um.hasN_with x a b
  have hcase : (0 ≤ a ∧ a ≤ 1 ∧ 0 ≤ b ∧ b < 12 ∧ Um.okS a b = true) ∨ (a < 0 ∧ Um.okS a b = false) ∨ (0 ≤ a ∧ 1 < a ∧ Um.okS a b = false) ∨ (0 ≤ a ∧ a ≤ 1 ∧ b < 0 ∧ Um.okS a b = false) ∨ (0 ≤ a ∧ a ≤ 1 ∧ 0 ≤ b ∧ 12 ≤ b ∧ Um.okS a b = false) := by
    cases ho : Um.okS a b
    · have hn : ¬ ((a = 0 ∨ a = 1) ∧ 0 ≤ b ∧ b < 12) := fun h => by rw [Um.okS_iff.2 h] at ho; cases ho
      simp only [and_true, and_false, false_or, Bool.false_eq_true]
      omega
    · have := Um.okS_iff.1 ho
      simp only [and_true]
      omega
  have ht := Um.with_twice x a b
  have HH := hide hh
  have HT := hide ht
  clear hh ht
  rcases hcase with ⟨c1, c2, c3, c4, ho⟩ | ⟨c1, ho⟩ | ⟨c1, c2, ho⟩ | ⟨c1, c2, c3, ho⟩ | ⟨c1, c2, c3, c4, ho⟩
  all_goals
    have hhas := (unhide HH).trans ho
    clear HH ho
    go_enter Try.func3, Try.ntmps3
    go_wp2_with fail
    refine (mWith_any _ _ _ _ hx).mono ?_
    rintro e w1 ⟨rfl, rfl⟩
    generalize hY : Um.withN x a b = y at *
    have HY := hide hY
    clear hY
    go_wp2_with fail
    refine (mAlive_any _).mono ?_
    rintro e w2 ⟨rfl, hb⟩
    go_wp2_with fail
    refine (mHas_any _ _ _ _ hx).mono ?_
    rintro e w1 ⟨rfl, rfl⟩
    go_wp2_with fail
    refine (mrHas_any _ _ _ _ hx).mono ?_
    rintro e w1 ⟨rfl, rfl⟩
    go_wp2_with fail
    refine (mrWith_any _ _ _ _ hx).mono ?_
    rintro e w1 ⟨rfl, rfl⟩
    rw [unhide HY]
    go_wp2_with fail
    refine (mHas_any _ _ _ _ hy).mono ?_
    rintro e w1 ⟨rfl, rfl⟩
    go_wp2_with fail
    refine (mWith_any _ _ _ _ hy).mono ?_
    rintro e w1 ⟨rfl, rfl⟩
    rw [unhide HT]
    go_wp2
    go_ret
    first | exact ⟨rfl, hb⟩ | exact ⟨ret_bool (by simp; omega), hb⟩

theorem walk (w : World) (a0 : Int) (w0 : (Lit.int .u64 a0).wf = true) (a1 : Int) (w1 : (Lit.int .i64 a1).wf = true) (a2 : Int) (w2 : (Lit.int .i64 a2).wf = true) :
    Calls Try.prog 3 #[.int .u64 a0, .int .i64 a1, .int .i64 a2] w fun e w' => e = .returned (.bool true) ∧ Below w.heap.size w w' := by
  obtain ⟨x, rfl, hx⟩ := word_of w0
  exact walkN w x hx a1 a2

set_option maxRecDepth 100000 in
theorem lifted (os : Os) (started : os.Started) (H : Type) (enc : TypeId × Value → H) :
    ReturnsInHanded {} Try.checked os 3 .any (Rows.markBitsSpec.pre6 enc Try.prog Try.f3 Rows.markBitsRow.domain false) (Rows.markBitsSpec.post enc Try.prog Try.f3 false true false false) := by
  refine returnsInHanded_of_change (C := Try.checked) own started (by kernel_rfl) Try.func3
    (ChangeSpec.witness6 (enc := enc) (C := Try.checked) false ⟨#[], #[.int .u64 0, .int .i64 0, .int .i64 0], []⟩ 8 (by kernel_rfl) (by kernel_rfl) (by kernel_rfl) (by kernel_rfl)) ?_
  intro W base args ds gs before hval0 hW hcnd _
  have hval : ∀ (j : Nat) t v, Try.f3.params[j]? = some t → args[j]? = some v → Value.okWide Try.prog W .any base t v := hval0
  have hW' := hW
  obtain ⟨p, q, hA0, hV, rfl, hfz, hnd⟩ := hW
  have hA : DataW.TrodAll enc Try.prog W 0 (fun _ => true) true Try.f3.params.toList args.toList ds p := hA0
  rw [Try.params3] at hA hval
  obtain ⟨v0, vs0, d0, ds0, p0, q0, hargs, rfl, rfl, h0, r0⟩ := trodAll_cons hA
  obtain ⟨v1, vs1, d1, ds1, p1, q1, rfl, rfl, rfl, h1, r1⟩ := trodAll_cons r0
  obtain ⟨v2, vs2, d2, ds2, p2, q2, rfl, rfl, rfl, h2, r2⟩ := trodAll_cons r1
  obtain ⟨rfl, rfl, rfl⟩ := trodAll_nil r2
  obtain rfl : args = #[v0, v1, v2] := by cases args; simp_all
  obtain ⟨rfl, rfl⟩ := trodVars_none hV
  have k0 := h0
  have lt0 : ∀ x ∈ p0, x.block < W.heap.size := by obtain ⟨m, hm⟩ := k0; exact DataW.trod_lt m _ _ _ hm
  have k1 := h1
  have lt1 : ∀ x ∈ p1, x.block < W.heap.size := by obtain ⟨m, hm⟩ := k1; exact DataW.trod_lt m _ _ _ hm
  have k2 := h2
  have lt2 : ∀ x ∈ p2, x.block < W.heap.size := by obtain ⟨m, hm⟩ := k2; exact DataW.trod_lt m _ _ _ hm
  obtain ⟨a0, rfl, hd0, hp0, w0⟩ := open_int Try.underlying22 (hval 0 22 v0 rfl rfl) h0
  obtain ⟨a1, rfl, hd1, hp1, w1⟩ := open_int Try.underlying3 (hval 1 3 v1 rfl rfl) h1
  obtain ⟨a2, rfl, hd2, hp2, w2⟩ := open_int Try.underlying3 (hval 2 3 v2 rfl rfl) h2
  refine (walk W a0 w0 a1 w1 a2 w2).mono fun e W' ⟨he, bel⟩ => ?_
  subst he
  exact ⟨_, rfl, _, _, _, [], _, [], hW', trodAll_mk1 (shut_bool Try.underlying4 _), (trodAll_cons_mk (Below.trod laidOut (by kernel_rfl) (of_decide_eq_true (by kernel_rfl)) k0 bel lt0) (trodAll_cons_mk (Below.trod laidOut (by kernel_rfl) (of_decide_eq_true (by kernel_rfl)) k1 bel lt1) (trodAll_cons_mk (Below.trod laidOut (by kernel_rfl) (of_decide_eq_true (by kernel_rfl)) k2 bel lt2) trodAll_mk0))), rfl, bel.frame _, fun h => by cases h⟩

theorem MarkBits_proved : Rows.MarkBitsSaid :=
  OpenClaim.holds_of_wide 3 Try.f3 rfl rfl rfl rfl rfl rfl rfl ⟨rfl, rfl, rfl, rfl, rfl⟩ rfl rfl rfl rfl rfl (by kernel_rfl) Try.func3 (by kernel_rfl)
    (of_decide_eq_true (by kernel_rfl)) (by unfold Func.isWrapper; first | (rw [if_pos (by decide +kernel)]; kernel_rfl) | (rw [if_neg (by decide +kernel)]; exact ⟨rfl, rfl⟩))
    (fun os started H enc _ => lifted os started H enc)

end Go.Proofs.Ytpklhmaodhaflaa.markBits
