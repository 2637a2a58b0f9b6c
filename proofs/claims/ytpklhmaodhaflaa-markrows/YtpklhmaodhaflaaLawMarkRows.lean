/-
  For every word, the law MarkRows answers true: a word is its slots: marked one by one, in whatever order, they make it, but for its other bits. Conditions: none.
-/
import Derived.Test.YtpklhmaodhaflaaRows
import Derived.Test.YtpklhmaodhaflaaMarkAlive
import Derived.Test.YtpklhmaodhaflaaFold
import Derived.WalkKit
import Derived.ProofKit
import Derived.OpenShut
import Derived.ShutString
namespace Go.Proofs.Ytpklhmaodhaflaa.markRows
open Go.ChangeShapes Go.WideShapes Go.ChangeAt Go.RowKit
set_option linter.unusedVariables false

theorem own : ownKnob Try.prog.godebug = none := by kernel_rfl
theorem laidOut : laidOutB Try.prog = true := by kernel_rfl

/-- a mark of the kind k -/
def fM (k : Nat) : Nat → Int → Nat := fun z y => Um.withN z k y
theorem fM_word (k z : Nat) (y : Int) (h : Um.Word z) : Um.Word (fM k z y) := Um.with_word h _ _
theorem fM_swaps (k : Nat) : Um.Swaps (fM k) := fun z p q => Um.with_swaps z ((k : Int), p) ((k : Int), q)

theorem run_all (k z : Nat) (l : List Int) : Um.run (fM k) (fun i => l[i]?.getD 0) z l.length = Um.foldW k z l := by
  rw [Um.run_fold]
  have : (List.range l.length).map (fun i => l[i]?.getD 0) = l := by
    apply List.ext_getElem
    · simp
    · intro i h1 h2
      simp [h2]
  rw [this]
  rfl

theorem rows_word (x k : Nat) (hx : Um.Word x) : Um.Word (Um.rowsTo x k) := by
  have hf : ∀ (a : Int) (l : List Int) (z : Nat), Um.Word z → Um.Word (Um.foldW a z l) := by
    intro a l
    induction l with
    | nil => intro z hz; exact hz
    | cons y l ih => intro z hz; exact ih _ (Um.with_word hz _ _)
  have h0 : Um.Word 0 := Um.word_iff.2 (by decide)
  unfold Um.rowsTo
  split
  · exact h0
  · split
    · exact hf _ _ _ h0
    · exact hf _ _ _ (hf _ _ _ h0)

theorem rem24 (x : Nat) : Int.tmod (x : Int) 16777216 = ((x % 16777216 : Nat) : Int) := by
  rw [Int.tmod_eq_emod_of_nonneg (Int.natCast_nonneg _)]
  rfl

set_option maxHeartbeats 4000000 in
theorem walkN (w : World) (x : Nat) (hx : Um.Word x) :
    Calls Try.prog 7 #[.int .u64 x] w fun e w' => e = .returned (.bool true) ∧ Below w.heap.size w w' := by
  go_enter Try.func7, Try.ntmps7
  go_wp2_with fail
  go_loopw [3, 4, 8] (fun u3 u4 i wr => ∃ k : Nat, k ≤ 2 ∧ i = .int .i64 k ∧ u3 = .int .u64 (Um.rowsTo x k) ∧ u4 = .int .u64 (Um.rowsTo x k) ∧ Below w.heap.size w wr) (fun _ _ i _ => 2 - (intOf i).toNat)
  case atStart => exact ⟨0, by omega, rfl, rfl, rfl, Below.refl _ _⟩
  case round =>
    obtain ⟨k, hk, rfl, rfl, rfl, hB⟩ := hrel
    by_cases hlt : k < 2
    · have hz := rows_word x k hx
      have E1 := hide ((Um.rowsTo_succ x k hlt).trans (run_all k (Um.rowsTo x k) (Um.slotsN x k)).symm)
      have E2 := hide (Um.run_rev (fM_swaps k) (fun i => (Um.slotsN x k)[i]?.getD 0) (Um.rowsTo x k) (Um.slotsN x k).length)
      have hl12 : (Um.slotsN x k).length ≤ 12 := Um.slotsTo_length x k 12
      generalize Um.rowsTo x k = z at *
      go_wp2_with fail
      refine (mSlots_any _ _ _ hx).mono ?_
      rintro e w2 ⟨v2, rfl, hr2, hb2⟩
      have hB2 := hB.trans (hb2.mono hB.size)
      have hI := isRow_of_owns hr2
      clear hr2 hb2
      generalize Um.slotsN x k = l at *
      rcases hI with ⟨rfl, rfl⟩ | ⟨b, off, cap, rfl, hc1, hc2, hb, hcell⟩
      · go_wp2_with fail
        go_loop [3, 4, 16] (fun u3 u4 i => i = .int .i64 0 ∧ u3 = .int .u64 z ∧ u4 = .int .u64 z) (fun _ _ _ => 0)
        case atStart => exact ⟨rfl, rfl, rfl⟩
        case round =>
          obtain ⟨rfl, rfl, rfl⟩ := hrel
          go_wp2
          refine ⟨⟨k + 1, by omega, by go_num, ?_, ?_, hB2⟩, by simp [intOf]; omega⟩
          · rw [unhide E1]; rfl
          · rw [unhide E1]; rfl
      · have HC := hide hcell
        clear hcell
        generalize hL : l.length = len at *
        have HL := hide hL
        clear hL
        unfold maxLen at hc2
        go_wp2_with fail
        go_loop [3, 4, 16] (fun u3 u4 i => ∃ j : Nat, j ≤ len ∧ i = .int .i64 j ∧ u3 = .int .u64 (Um.run (fM k) (fun i => l[i]?.getD 0) z j) ∧ u4 = .int .u64 (Um.run (fM k) (fun i => l[len - 1 - i]?.getD 0) z j)) (fun _ _ i => len - (intOf i).toNat)
        case atStart => exact ⟨0, by omega, rfl, rfl, rfl⟩
        case round =>
          obtain ⟨j, hj, rfl, rfl, rfl⟩ := hrel
          by_cases hjl : j < len
          · have c0 := (unhide HC) j hjl
            have c1 := (unhide HC) (len - 1 - j) (by omega)
            have hjI : (len : Int) - 1 - (j : Int) = ((len - 1 - j : Nat) : Int) := by omega
            have hjl2 : ((len - 1 - j : Nat) : Int) < (len : Int) := by omega
            have hkl : (j : Int) < (len : Int) := by omega
            have w3 : Um.Word (Um.run (fM k) (fun i => l[i]?.getD 0) z j) := Um.run_word hz (fM_word k) j
            have w4 : Um.Word (Um.run (fM k) (fun i => l[len - 1 - i]?.getD 0) z j) := Um.run_word hz (fM_word k) j
            have e3 : Um.run (fM k) (fun i => l[i]?.getD 0) z (j + 1) = Um.withN (Um.run (fM k) (fun i => l[i]?.getD 0) z j) k (l[j]?.getD 0) := rfl
            have e4 : Um.run (fM k) (fun i => l[len - 1 - i]?.getD 0) z (j + 1) = Um.withN (Um.run (fM k) (fun i => l[len - 1 - i]?.getD 0) z j) k (l[len - 1 - j]?.getD 0) := rfl
            have E3 := hide e3
            have E4 := hide e4
            clear e3 e4
            generalize Um.run (fM k) (fun i => l[i]?.getD 0) z j = z3 at *
            generalize Um.run (fM k) (fun i => l[len - 1 - i]?.getD 0) z j = z4 at *
            generalize l[j]?.getD 0 = y3 at *
            generalize l[len - 1 - j]?.getD 0 = y4 at *
            generalize hm : len - 1 - j = m at *
            have HM := hide hm
            clear hm
            go_wp2_with fail
            refine (mWith_any _ _ _ _ w3).mono ?_
            rintro e wa ⟨rfl, rfl⟩
            go_wp2_with fail
            refine (mWith_any _ _ _ _ w4).mono ?_
            rintro e wb ⟨rfl, rfl⟩
            go_wp2
            refine ⟨⟨j + 1, by omega, by go_num, ?_, ?_⟩, by simp [intOf]; omega⟩
            · rw [unhide E3]
            · rw [unhide E4]
          · obtain rfl : j = len := by omega
            go_wp2
            refine ⟨⟨k + 1, by omega, by go_num, ?_, ?_, hB2⟩, by simp [intOf]; omega⟩
            · rw [unhide E1]
            · rw [unhide E1, unhide E2]
    · obtain rfl : k = 2 := by omega
      rw [Um.rowsTo_all] at *
      go_wp2_with fail
      refine (mAlive_any _).mono ?_
      rintro e w2 ⟨rfl, hb2⟩
      go_wp2
      go_ret
      exact ⟨rfl, hB.trans (hb2.mono hB.size)⟩

theorem walk (w : World) (a0 : Int) (w0 : (Lit.int .u64 a0).wf = true) :
    Calls Try.prog 7 #[.int .u64 a0] w fun e w' => e = .returned (.bool true) ∧ Below w.heap.size w w' := by
  obtain ⟨x, rfl, hx⟩ := word_of w0
  exact walkN w x hx

set_option maxRecDepth 100000 in
theorem lifted (os : Os) (started : os.Started) (H : Type) (enc : TypeId × Value → H) :
    ReturnsInHanded {} Try.checked os 7 .any (Rows.markRowsSpec.pre6 enc Try.prog Try.f7 Rows.markRowsRow.domain false) (Rows.markRowsSpec.post enc Try.prog Try.f7 false true false false) := by
  refine returnsInHanded_of_change (C := Try.checked) own started (by kernel_rfl) Try.func7
    (ChangeSpec.witness6 (enc := enc) (C := Try.checked) false ⟨#[], #[.int .u64 0], []⟩ 8 (by kernel_rfl) (by kernel_rfl) (by kernel_rfl) (by kernel_rfl)) ?_
  intro W base args ds gs before hval0 hW hcnd _
  have hval : ∀ (j : Nat) t v, Try.f7.params[j]? = some t → args[j]? = some v → Value.okWide Try.prog W .any base t v := hval0
  have hW' := hW
  obtain ⟨p, q, hA0, hV, rfl, hfz, hnd⟩ := hW
  have hA : DataW.TrodAll enc Try.prog W 0 (fun _ => true) true Try.f7.params.toList args.toList ds p := hA0
  rw [Try.params7] at hA hval
  obtain ⟨v0, vs0, d0, ds0, p0, q0, hargs, rfl, rfl, h0, r0⟩ := trodAll_cons hA
  obtain ⟨rfl, rfl, rfl⟩ := trodAll_nil r0
  obtain rfl : args = #[v0] := by cases args; simp_all
  obtain ⟨rfl, rfl⟩ := trodVars_none hV
  have k0 := h0
  have lt0 : ∀ x ∈ p0, x.block < W.heap.size := by obtain ⟨m, hm⟩ := k0; exact DataW.trod_lt m _ _ _ hm
  obtain ⟨a0, rfl, hd0, hp0, w0⟩ := open_int Try.underlying22 (hval 0 22 v0 rfl rfl) h0
  refine (walk W a0 w0).mono fun e W' ⟨he, bel⟩ => ?_
  subst he
  exact ⟨_, rfl, _, _, _, [], _, [], hW', trodAll_mk1 (shut_bool Try.underlying4 _), (trodAll_cons_mk (Below.trod laidOut (by kernel_rfl) (of_decide_eq_true (by kernel_rfl)) k0 bel lt0) trodAll_mk0), rfl, bel.frame _, fun h => by cases h⟩

theorem MarkRows_proved : Rows.MarkRowsSaid :=
  OpenClaim.holds_of_wide 7 Try.f7 rfl rfl rfl rfl rfl rfl rfl ⟨rfl, rfl, rfl, rfl, rfl⟩ rfl rfl rfl rfl rfl (by kernel_rfl) Try.func7 (by kernel_rfl)
    (of_decide_eq_true (by kernel_rfl)) (by unfold Func.isWrapper; first | (rw [if_pos (by decide +kernel)]; kernel_rfl) | (rw [if_neg (by decide +kernel)]; exact ⟨rfl, rfl⟩))
    (fun os started H enc _ => lifted os started H enc)

end Go.Proofs.Ytpklhmaodhaflaa.markRows
