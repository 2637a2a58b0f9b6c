/-
  For every word, kind and slot, and other slot, the law MarkOthers answers true: a mark, and dropping a slot, touch no other slot. Conditions: none.
-/
import Derived.Test.YtpklhmaodhaflaaRows
import Derived.Test.YtpklhmaodhaflaaMarkAlive
import Derived.WalkKit
import Derived.ProofKit
import Derived.OpenShut
import Derived.ShutString
import Derived.Lib.QuietBelow
import Derived.RegionTactic
import Derived.BigRegion
namespace Go.Proofs.Ytpklhmaodhaflaa.markOthers
open Go.ChangeShapes Go.WideShapes Go.ChangeAt Go.RowKit Go.Sort
set_option linter.unusedVariables false
attribute [local go_sem] alloc_drewN setCell_drewN

theorem own : ownKnob Try.prog.godebug = none := by kernel_rfl
theorem laidOut : laidOutB Try.prog = true := by kernel_rfl

theorem cellsA : Try.prog.cellsOf 32 = 2 := by kernel_rfl
theorem cellsI : Try.prog.cellsOf 3 = 1 := by kernel_rfl

theorem array2 {α : Type} {cs : Array α} (h : cs.size = 2) : ∃ c0 c1, cs = #[c0, c1] := by
  obtain ⟨l⟩ := cs
  match l, h with
  | [c0, c1], _ => exact ⟨c0, c1, rfl⟩

theorem list2 {α : Type} {cs : List α} (h : cs.length = 2) : ∃ c0 c1, cs = [c0, c1] := by
  match cs, h with
  | [c0, c1], _ => exact ⟨c0, c1, rfl⟩

theorem okWide_array {P : Program} {w : World} {r : Reach} {base : Nat} {t : TypeId} {v : Value} {n : Nat} {e : TypeId} (ht : P.underlying t = some (.array n e)) (h : Value.okWide P w r base t v) : ∃ cs, v = .agg cs ∧ cs.size = P.cellsOf t := by
  simp only [Value.okWide, ht] at h
  obtain ⟨cs, h1, h2, _⟩ := h
  exact ⟨cs, h1, h2⟩

theorem open_pair {H : Type} {enc : TypeId × Value → H} {W : World} {base : Nat} {v : Value} {d : DataW H} {p : List MemPlace}
    (hv : Value.okWide Try.prog W .any base 32 v) (h : DataW.Trod enc Try.prog W 0 (fun _ => true) true 32 v d p) :
    ∃ (x y : Int), v = .agg #[.int .i64 x, .int .i64 y] := by
  obtain ⟨cs, rfl, hsz⟩ := okWide_array Try.underlying32 hv
  obtain ⟨c0, c1, rfl⟩ := array2 (hsz.trans cellsA)
  obtain ⟨fuel, hf⟩ := h
  obtain ⟨xs, k, hk, hxy, _, hxl, hfx⟩ := DataW.trod_array Try.underlying32 hf
  obtain ⟨y0, y1, rfl⟩ := list2 hxl
  have g0 := hfx 0 (by omega)
  have g1 := hfx 1 (by omega)
  simp [cellsI, Value.cells] at g0 g1
  obtain ⟨q0, z0, _, _⟩ := DataW.trod_int Try.underlying3 g0
  obtain ⟨q1, z1, _, _⟩ := DataW.trod_int Try.underlying3 g1
  simp at z0 z1
  subst z0 z1
  exact ⟨q0, q1, rfl⟩

set_option maxHeartbeats 4000000 in
theorem walkN (w : World) (x : Nat) (hx : Um.Word x) (a b c : Int) :
    Calls Try.prog 6 #[.int .u64 x, .agg #[.int .i64 a, .int .i64 b], .int .i64 c] w fun e w' => e = .returned (.bool true) ∧ Below w.heap.size w w' := by
  have hy := Um.with_word hx a b
  have hz := Um.drop_word hx b false
  have h1 : ¬ c = b → ∀ k : Int, Um.hasN (Um.withN x a b) k c = Um.hasN x k c := fun h k => Um.has_with_slot x a k b c (fun e => h e.symm)
  have h2 : ¬ c = b → ∀ k : Int, Um.hasN (Um.dropN x b false) k c = Um.hasN x k c := fun h k => Um.has_drop_slot x k b c (fun e => h e.symm)
  have H1 := hide h1
  have H2 := hide h2
  clear h1 h2
  by_cases hcb : c = b
  · have hcb' : (c == b) = true := by simp [hcb]
    clear hcb H1 H2
    go_enter Try.func6, Try.ntmps6
    go_wp2_with fail
    go_region
    all_goals
      go_wp2_with fail
      refine (mAlive_any _).mono ?_
      rintro e w2 ⟨rfl, hb⟩
      go_wp2
      go_ret
      refine ⟨rfl, ?_⟩
      exact Below.trans (by repeat (first | exact (Below.refl w.heap.size w).alloc (Nat.le_refl _) _ | apply below_drewN | apply Below.drew)) (hb.mono (by simp))
  · have G1 := hide ((unhide H1) hcb)
    have G2 := hide ((unhide H2) hcb)
    have hcb' : (c == b) = false := by simp [hcb]
    clear hcb H1 H2
    go_enter Try.func6, Try.ntmps6
    go_wp2_with fail
    go_region
    all_goals
      go_wp2_with fail
      refine (mWith_any _ _ _ _ hx).mono ?_
      rintro e w2 ⟨rfl, hw2⟩
      go_wp2_with fail
      refine (mDrop_any _ _ _ hx).mono ?_
      rintro e w3 ⟨rfl, hw3⟩
      have hB : Below w.heap.size w w3 := by
        rw [hw3]
        try rw [hw2]
        repeat (first | exact (Below.refl w.heap.size w).alloc (Nat.le_refl _) _ | apply below_drewN | apply Below.drew)
      clear hw2 hw3
      generalize Um.withN x a b = y at *
      generalize Um.dropN x b false = z at *
      go_wp2_with fail
      go_loop [27] (fun i => ∃ k : Nat, k ≤ 2 ∧ i = .int .i64 k) (fun i => 2 - (intOf i).toNat)
      case atStart => exact ⟨0, by omega, rfl⟩
      case round =>
        obtain ⟨k, hk, rfl⟩ := hrel
        by_cases hlt : k < 2
        · go_wp2_with fail
          refine (mHas_any _ _ _ _ hy).mono ?_
          rintro e w4 ⟨rfl, rfl⟩
          rw [unhide G1]
          go_wp2_with fail
          refine (mHas_any _ _ _ _ hx).mono ?_
          rintro e w4 ⟨rfl, rfl⟩
          go_wp2_with fail
          refine (mHas_any _ _ _ _ hz).mono ?_
          rintro e w4 ⟨rfl, rfl⟩
          rw [unhide G2]
          go_wp2_with fail
          refine (mHas_any _ _ _ _ hx).mono ?_
          rintro e w4 ⟨rfl, rfl⟩
          go_wp2
          refine ⟨⟨k + 1, by omega, by go_num⟩, by simp [intOf]; omega⟩
        · go_wp2_with fail
          refine (mAlive_any _).mono ?_
          rintro e w4 ⟨rfl, hb⟩
          go_wp2
          go_ret
          exact ⟨rfl, hB.trans (hb.mono hB.size)⟩

theorem walk {H : Type} {enc : TypeId × Value → H} {base : Nat} {v : Value} {d : DataW H} {p : List MemPlace} (w : World) (a0 : Int) (w0 : (Lit.int .u64 a0).wf = true)
    (hv : Value.okWide Try.prog w .any base 32 v) (h : DataW.Trod enc Try.prog w 0 (fun _ => true) true 32 v d p) (a2 : Int) (w2 : (Lit.int .i64 a2).wf = true) :
    Calls Try.prog 6 #[.int .u64 a0, v, .int .i64 a2] w fun e w' => e = .returned (.bool true) ∧ Below w.heap.size w w' := by
  obtain ⟨x, rfl, hx⟩ := word_of w0
  obtain ⟨a, b, rfl⟩ := open_pair hv h
  exact walkN w x hx a b a2

set_option maxRecDepth 100000 in
theorem lifted (os : Os) (started : os.Started) (H : Type) (enc : TypeId × Value → H) :
    ReturnsInHanded {} Try.checked os 6 .any (Rows.markOthersSpec.pre6 enc Try.prog Try.f6 Rows.markOthersRow.domain false) (Rows.markOthersSpec.post enc Try.prog Try.f6 false true false false) := by
  refine returnsInHanded_of_change (C := Try.checked) own started (by kernel_rfl) Try.func6
    (ChangeSpec.witness6 (enc := enc) (C := Try.checked) false ⟨#[], #[.int .u64 0, .agg #[.int .i64 0, .int .i64 0], .int .i64 0], []⟩ 8 (by kernel_rfl) (by kernel_rfl) (by kernel_rfl) (by kernel_rfl)) ?_
  intro W base args ds gs before hval0 hW hcnd _
  have hval : ∀ (j : Nat) t v, Try.f6.params[j]? = some t → args[j]? = some v → Value.okWide Try.prog W .any base t v := hval0
  have hW' := hW
  obtain ⟨p, q, hA0, hV, rfl, hfz, hnd⟩ := hW
  have hA : DataW.TrodAll enc Try.prog W 0 (fun _ => true) true Try.f6.params.toList args.toList ds p := hA0
  rw [Try.params6] at hA hval
  obtain ⟨v0, vs0, d0, ds0, p0, q0, hargs, rfl, rfl, h0, r0⟩ := trodAll_cons hA
  obtain ⟨v1, vs1, d1, ds1, p1, q1, rfl, rfl, rfl, h1, r1⟩ := trodAll_cons r0
  obtain ⟨v2, vs2, d2, ds2, p2, q2, rfl, rfl, rfl, h2, r2⟩ := trodAll_cons r1
  obtain ⟨rfl, rfl, rfl⟩ := trodAll_nil r2
  obtain rfl : args = #[v0, v1, v2] := by cases args; simp_all
  obtain ⟨rfl, rfl⟩ := trodVars_none hV
  have k0 := h0
  have lt0 : ∀ x ∈ p0, x.block < W.heap.size := by obtain ⟨m, hm⟩ := k0; exact DataW.trod_lt m _ _ _ hm
  have k1 := h1
  have lt1 : ∀ x ∈ p1, x.block < W.heap.size := by obtain ⟨m, hm⟩ := k1; exact DataW.trod_lt m _ _ _ hm
  have k2 := h2
  have lt2 : ∀ x ∈ p2, x.block < W.heap.size := by obtain ⟨m, hm⟩ := k2; exact DataW.trod_lt m _ _ _ hm
  obtain ⟨a0, rfl, hd0, hp0, w0⟩ := open_int Try.underlying22 (hval 0 22 v0 rfl rfl) h0
  obtain ⟨a2, rfl, hd2, hp2, w2⟩ := open_int Try.underlying3 (hval 2 3 v2 rfl rfl) h2
  refine (walk W a0 w0 (hval 1 32 v1 rfl rfl) h1 a2 w2).mono fun e W' ⟨he, bel⟩ => ?_
  subst he
  exact ⟨_, rfl, _, _, _, [], _, [], hW', trodAll_mk1 (shut_bool Try.underlying4 _), (trodAll_cons_mk (Below.trod laidOut (by kernel_rfl) (of_decide_eq_true (by kernel_rfl)) k0 bel lt0) (trodAll_cons_mk (Below.trod laidOut (by kernel_rfl) (of_decide_eq_true (by kernel_rfl)) k1 bel lt1) (trodAll_cons_mk (Below.trod laidOut (by kernel_rfl) (of_decide_eq_true (by kernel_rfl)) k2 bel lt2) trodAll_mk0))), rfl, bel.frame _, fun h => by cases h⟩

theorem MarkOthers_proved : Rows.MarkOthersSaid :=
  OpenClaim.holds_of_wide 6 Try.f6 rfl rfl rfl rfl rfl rfl rfl ⟨rfl, rfl, rfl, rfl, rfl⟩ rfl rfl rfl rfl rfl (by kernel_rfl) Try.func6 (by kernel_rfl)
    (of_decide_eq_true (by kernel_rfl)) (by unfold Func.isWrapper; first | (rw [if_pos (by decide +kernel)]; kernel_rfl) | (rw [if_neg (by decide +kernel)]; exact ⟨rfl, rfl⟩))
    (fun os started H enc _ => lifted os started H enc)

end Go.Proofs.Ytpklhmaodhaflaa.markOthers
