/-
  For every world's size, words and script, the law StoreAll answers true: each access tells what the document's own answer says, and so are the words, and the last access, behind it. Conditions: none.
-/
import Derived.Test.YtjicfonpldobdaaRows
import Derived.Test.YtjicfonpldobdaaM10
import Derived.WalkKit
import Derived.ProofKit
import Derived.OpenShut
import Derived.ShutString
namespace Go.Proofs.Ytjicfonpldobdaa.storeAll
set_option maxRecDepth 100000
open Go.ChangeShapes Go.WideShapes Go.ChangeAt Go.RowKit Go.Sort
set_option linter.unusedVariables false

theorem walk {H : Type} {enc : TypeId × Value → H} {base : Nat} {v0 v1 v2 : Value} {d0 d1 d2 : DataW H} {p0 p1 p2 : List MemPlace} (w : World)
    (hv0 : Value.okWide Try.prog w .any base 24 v0) (h0 : DataW.Trod enc Try.prog w 0 (fun _ => true) true 24 v0 d0 p0)
    (hv1 : Value.okWide Try.prog w .any base 25 v1) (h1 : DataW.Trod enc Try.prog w 0 (fun _ => true) true 25 v1 d1 p1)
    (hv2 : Value.okWide Try.prog w .any base 26 v2) (h2 : DataW.Trod enc Try.prog w 0 (fun _ => true) true 26 v2 d2 p2) :
    Calls Try.prog 3 #[v0, v1, v2] w fun e w' => e = .returned (.bool true) ∧ Below w.heap.size w w' := by
  obtain ⟨t, s, k, g, q, rfl, _⟩ := open_cfg hv0 h0
  obtain ⟨n, ws, hI⟩ := open_words hv1 h1
  have hops : ∃ la nl cl, v2 = .slice la nl cl ∧ ∃ Z : Nat → (Int × Int × Int) × (Nat × Nat), nl = 0 ∨ ∃ lb off, la = some ⟨lb, off, none⟩ ∧ lb < w.heap.size ∧ nl ≤ cl ∧
      ∀ i, i < nl → (w.cell? ⟨lb, off + i * 5, none⟩ = some (.int .i64 (Z i).1.1) ∧ w.cell? ⟨lb, off + (i * 5 + 1), none⟩ = some (.int .i64 (Z i).1.2.1) ∧ w.cell? ⟨lb, off + (i * 5 + 2), none⟩ = some (.int .i64 (Z i).1.2.2) ∧ w.cell? ⟨lb, off + (i * 5 + 3), none⟩ = some (.int .u64 ((Z i).2.1 : Nat)) ∧ w.cell? ⟨lb, off + (i * 5 + 4), none⟩ = some (.int .u64 ((Z i).2.2 : Nat))) ∧
        (-9223372036854775808 ≤ (Z i).1.2.2 ∧ (Z i).1.2.2 ≤ 9223372036854775807) ∧ Um.Word (Z i).2.1 ∧ Um.Word (Z i).2.2 := by
    rcases open_ops hv2 h2 with ⟨a, cap, rfl⟩ | ⟨b, off, len, cap, Z, rfl, _, hlc, _, hb, hZ⟩
    · exact ⟨a, 0, cap, rfl, fun _ => ((0, 0, 0), (0, 0)), .inl rfl⟩
    · exact ⟨_, len, cap, rfl, Z, .inr ⟨b, off, rfl, hb, hlc, hZ⟩⟩
  obtain ⟨la, nl, cl, rfl, Z, hZ⟩ := hops
  cases hr : (⟨t, s, k, g, q⟩ : Um.Cf).r with
  | false =>
    obtain ⟨sa, cap, rfl⟩ := words_len hI
    exact walk_wrong w ⟨t, s, k, g, q⟩ sa n cap la nl cl hr
  | true =>
    by_cases hn : n = (⟨t, s, k, g, q⟩ : Um.Cf).n
    · subst hn
      by_cases h60 : 60 < nl
      · exact walk_long w ⟨t, s, k, g, q⟩ v1 ws la nl cl hr hI h60
      · exact walk_right w ⟨t, s, k, g, q⟩ v1 ws la nl cl Z hr hI (by omega) hZ
    · obtain ⟨sa, cap, rfl⟩ := words_len hI
      exact walk_short w ⟨t, s, k, g, q⟩ sa n cap la nl cl hr hn

set_option maxRecDepth 100000 in
theorem lifted (os : Os) (started : os.Started) (H : Type) (enc : TypeId × Value → H) :
    ReturnsInHanded {} Try.checked os 3 .any (Rows.storeAllSpec.pre6 enc Try.prog Try.f3 Rows.storeAllRow.domain false) (Rows.storeAllSpec.post enc Try.prog Try.f3 false true false false) := by
  refine returnsInHanded_of_change (C := Try.checked) own started (by kernel_rfl) Try.func3
    (ChangeSpec.witness6 (enc := enc) (C := Try.checked) false ⟨#[], #[.agg #[.int .i64 0, .int .i64 0, .int .i64 0, .int .i64 0, .int .u64 0], .slice none 0 0, .slice none 0 0], []⟩ 8 (by kernel_rfl) (by kernel_rfl) (by kernel_rfl) (by kernel_rfl)) ?_
  intro W base args ds gs before hval0 hW hcnd _
  have hval : ∀ (j : Nat) t v, Try.f3.params[j]? = some t → args[j]? = some v → Value.okWide Try.prog W .any base t v := hval0
  have hW' := hW
  obtain ⟨p, q, hA0, hV, rfl, hfz, hnd⟩ := hW
  have hA : DataW.TrodAll enc Try.prog W 0 (fun _ => true) true Try.f3.params.toList args.toList ds p := hA0
  rw [Try.params3] at hA hval
  obtain ⟨v0, vs0, d0, ds0, p0, q0, hargs, rfl, rfl, h0, r0⟩ := trodAll_cons hA
  obtain ⟨v1, vs1, d1, ds1, p1, q1, rfl, rfl, rfl, h1, r1⟩ := trodAll_cons r0
  obtain ⟨v2, vs2, d2, ds2, p2, q2, rfl, rfl, rfl, h2, r2⟩ := trodAll_cons r1
  obtain ⟨rfl, rfl, rfl⟩ := trodAll_nil r2
  obtain rfl : args = #[v0, v1, v2] := by cases args; simp_all
  obtain ⟨rfl, rfl⟩ := trodVars_none hV
  have k0 := h0
  have lt0 : ∀ x ∈ p0, x.block < W.heap.size := by obtain ⟨m, hm⟩ := k0; exact DataW.trod_lt m _ _ _ hm
  have k1 := h1
  have lt1 : ∀ x ∈ p1, x.block < W.heap.size := by obtain ⟨m, hm⟩ := k1; exact DataW.trod_lt m _ _ _ hm
  have k2 := h2
  have lt2 : ∀ x ∈ p2, x.block < W.heap.size := by obtain ⟨m, hm⟩ := k2; exact DataW.trod_lt m _ _ _ hm
  refine (walk W (hval 0 24 v0 rfl rfl) h0 (hval 1 25 v1 rfl rfl) h1 (hval 2 26 v2 rfl rfl) h2).mono fun e W' ⟨he, bel⟩ => ?_
  subst he
  exact ⟨_, rfl, _, _, _, [], _, [], hW', trodAll_mk1 (shut_bool Try.underlying4 _), (trodAll_cons_mk (Below.trod laidOut (by kernel_rfl) (of_decide_eq_true (by kernel_rfl)) k0 bel lt0) (trodAll_cons_mk (Below.trod laidOut (by kernel_rfl) (of_decide_eq_true (by kernel_rfl)) k1 bel lt1) (trodAll_cons_mk (Below.trod laidOut (by kernel_rfl) (of_decide_eq_true (by kernel_rfl)) k2 bel lt2) trodAll_mk0))), rfl, bel.frame _, fun h => by cases h⟩

theorem StoreAll_proved : Rows.StoreAllSaid :=
  OpenClaim.holds_of_wide 3 Try.f3 rfl rfl rfl rfl rfl rfl rfl ⟨rfl, rfl, rfl, rfl, rfl⟩ rfl rfl rfl rfl rfl (by kernel_rfl) Try.func3 (by kernel_rfl)
    (of_decide_eq_true (by kernel_rfl)) (by unfold Func.isWrapper; first | (rw [if_pos (by decide +kernel)]; kernel_rfl) | (rw [if_neg (by decide +kernel)]; exact ⟨rfl, rfl⟩))
    (fun os started H enc _ => lifted os started H enc)

end Go.Proofs.Ytjicfonpldobdaa.storeAll
