/-
  For every word, slot and past or not, the law StatusDrops answers true: the word without the slot is what the document's own answer says; the slot is on no side then, and the sides on which it was have their past bit if that was asked for. Conditions: none.
-/
import Derived.Test.YtbelgielncflfaaRows
import Derived.Test.YtbelgielncflfaaAlive
import Derived.WalkKit
import Derived.ProofKit
import Derived.OpenShut
import Derived.ShutString
namespace Go.Proofs.Ytbelgielncflfaa.statusDrops
open Go.ChangeShapes Go.WideShapes Go.ChangeAt Go.RowKit
set_option linter.unusedVariables false
attribute [local go_sem] alloc_drewN setCell_drewN

theorem own : ownKnob Try.prog.godebug = none := by kernel_rfl
theorem laidOut : laidOutB Try.prog = true := by kernel_rfl

set_option maxHeartbeats 2000000 in
theorem walk_true (w : World) (x : Nat) (hx : Um.Word x) (b : Int) :
    Calls Try.prog 7 #[.int .u64 x, .int .i64 b, .bool true] w fun e w' => e = .returned (.bool true) ∧ Below w.heap.size w w' := by
  have hy := Um.drop_word hx b true
  have hd : ∀ k : Nat, k < 2 → Um.hasN (Um.dropN x b true) k b = false := fun k _ => Um.hasN_drop x k b true
  have hl : ∀ k : Nat, k < 2 → ((true : Bool) = true → Um.hasN x k b = true → Um.anyN (Um.dropN x b true) k = true) ∧ (Um.hasN x k b = false → Um.anyN (Um.dropN x b true) k = Um.anyN x k) := fun k hk => Um.drops_law x k b true (by omega)
  have HD := hide hd
  have HL := hide hl
  clear hd hl
  go_enter Try.func7, Try.ntmps7
  go_wp2_with fail
  refine (drop_any _ _ _ _ hx).mono ?_
  rintro e w1 ⟨rfl, rfl⟩
  go_wp2_with fail
  refine (refDrop_any _ _ _ _ hx).mono ?_
  rintro e w1 ⟨rfl, rfl⟩
  generalize Um.dropN x b true = y at *
  go_wp2_with fail
  go_loopw [20] (fun i w' => ∃ k : Nat, k ≤ 2 ∧ i = .int .i64 k ∧ ∃ n, w' = w1.drewN n) (fun i _ => (2 - intOf i).toNat)
  case atStart => exact ⟨0, by omega, rfl, 0, rfl⟩
  case round =>
    obtain ⟨k, hk, rfl, n, rfl⟩ := hrel
    by_cases hlt : k < 2
    · have h1 := (unhide HD) k hlt
      have h2 := (unhide HL) k hlt
      cases h3 : Um.hasN x k b
      · have h4 := h2.2 h3
        clear h2 HD HL
        go_wp2_with (first
          | (go_at_call_of 18 (Value.int IntKind.u64 (x : Int)); refine (has_any _ _ _ _ hx).mono ?_; rintro e w2 ⟨rfl, rfl⟩)
          | (go_at_call_of 18 (Value.int IntKind.u64 (y : Int)); refine (has_any _ _ _ _ hy).mono ?_; rintro e w2 ⟨rfl, rfl⟩)
          | (go_at_call_of 21 (Value.int IntKind.u64 (x : Int)); refine (any_any _ _ _ hx).mono ?_; rintro e w2 ⟨rfl, n2, rfl⟩)
          | (go_at_call_of 21 (Value.int IntKind.u64 (y : Int)); refine (any_any _ _ _ hy).mono ?_; rintro e w2 ⟨rfl, n2, rfl⟩))
        exact ⟨⟨k + 1, by omega, by go_num, _, rfl⟩, by simp [intOf]; omega⟩
      · have h4 := h2.1 trivial h3
        clear h2 HD HL
        go_wp2_with (first
          | (go_at_call_of 18 (Value.int IntKind.u64 (x : Int)); refine (has_any _ _ _ _ hx).mono ?_; rintro e w2 ⟨rfl, rfl⟩)
          | (go_at_call_of 18 (Value.int IntKind.u64 (y : Int)); refine (has_any _ _ _ _ hy).mono ?_; rintro e w2 ⟨rfl, rfl⟩)
          | (go_at_call_of 21 (Value.int IntKind.u64 (x : Int)); refine (any_any _ _ _ hx).mono ?_; rintro e w2 ⟨rfl, n2, rfl⟩)
          | (go_at_call_of 21 (Value.int IntKind.u64 (y : Int)); refine (any_any _ _ _ hy).mono ?_; rintro e w2 ⟨rfl, n2, rfl⟩))
        exact ⟨⟨k + 1, by omega, by go_num, _, rfl⟩, by simp [intOf]; omega⟩
    · go_wp2_with fail
      refine (alive_any _).mono ?_
      rintro e w2 ⟨rfl, hb⟩
      go_wp2
      go_ret
      exact ⟨rfl, (below_drewN (Below.refl _ _) _).trans hb⟩

set_option maxHeartbeats 2000000 in
theorem walk_false (w : World) (x : Nat) (hx : Um.Word x) (b : Int) :
    Calls Try.prog 7 #[.int .u64 x, .int .i64 b, .bool false] w fun e w' => e = .returned (.bool true) ∧ Below w.heap.size w w' := by
  have hy := Um.drop_word hx b false
  have hd : ∀ k : Nat, k < 2 → Um.hasN (Um.dropN x b false) k b = false := fun k _ => Um.hasN_drop x k b false
  have hl : ∀ k : Nat, k < 2 → ((false : Bool) = true → Um.hasN x k b = true → Um.anyN (Um.dropN x b false) k = true) ∧ (Um.hasN x k b = false → Um.anyN (Um.dropN x b false) k = Um.anyN x k) := fun k hk => Um.drops_law x k b false (by omega)
  have HD := hide hd
  have HL := hide hl
  clear hd hl
  go_enter Try.func7, Try.ntmps7
  go_wp2_with fail
  refine (drop_any _ _ _ _ hx).mono ?_
  rintro e w1 ⟨rfl, rfl⟩
  go_wp2_with fail
  refine (refDrop_any _ _ _ _ hx).mono ?_
  rintro e w1 ⟨rfl, rfl⟩
  generalize Um.dropN x b false = y at *
  go_wp2_with fail
  go_loopw [20] (fun i w' => ∃ k : Nat, k ≤ 2 ∧ i = .int .i64 k ∧ ∃ n, w' = w1.drewN n) (fun i _ => (2 - intOf i).toNat)
  case atStart => exact ⟨0, by omega, rfl, 0, rfl⟩
  case round =>
    obtain ⟨k, hk, rfl, n, rfl⟩ := hrel
    by_cases hlt : k < 2
    · have h1 := (unhide HD) k hlt
      have h2 := (unhide HL) k hlt
      cases h3 : Um.hasN x k b
      · have h4 := h2.2 h3
        clear h2 HD HL
        go_wp2_with (first
          | (go_at_call_of 18 (Value.int IntKind.u64 (x : Int)); refine (has_any _ _ _ _ hx).mono ?_; rintro e w2 ⟨rfl, rfl⟩)
          | (go_at_call_of 18 (Value.int IntKind.u64 (y : Int)); refine (has_any _ _ _ _ hy).mono ?_; rintro e w2 ⟨rfl, rfl⟩)
          | (go_at_call_of 21 (Value.int IntKind.u64 (x : Int)); refine (any_any _ _ _ hx).mono ?_; rintro e w2 ⟨rfl, n2, rfl⟩)
          | (go_at_call_of 21 (Value.int IntKind.u64 (y : Int)); refine (any_any _ _ _ hy).mono ?_; rintro e w2 ⟨rfl, n2, rfl⟩))
        exact ⟨⟨k + 1, by omega, by go_num, _, rfl⟩, by simp [intOf]; omega⟩
      · clear h2 HD HL
        go_wp2_with (first
          | (go_at_call_of 18 (Value.int IntKind.u64 (x : Int)); refine (has_any _ _ _ _ hx).mono ?_; rintro e w2 ⟨rfl, rfl⟩)
          | (go_at_call_of 18 (Value.int IntKind.u64 (y : Int)); refine (has_any _ _ _ _ hy).mono ?_; rintro e w2 ⟨rfl, rfl⟩)
          | (go_at_call_of 21 (Value.int IntKind.u64 (x : Int)); refine (any_any _ _ _ hx).mono ?_; rintro e w2 ⟨rfl, n2, rfl⟩)
          | (go_at_call_of 21 (Value.int IntKind.u64 (y : Int)); refine (any_any _ _ _ hy).mono ?_; rintro e w2 ⟨rfl, n2, rfl⟩))
        exact ⟨⟨k + 1, by omega, by go_num, _, rfl⟩, by simp [intOf]; omega⟩
    · go_wp2_with fail
      refine (alive_any _).mono ?_
      rintro e w2 ⟨rfl, hb⟩
      go_wp2
      go_ret
      exact ⟨rfl, (below_drewN (Below.refl _ _) _).trans hb⟩

theorem walk (w : World) (a0 : Int) (w0 : (Lit.int .u64 a0).wf = true) (a1 : Int) (w1 : (Lit.int .i64 a1).wf = true) (a2 : Bool) :
    Calls Try.prog 7 #[.int .u64 a0, .int .i64 a1, .bool a2] w fun e w' => e = .returned (.bool true) ∧ Below w.heap.size w w' := by
  obtain ⟨x, rfl, hx⟩ := word_of w0
  cases a2
  · exact walk_false w x hx a1
  · exact walk_true w x hx a1

set_option maxRecDepth 100000 in
theorem lifted (os : Os) (started : os.Started) (H : Type) (enc : TypeId × Value → H) :
    ReturnsInHanded {} Try.checked os 7 .any (Rows.statusDropsSpec.pre6 enc Try.prog Try.f7 Rows.statusDropsRow.domain false) (Rows.statusDropsSpec.post enc Try.prog Try.f7 false true false false) := by
  refine returnsInHanded_of_change (C := Try.checked) own started (by kernel_rfl) Try.func7
    (ChangeSpec.witness6 (enc := enc) (C := Try.checked) false ⟨#[], #[.int .u64 0, .int .i64 0, .bool false], []⟩ 8 (by kernel_rfl) (by kernel_rfl) (by kernel_rfl) (by kernel_rfl)) ?_
  intro W base args ds gs before hval0 hW hcnd _
  have hval : ∀ (j : Nat) t v, Try.f7.params[j]? = some t → args[j]? = some v → Value.okWide Try.prog W .any base t v := hval0
  have hW' := hW
  obtain ⟨p, q, hA0, hV, rfl, hfz, hnd⟩ := hW
  have hA : DataW.TrodAll enc Try.prog W 0 (fun _ => true) true Try.f7.params.toList args.toList ds p := hA0
  rw [Try.params7] at hA hval
  obtain ⟨v0, vs0, d0, ds0, p0, q0, hargs, rfl, rfl, h0, r0⟩ := trodAll_cons hA
  obtain ⟨v1, vs1, d1, ds1, p1, q1, rfl, rfl, rfl, h1, r1⟩ := trodAll_cons r0
  obtain ⟨v2, vs2, d2, ds2, p2, q2, rfl, rfl, rfl, h2, r2⟩ := trodAll_cons r1
  obtain ⟨rfl, rfl, rfl⟩ := trodAll_nil r2
  obtain rfl : args = #[v0, v1, v2] := by cases args; simp_all
  obtain ⟨rfl, rfl⟩ := trodVars_none hV
  have k0 := h0
  have lt0 : ∀ x ∈ p0, x.block < W.heap.size := by obtain ⟨m, hm⟩ := k0; exact DataW.trod_lt m _ _ _ hm
  have k1 := h1
  have lt1 : ∀ x ∈ p1, x.block < W.heap.size := by obtain ⟨m, hm⟩ := k1; exact DataW.trod_lt m _ _ _ hm
  have k2 := h2
  have lt2 : ∀ x ∈ p2, x.block < W.heap.size := by obtain ⟨m, hm⟩ := k2; exact DataW.trod_lt m _ _ _ hm
  obtain ⟨a0, rfl, hd0, hp0, w0⟩ := open_int Try.underlying24 (hval 0 24 v0 rfl rfl) h0
  obtain ⟨a1, rfl, hd1, hp1, w1⟩ := open_int Try.underlying3 (hval 1 3 v1 rfl rfl) h1
  obtain ⟨a2, rfl, hd2, hp2⟩ := open_bool Try.underlying4 (hval 2 4 v2 rfl rfl) h2
  refine (walk W a0 w0 a1 w1 a2).mono fun e W' ⟨he, bel⟩ => ?_
  subst he
  exact ⟨_, rfl, _, _, _, [], _, [], hW', trodAll_mk1 (shut_bool Try.underlying4 _), (trodAll_cons_mk (Below.trod laidOut (by kernel_rfl) (of_decide_eq_true (by kernel_rfl)) k0 bel lt0) (trodAll_cons_mk (Below.trod laidOut (by kernel_rfl) (of_decide_eq_true (by kernel_rfl)) k1 bel lt1) (trodAll_cons_mk (Below.trod laidOut (by kernel_rfl) (of_decide_eq_true (by kernel_rfl)) k2 bel lt2) trodAll_mk0))), rfl, bel.frame _, fun h => by cases h⟩

theorem StatusDrops_proved : Rows.StatusDropsSaid :=
  OpenClaim.holds_of_wide 7 Try.f7 rfl rfl rfl rfl rfl rfl rfl ⟨rfl, rfl, rfl, rfl, rfl⟩ rfl rfl rfl rfl rfl (by kernel_rfl) Try.func7 (by kernel_rfl)
    (of_decide_eq_true (by kernel_rfl)) (by unfold Func.isWrapper; first | (rw [if_pos (by decide +kernel)]; kernel_rfl) | (rw [if_neg (by decide +kernel)]; exact ⟨rfl, rfl⟩))
    (fun os started H enc _ => lifted os started H enc)

end Go.Proofs.Ytbelgielncflfaa.statusDrops
