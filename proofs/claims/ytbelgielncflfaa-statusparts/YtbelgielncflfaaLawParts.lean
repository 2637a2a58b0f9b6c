/-
  For every word, the law StatusParts answers true: the status of the word is what the document's own answer says; it is packed as that word, but for the highest two bits. Conditions: none.
-/
import Derived.Test.YtbelgielncflfaaRows
import Derived.Test.YtbelgielncflfaaAlive
import Derived.WalkKit
import Derived.ProofKit
import Derived.OpenShut
import Derived.ShutString
import Derived.Lib.QuietBelow
namespace Go.Proofs.Ytbelgielncflfaa.statusParts
open Go.ChangeShapes Go.WideShapes Go.ChangeAt Go.RowKit Go.Sort
set_option linter.unusedVariables false
attribute [local go_sem] alloc_drewN setCell_drewN

theorem own : ownKnob Try.prog.godebug = none := by kernel_rfl
theorem laidOut : laidOutB Try.prog = true := by kernel_rfl

theorem parts_sum (x : Nat) (h : Um.part x 30 32 ≤ 1073741824) :
    Um.okSt (Um.part x 30 32 : Int) (Um.part x 27 3 : Int) (Um.part x 12 12 : Int) (Um.part x 0 12 : Int) = true
      ∧ Um.packN (Um.part x 30 32 : Int) (Um.part x 27 3 : Int) (x.testBit 26) (x.testBit 25) (x.testBit 24) (Um.part x 12 12 : Int) (Um.part x 0 12 : Int) = x % 4611686018427387904 := by
  have b1 := Um.part_lt x 30 32
  have b2 := Um.part_lt x 27 3
  have b3 := Um.part_lt x 12 12
  have b4 := Um.part_lt x 0 12
  constructor
  · apply Um.okSt_iff.2
    omega
  · unfold Um.packN
    have t : ∀ k, (x.testBit k).toNat = x / 2 ^ k % 2 := by
      intro k
      rw [Um.testBit_eq_div]
      have : x / 2 ^ k % 2 < 2 := Nat.mod_lt _ (by decide)
      by_cases hh : x / 2 ^ k % 2 = 1
      · simp [hh]
      · have : x / 2 ^ k % 2 = 0 := by omega
        simp [this]
    rw [t, t, t]
    simp only [Int.toNat_natCast]
    unfold Um.part
    omega

set_option maxHeartbeats 2000000 in
theorem walkN (w : World) (x : Nat) (hx : Um.Word x) :
    Calls Try.prog 4 #[.int .u64 x] w fun e w' => e = .returned (.bool true) ∧ Below w.heap.size w w' := by
  have hok : Um.okSt (Um.part x 30 32 : Int) (Um.part x 27 3 : Int) (Um.part x 12 12 : Int) (Um.part x 0 12 : Int) = decide ((Um.part x 30 32 : Int) ≤ 1073741824) := by
    by_cases h : Um.part x 30 32 ≤ 1073741824
    · rw [(parts_sum x h).1]
      simp
      omega
    · have : ¬ ((Um.part x 30 32 : Int) ≤ 1073741824) := by omega
      unfold Um.okSt
      simp [this]
  have hpk : Um.part x 30 32 ≤ 1073741824 → Um.packV (Um.part x 30 32 : Int) (Um.part x 27 3 : Int) (x.testBit 26) (x.testBit 25) (x.testBit 24) (Um.part x 12 12 : Int) (Um.part x 0 12 : Int) = x % 4611686018427387904 := fun h => by
    rw [Um.packV_yes (parts_sum x h).1, (parts_sum x h).2]
  have heq := fun w => eqlStatus 23 (Or.inr rfl) (r := true) (g := (Um.part x 30 32 : Int)) (st := (Um.part x 27 3 : Int)) (b := x.testBit 26) (i := x.testBit 25) (o := x.testBit 24) (n := (Um.part x 12 12 : Int)) (t := (Um.part x 0 12 : Int))
    (g' := (Um.part x 30 32 : Int)) (st' := (Um.part x 27 3 : Int)) (b' := x.testBit 26) (i' := x.testBit 25) (o' := x.testBit 24) (n' := (Um.part x 12 12 : Int)) (t' := (Um.part x 0 12 : Int)) (by simp) w
  have HO := hide hok
  have HP := hide hpk
  clear hok hpk
  go_enter Try.func4, Try.ntmps4
  go_wp2_with fail
  refine (unpack_any _ _ hx).mono ?_
  rintro e w1 ⟨rfl, hb1⟩
  go_wp2_with fail
  refine (pack_any _ _ _ _ _ _ _ _).mono ?_
  rintro e w2 ⟨rfl, hb2⟩
  obtain ⟨hc, hf⟩ := bcell hb2
  have hz2 : w1.heap.size < w2.heap.size := by have := hb2.size; simp at this; omega
  rw [unhide HO]
  have hk0 : ∀ d os, (grow (redrawn w2 d) os).cell? ⟨w1.heap.size, 0, none⟩ = some (.int .i64 (Um.part x 30 32)) := fun d os => cell_regrown (by go_simp) d os
  have hk1 : ∀ d os, (grow (redrawn w2 d) os).cell? ⟨w1.heap.size, 1, none⟩ = some (.int .i64 (Um.part x 27 3)) := fun d os => cell_regrown (by go_simp) d os
  have hk2 : ∀ d os, (grow (redrawn w2 d) os).cell? ⟨w1.heap.size, 2, none⟩ = some (.bool (x.testBit 26)) := fun d os => cell_regrown (by go_simp) d os
  have hk3 : ∀ d os, (grow (redrawn w2 d) os).cell? ⟨w1.heap.size, 3, none⟩ = some (.bool (x.testBit 25)) := fun d os => cell_regrown (by go_simp) d os
  have hk4 : ∀ d os, (grow (redrawn w2 d) os).cell? ⟨w1.heap.size, 4, none⟩ = some (.bool (x.testBit 24)) := fun d os => cell_regrown (by go_simp) d os
  have hk5 : ∀ d os, (grow (redrawn w2 d) os).cell? ⟨w1.heap.size, 5, none⟩ = some (.int .i64 (Um.part x 12 12)) := fun d os => cell_regrown (by go_simp) d os
  have hk6 : ∀ d os, (grow (redrawn w2 d) os).cell? ⟨w1.heap.size, 6, none⟩ = some (.int .i64 (Um.part x 0 12)) := fun d os => cell_regrown (by go_simp) d os
  clear hc hf hz2
  by_cases hg : Um.part x 30 32 ≤ 1073741824
  · have hv := (unhide HP) hg
    generalize Um.packV (Um.part x 30 32 : Int) (Um.part x 27 3 : Int) (x.testBit 26) (x.testBit 25) (x.testBit 24) (Um.part x 12 12 : Int) (Um.part x 0 12 : Int) = v at *
    have hd : decide ((Um.part x 30 32 : Int) ≤ 1073741824) = true := by simp; omega
    have he : ((v : Int) == (x : Int).tmod 4611686018427387904) = true := by
      rw [hv, Int.tmod_eq_emod_of_nonneg (by omega), beq_iff_eq]
      omega
    have he' : ((v : Int) == (x : Int) % 4611686018427387904) = true := by
      rw [hv, beq_iff_eq]
      omega
    clear hv HO HP hg
    go_wp2_with fail
    refine wp_region_quiet_below (by kernel_rfl) (by kernel_rfl) ?_
    repeat (go_big_quiet_step (first
      | (go_at_call 12; exact Calls.regrown_of (alive_any _))
      | (go_at_call 14; exact Calls.regrown_of (refUnpack_any _ _ hx))))
    refine wpQuiet_nil ?_
    intro _ hw'
    obtain ⟨⟨dq, osq⟩, hw''⟩ := hw'
    subst hw''
    go_wp2
    go_ret
    refine ⟨rfl, ?_⟩
    exact ((hb1.alloc hb1.size _).trans (hb2.mono (by simp; have := hb1.size; omega))).trans ((below_regrown w2 dq osq).mono (Nat.le_trans (hb1.alloc hb1.size _).size hb2.size))
  · have hd : decide ((Um.part x 30 32 : Int) ≤ 1073741824) = false := by simp; omega
    clear HO HP hg
    go_wp2_with fail
    refine wp_region_quiet_below (by kernel_rfl) (by kernel_rfl) ?_
    repeat (go_big_quiet_step (first
      | (go_at_call 12; exact Calls.regrown_of (alive_any _))
      | (go_at_call 14; exact Calls.regrown_of (refUnpack_any _ _ hx))))
    refine wpQuiet_nil ?_
    intro _ hw'
    obtain ⟨⟨dq, osq⟩, hw''⟩ := hw'
    subst hw''
    go_wp2
    go_ret
    refine ⟨rfl, ?_⟩
    exact ((hb1.alloc hb1.size _).trans (hb2.mono (by simp; have := hb1.size; omega))).trans ((below_regrown w2 dq osq).mono (Nat.le_trans (hb1.alloc hb1.size _).size hb2.size))

theorem walk (w : World) (a0 : Int) (w0 : (Lit.int .u64 a0).wf = true) :
    Calls Try.prog 4 #[.int .u64 a0] w fun e w' => e = .returned (.bool true) ∧ Below w.heap.size w w' := by
  obtain ⟨x, rfl, hx⟩ := word_of w0
  exact walkN w x hx

set_option maxRecDepth 100000 in
theorem lifted (os : Os) (started : os.Started) (H : Type) (enc : TypeId × Value → H) :
    ReturnsInHanded {} Try.checked os 4 .any (Rows.statusPartsSpec.pre6 enc Try.prog Try.f4 Rows.statusPartsRow.domain false) (Rows.statusPartsSpec.post enc Try.prog Try.f4 false true false false) := by
  refine returnsInHanded_of_change (C := Try.checked) own started (by kernel_rfl) Try.func4
    (ChangeSpec.witness6 (enc := enc) (C := Try.checked) false ⟨#[], #[.int .u64 0], []⟩ 8 (by kernel_rfl) (by kernel_rfl) (by kernel_rfl) (by kernel_rfl)) ?_
  intro W base args ds gs before hval0 hW hcnd _
  have hval : ∀ (j : Nat) t v, Try.f4.params[j]? = some t → args[j]? = some v → Value.okWide Try.prog W .any base t v := hval0
  have hW' := hW
  obtain ⟨p, q, hA0, hV, rfl, hfz, hnd⟩ := hW
  have hA : DataW.TrodAll enc Try.prog W 0 (fun _ => true) true Try.f4.params.toList args.toList ds p := hA0
  rw [Try.params4] at hA hval
  obtain ⟨v0, vs0, d0, ds0, p0, q0, hargs, rfl, rfl, h0, r0⟩ := trodAll_cons hA
  obtain ⟨rfl, rfl, rfl⟩ := trodAll_nil r0
  obtain rfl : args = #[v0] := by cases args; simp_all
  obtain ⟨rfl, rfl⟩ := trodVars_none hV
  have k0 := h0
  have lt0 : ∀ x ∈ p0, x.block < W.heap.size := by obtain ⟨m, hm⟩ := k0; exact DataW.trod_lt m _ _ _ hm
  obtain ⟨a0, rfl, hd0, hp0, w0⟩ := open_int Try.underlying24 (hval 0 24 v0 rfl rfl) h0
  refine (walk W a0 w0).mono fun e W' ⟨he, bel⟩ => ?_
  subst he
  exact ⟨_, rfl, _, _, _, [], _, [], hW', trodAll_mk1 (shut_bool Try.underlying4 _), (trodAll_cons_mk (Below.trod laidOut (by kernel_rfl) (of_decide_eq_true (by kernel_rfl)) k0 bel lt0) trodAll_mk0), rfl, bel.frame _, fun h => by cases h⟩

theorem StatusParts_proved : Rows.StatusPartsSaid :=
  OpenClaim.holds_of_wide 4 Try.f4 rfl rfl rfl rfl rfl rfl rfl ⟨rfl, rfl, rfl, rfl, rfl⟩ rfl rfl rfl rfl rfl (by kernel_rfl) Try.func4 (by kernel_rfl)
    (of_decide_eq_true (by kernel_rfl)) (by unfold Func.isWrapper; first | (rw [if_pos (by decide +kernel)]; kernel_rfl) | (rw [if_neg (by decide +kernel)]; exact ⟨rfl, rfl⟩))
    (fun os started H enc _ => lifted os started H enc)

end Go.Proofs.Ytbelgielncflfaa.statusParts
