/-
  The walk of layer 5's first look: a handful of calls at fixed inputs.
-/
import Derived.Test.YtbbleemonhecjaaChartB
namespace Go.Proofs.Ytbbleemonhecjaa
open Go.RowKit Go.Sort

/-- a world's size lies in the block B -/
def CfgAt (w : World) (B : Nat) (t s k g : Int) (q : Nat) : Prop :=
  B < w.heap.size ∧ w.cell? ⟨B, 0, none⟩ = some (.int .i64 t) ∧ w.cell? ⟨B, 1, none⟩ = some (.int .i64 s) ∧ w.cell? ⟨B, 2, none⟩ = some (.int .i64 k) ∧ w.cell? ⟨B, 3, none⟩ = some (.int .i64 g) ∧ w.cell? ⟨B, 4, none⟩ = some (.int .u64 q)

theorem CfgAt.below {w w' : World} {B : Nat} {t s k g : Int} {q : Nat} (h : CfgAt w B t s k g q) (b : Below w.heap.size w w') : CfgAt w' B t s k g q :=
  ⟨Nat.lt_of_lt_of_le h.1 b.size, (b.cell (p := ⟨B, 0, none⟩) h.1).trans h.2.1, (b.cell (p := ⟨B, 1, none⟩) h.1).trans h.2.2.1, (b.cell (p := ⟨B, 2, none⟩) h.1).trans h.2.2.2.1, (b.cell (p := ⟨B, 3, none⟩) h.1).trans h.2.2.2.2.1, (b.cell (p := ⟨B, 4, none⟩) h.1).trans h.2.2.2.2.2⟩

theorem clit0 (w : World) : Calls Try.prog 10 #[(.agg #[.int .i64 2, .int .i64 3, .int .i64 2, .int .i64 9, .int .u64 9])] w fun e w' => e = .returned (.bool true) ∧ Below w.heap.size w w' := by
  have h := cRight_any 2 3 2 9 9 w
  rw [show Um.rt 2 3 2 9 9 = true by decide +kernel] at h
  exact h

theorem clit1 (w : World) : Calls Try.prog 10 #[(.agg #[.int .i64 0, .int .i64 0, .int .i64 0, .int .i64 0, .int .u64 0])] w fun e w' => e = .returned (.bool false) ∧ Below w.heap.size w w' := by
  have h := cRight_any 0 0 0 0 0 w
  rw [show Um.rt 0 0 0 0 0 = false by decide +kernel] at h
  exact h

theorem clit2 (w : World) : Calls Try.prog 12 #[(.agg #[.int .i64 2, .int .i64 3, .int .i64 2, .int .i64 9, .int .u64 9])] w fun e w' => e = .returned (.int .i64 18) ∧ Below w.heap.size w w' := by
  have h := cLen_any 2 3 2 9 9 w
  rw [show Um.clen (Um.rt 2 3 2 9 9) 2 3 2 = 18 by decide +kernel] at h
  exact h

theorem clit3 (w : World) : Calls Try.prog 14 #[(.agg #[.int .i64 2, .int .i64 3, .int .i64 2, .int .i64 9, .int .u64 9]), (.agg #[.int .i64 4, .int .i64 1])] w fun e w' => e = .returned (.int .i64 8) ∧ Below w.heap.size w w' := by
  have h := cCell_any 2 3 2 9 9 4 1 w (by decide) (by decide)
  rw [show Um.cellN (Um.rt 2 3 2 9 9) 2 3 2 4 1 = 8 by decide +kernel] at h
  exact h

theorem clit4 (w : World) : Calls Try.prog 14 #[(.agg #[.int .i64 2, .int .i64 3, .int .i64 2, .int .i64 9, .int .u64 9]), (.agg #[.int .i64 8, .int .i64 1])] w fun e w' => e = .returned (.int .i64 17) ∧ Below w.heap.size w w' := by
  have h := cCell_any 2 3 2 9 9 8 1 w (by decide) (by decide)
  rw [show Um.cellN (Um.rt 2 3 2 9 9) 2 3 2 8 1 = 17 by decide +kernel] at h
  exact h

theorem clit5 (w : World) : Calls Try.prog 14 #[(.agg #[.int .i64 2, .int .i64 3, .int .i64 2, .int .i64 9, .int .u64 9]), (.agg #[.int .i64 8, .int .i64 2])] w fun e w' => e = .returned (.int .i64 (-1)) ∧ Below w.heap.size w w' := by
  have h := cCell_any 2 3 2 9 9 8 2 w (by decide) (by decide)
  rw [show Um.cellN (Um.rt 2 3 2 9 9) 2 3 2 8 2 = -1 by decide +kernel] at h
  exact h

theorem clit6 (w : World) : Calls Try.prog 16 #[(.agg #[.int .i64 2, .int .i64 3, .int .i64 2, .int .i64 9, .int .u64 9]), .int .i64 3] w fun e w' => e = .returned ((.agg #[.int .i64 3, .int .i64 1])) ∧ Below w.heap.size w w' := by
  have h := cAt_any 2 3 2 9 9 3 w (by decide)
  rw [show Um.atK (Um.rt 2 3 2 9 9) 2 3 2 3 = 3 by decide +kernel, show Um.atO (Um.rt 2 3 2 9 9) 2 3 2 3 = 1 by decide +kernel] at h
  exact h

theorem clit7 (w : World) : Calls Try.prog 16 #[(.agg #[.int .i64 2, .int .i64 3, .int .i64 2, .int .i64 9, .int .u64 9]), .int .i64 18] w fun e w' => e = .returned ((.agg #[.int .i64 0, .int .i64 0])) ∧ Below w.heap.size w w' := by
  have h := cAt_any 2 3 2 9 9 18 w (by decide)
  rw [show Um.atK (Um.rt 2 3 2 9 9) 2 3 2 18 = 0 by decide +kernel, show Um.atO (Um.rt 2 3 2 9 9) 2 3 2 18 = 0 by decide +kernel] at h
  exact h

theorem clit8 (w : World) : Calls Try.prog 14 #[(.agg #[.int .i64 2, .int .i64 3, .int .i64 2, .int .i64 9, .int .u64 9]), (.agg #[.int .i64 2, .int .i64 0])] w fun e w' => e = .returned (.int .i64 1) ∧ Below w.heap.size w w' := by
  have h := cCell_any 2 3 2 9 9 2 0 w (by decide) (by decide)
  rw [show Um.cellN (Um.rt 2 3 2 9 9) 2 3 2 2 0 = 1 by decide +kernel] at h
  exact h

set_option maxHeartbeats 2000000 in
theorem cAlive_any (w : World) : Calls Try.prog 9 #[] w fun e w' => e = .returned (.bool true) ∧ Below w.heap.size w w' := by
  have heq1 : ∀ w, (binOp .eql 29 (.agg #[.int .i64 3, .int .i64 1]) (.agg #[.int .i64 3, .int .i64 1])).run Try.prog w = .ok (.bool true) w := eqlSpot _ (Or.inl rfl) rfl
  have heq2 : ∀ w, (binOp .eql 29 (.agg #[.int .i64 0, .int .i64 0]) (.agg #[.int .i64 0, .int .i64 0])).run Try.prog w = .ok (.bool true) w := eqlSpot _ (Or.inl rfl) rfl
  go_enter Try.func9, Try.ntmps9
  go_wp2_with fail
  refine (clit0 _).mono ?_
  rintro e w1 ⟨rfl, hb1⟩
  have K1 : CfgAt w1 w.heap.size 2 3 2 9 9 := CfgAt.below ⟨by simp, by go_simp, by go_simp, by go_simp, by go_simp, by go_simp⟩ hb1
  have hB1 : Below w.heap.size w w1 := by
    refine Below.trans ?_ (hb1.mono (by simp))
    repeat first | exact Below.refl _ _ | refine Below.setCell ?_ (by simp) _ | refine Below.alloc ?_ (by simp) _
  clear hb1
  obtain ⟨s1, a10, a11, a12, a13, a14⟩ := id K1
  go_wp2_with fail
  refine (clit1 _).mono ?_
  rintro e w2 ⟨rfl, hb2⟩
  have K2 := K1.below hb2
  have hB2 := hB1.trans (hb2.mono hB1.size)
  clear hb2 K1 hB1 s1 a10 a11 a12 a13 a14
  obtain ⟨s2, a20, a21, a22, a23, a24⟩ := id K2
  go_wp2_with fail
  refine (clit2 _).mono ?_
  rintro e w3 ⟨rfl, hb3⟩
  have K3 := K2.below hb3
  have hB3 := hB2.trans (hb3.mono hB2.size)
  clear hb3 K2 hB2 s2 a20 a21 a22 a23 a24
  obtain ⟨s3, a30, a31, a32, a33, a34⟩ := id K3
  go_wp2_with fail
  refine (clit3 _).mono ?_
  rintro e w4 ⟨rfl, hb4⟩
  have K4 := K3.below hb4
  have hB4 := hB3.trans (hb4.mono hB3.size)
  clear hb4 K3 hB3 s3 a30 a31 a32 a33 a34
  obtain ⟨s4, a40, a41, a42, a43, a44⟩ := id K4
  go_wp2_with fail
  refine (clit4 _).mono ?_
  rintro e w5 ⟨rfl, hb5⟩
  have K5 := K4.below hb5
  have hB5 := hB4.trans (hb5.mono hB4.size)
  clear hb5 K4 hB4 s4 a40 a41 a42 a43 a44
  obtain ⟨s5, a50, a51, a52, a53, a54⟩ := id K5
  go_wp2_with fail
  refine (clit5 _).mono ?_
  rintro e w6 ⟨rfl, hb6⟩
  have K6 := K5.below hb6
  have hB6 := hB5.trans (hb6.mono hB5.size)
  clear hb6 K5 hB5 s5 a50 a51 a52 a53 a54
  obtain ⟨s6, a60, a61, a62, a63, a64⟩ := id K6
  go_wp2_with fail
  refine (clit6 _).mono ?_
  rintro e w7 ⟨rfl, hb7⟩
  have K7 := K6.below hb7
  have hB7 := hB6.trans (hb7.mono hB6.size)
  clear hb7 K6 hB6 s6 a60 a61 a62 a63 a64
  obtain ⟨s7, a70, a71, a72, a73, a74⟩ := id K7
  go_wp2_with fail
  refine (clit7 _).mono ?_
  rintro e w8 ⟨rfl, hb8⟩
  have K8 := K7.below hb8
  have hB8 := hB7.trans (hb8.mono hB7.size)
  clear hb8 K7 hB7 s7 a70 a71 a72 a73 a74
  obtain ⟨s8, a80, a81, a82, a83, a84⟩ := id K8
  go_wp2_with fail
  refine (clit8 _).mono ?_
  rintro e w9 ⟨rfl, hb9⟩
  have K9 := K8.below hb9
  have hB9 := hB8.trans (hb9.mono hB8.size)
  clear hb9 K8 hB8 s8 a80 a81 a82 a83 a84
  go_wp2
  go_ret
  exact ⟨rfl, hB9⟩

end Go.Proofs.Ytbbleemonhecjaa
