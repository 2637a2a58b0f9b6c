/-
  The walk of layer 4's first look: a handful of calls at fixed inputs.
-/
import Derived.Test.YtahddfnkodmnmaaTicketB
namespace Go.Proofs.Ytahddfnkodmnmaa
open Go.RowKit

theorem k0lit (w : World) : Calls Try.prog 9 #[.int .i64 2, .int .i64 5] w fun e w' => e = .returned (.tuple #[.int .u64 83, .bool true]) ∧ Below w.heap.size w w' := by
  have h := kMake_any 2 5 w
  rw [show Um.mkN 2 5 = 83 by decide +kernel, show Um.mok 2 5 = true by decide +kernel] at h
  exact h

theorem k1lit (w : World) : Calls Try.prog 9 #[.int .i64 12, .int .i64 0] w fun e w' => e = .returned (.tuple #[.int .u64 0, .bool false]) ∧ Below w.heap.size w w' := by
  have h := kMake_any 12 0 w
  rw [show Um.mkN 12 0 = 0 by decide +kernel, show Um.mok 12 0 = false by decide +kernel] at h
  exact h

theorem k2lit (w : World) : Calls Try.prog 11 #[.int .u64 83] w fun e w' => e = .returned (.tuple #[.int .i64 2, .bool true]) ∧ Below w.heap.size w w' := by
  have h := kSlot_any 83 w (Um.word_iff.2 (by decide))
  rw [show Um.svN 83 = 2 by decide +kernel, show Um.sok 83 = true by decide +kernel] at h
  exact h

theorem k3lit (w : World) : Calls Try.prog 11 #[.int .u64 16] w fun e w' => e = .returned (.tuple #[.int .i64 0, .bool false]) ∧ Below w.heap.size w w' := by
  have h := kSlot_any 16 w (Um.word_iff.2 (by decide))
  rw [show Um.svN 16 = 0 by decide +kernel, show Um.sok 16 = false by decide +kernel] at h
  exact h

theorem k4lit (w : World) : Calls Try.prog 16 #[.int .u64 83, .int .i64 3] w fun e w' => e = .returned (.tuple #[.int .i64 2, .int .i64 5, .bool true]) ∧ Below w.heap.size w w' := by
  have h := kOf_any 83 3 w (Um.word_iff.2 (by decide))
  rw [show Um.osN 83 3 = 2 by decide +kernel, show Um.ogN 83 3 = 5 by decide +kernel, show Um.ook 83 3 = true by decide +kernel] at h
  exact h

theorem k5lit (w : World) : Calls Try.prog 16 #[.int .u64 83, .int .i64 2] w fun e w' => e = .returned (.tuple #[.int .i64 0, .int .i64 0, .bool false]) ∧ Below w.heap.size w w' := by
  have h := kOf_any 83 2 w (Um.word_iff.2 (by decide))
  rw [show Um.osN 83 2 = 0 by decide +kernel, show Um.ogN 83 2 = 0 by decide +kernel, show Um.ook 83 2 = false by decide +kernel] at h
  exact h

theorem k6lit (w : World) : Calls Try.prog 13 #[.int .u64 83] w fun e w' => e = .returned (.int .i64 5) ∧ Below w.heap.size w w' := by
  have h := kGen_any 83 w (Um.word_iff.2 (by decide))
  rw [show Um.tgN 83 = 5 by decide +kernel] at h
  exact h

set_option maxHeartbeats 2000000 in
theorem kAlive_any (w : World) : Calls Try.prog 12 #[] w fun e w' => e = .returned (.bool true) ∧ Below w.heap.size w w' := by
  go_enter Try.func12, Try.ntmps12
  have hB := Below.refl w.heap.size w
  go_wp2_with fail
  refine (k0lit _).mono ?_
  rintro e wk0 ⟨rfl, hbk0⟩
  have hBk0 := hB.trans (hbk0.mono hB.size)
  clear hB hbk0
  go_wp2_with fail
  refine (k1lit _).mono ?_
  rintro e wk1 ⟨rfl, hbk1⟩
  have hBk1 := hBk0.trans (hbk1.mono hBk0.size)
  clear hBk0 hbk1
  go_wp2_with fail
  refine (k2lit _).mono ?_
  rintro e wk2 ⟨rfl, hbk2⟩
  have hBk2 := hBk1.trans (hbk2.mono hBk1.size)
  clear hBk1 hbk2
  go_wp2_with fail
  refine (k3lit _).mono ?_
  rintro e wk3 ⟨rfl, hbk3⟩
  have hBk3 := hBk2.trans (hbk3.mono hBk2.size)
  clear hBk2 hbk3
  go_wp2_with fail
  refine (k4lit _).mono ?_
  rintro e wk4 ⟨rfl, hbk4⟩
  have hBk4 := hBk3.trans (hbk4.mono hBk3.size)
  clear hBk3 hbk4
  go_wp2_with fail
  refine (k5lit _).mono ?_
  rintro e wk5 ⟨rfl, hbk5⟩
  have hBk5 := hBk4.trans (hbk5.mono hBk4.size)
  clear hBk4 hbk5
  go_wp2_with fail
  refine (k6lit _).mono ?_
  rintro e wk6 ⟨rfl, hbk6⟩
  have hBk6 := hBk5.trans (hbk6.mono hBk5.size)
  clear hBk5 hbk6
  go_wp2
  go_ret
  exact ⟨rfl, hBk6⟩

end Go.Proofs.Ytahddfnkodmnmaa
