/-
  The walk of layer 2's first look: a handful of calls at fixed inputs.
-/
import Derived.Test.YtpklhmaodhaflaaMarkD
namespace Go.Proofs.Ytpklhmaodhaflaa
open Go.RowKit Go.Shelf

theorem mlit0 (w : World) : Calls Try.prog 10 #[.int .u64 1, .int .i64 1, .int .i64 1] w fun e w' => e = .returned (.int .u64 8193) ∧ w' = w := by
  have h := mWith_any 1 1 1 w (Um.word_iff.2 (by decide))
  rw [show Um.withN 1 1 1 = 8193 by decide +kernel] at h
  exact h

theorem mlit1 (w : World) : Calls Try.prog 12 #[.int .u64 8193, .int .i64 0, .int .i64 0] w fun e w' => e = .returned (.bool true) ∧ w' = w := by
  have h := mHas_any 8193 0 0 w (Um.word_iff.2 (by decide))
  rw [show Um.hasN 8193 0 0 = true by decide +kernel] at h
  exact h

theorem mlit2 (w : World) : Calls Try.prog 12 #[.int .u64 8193, .int .i64 1, .int .i64 1] w fun e w' => e = .returned (.bool true) ∧ w' = w := by
  have h := mHas_any 8193 1 1 w (Um.word_iff.2 (by decide))
  rw [show Um.hasN 8193 1 1 = true by decide +kernel] at h
  exact h

theorem mlit3 (w : World) : Calls Try.prog 12 #[.int .u64 8193, .int .i64 0, .int .i64 1] w fun e w' => e = .returned (.bool false) ∧ w' = w := by
  have h := mHas_any 8193 0 1 w (Um.word_iff.2 (by decide))
  rw [show Um.hasN 8193 0 1 = false by decide +kernel] at h
  exact h

theorem mlit4 (w : World) : Calls Try.prog 18 #[.int .u64 8197, .int .i64 0] w fun e w' => ∃ v, e = .returned v ∧ IsRow w' v [0, 2] ∧ Below w.heap.size w w' := by
  refine (mSlots_any 8197 0 w (Um.word_iff.2 (by decide))).mono ?_
  rintro e w' ⟨v, rfl, hr, hb⟩
  have h := isRow_of_owns hr
  rw [show Um.slotsN 8197 0 = [0, 2] by decide +kernel] at h
  exact ⟨v, rfl, h, hb⟩

theorem mlit5 (w : World) : Calls Try.prog 20 #[.int .u64 8197, .int .i64 0, .int .i64 2] w fun e w' => ∃ v, e = .returned v ∧ IsRow w' v [0] ∧ Below w.heap.size w w' := by
  refine (mOthers_any 8197 0 2 w (Um.word_iff.2 (by decide))).mono ?_
  rintro e w' ⟨v, rfl, hr, hb⟩
  have h := isRow_of_owns hr
  rw [show Um.othersN 8197 0 2 = [0] by decide +kernel] at h
  exact ⟨v, rfl, h, hb⟩

theorem mlit6 (w : World) : Calls Try.prog 15 #[.int .u64 8193, .int .i64 1] w fun e w' => e = .returned (.int .u64 1) ∧ w' = w := by
  have h := mDrop_any 8193 1 w (Um.word_iff.2 (by decide))
  rw [show Um.dropN 8193 1 false = 1 by decide +kernel] at h
  exact h

theorem lit_row2 (w : World) (x y : Int) : IsRow (w.alloc (.cells #[.int .i64 x, .int .i64 y] 3)) (.slice (some ⟨w.heap.size, 0, none⟩) 2 2) [x, y] := by
  refine .inr ⟨_, 0, 2, rfl, by simp, by unfold maxLen; omega, by simp, fun j hj => ?_⟩
  have hn := World.alloc_heap_new w (.cells #[.int .i64 x, .int .i64 y] 3)
  match j, hj with
  | 0, _ => (unfold World.cell?; dsimp only; rw [hn]; rfl)
  | 1, _ => (unfold World.cell?; dsimp only; rw [hn]; rfl)

theorem lit_row1 (w : World) (x : Int) : IsRow (w.alloc (.cells #[.int .i64 x] 3)) (.slice (some ⟨w.heap.size, 0, none⟩) 1 1) [x] := by
  refine .inr ⟨_, 0, 1, rfl, by simp, by unfold maxLen; omega, by simp, fun j hj => ?_⟩
  have hn := World.alloc_heap_new w (.cells #[.int .i64 x] 3)
  match j, hj with
  | 0, _ => (unfold World.cell?; dsimp only; rw [hn]; rfl)

theorem IsRow.alloc {W : World} {v : Value} {xs : List Int} (h : IsRow W v xs) (o : Obj) : IsRow (W.alloc o) v xs := h.below ((Below.refl W.heap.size W).alloc (Nat.le_refl _) o) (Nat.le_refl _)

set_option maxHeartbeats 2000000 in
theorem mAlive_any (w : World) : Calls Try.prog 11 #[] w fun e w' => e = .returned (.bool true) ∧ Below w.heap.size w w' := by
  go_enter Try.func11, Try.ntmps11
  go_wp2_with fail
  refine (mlit0 _).mono ?_
  rintro e w0 ⟨rfl, rfl⟩
  go_wp2_with fail
  refine (mlit1 _).mono ?_
  rintro e w0 ⟨rfl, rfl⟩
  go_wp2_with fail
  refine (mlit2 _).mono ?_
  rintro e w0 ⟨rfl, rfl⟩
  go_wp2_with fail
  refine (mlit3 _).mono ?_
  rintro e w0 ⟨rfl, rfl⟩
  go_wp2_with fail
  refine (mlit4 _).mono ?_
  rintro e w1 ⟨v1, rfl, hr1, hb1⟩
  go_wp2_with fail
  refine (mrSame_any _ [0, 2] (by simp) _ _ (hr1.alloc _) (lit_row2 _ _ _)).mono ?_
  rintro e w2 ⟨rfl, hb2⟩
  have hB2 : Below w0.heap.size w0 w2 := (hb1.alloc hb1.size _).trans (hb2.mono (by have := hb1.size; simp; omega))
  clear hr1 hb1 hb2
  go_wp2_with fail
  refine (mlit5 _).mono ?_
  rintro e w3 ⟨v3, rfl, hr3, hb3⟩
  go_wp2_with fail
  refine (mrSame_any _ [0] (by simp) _ _ (hr3.alloc _) (lit_row1 _ _)).mono ?_
  rintro e w4 ⟨rfl, hb4⟩
  have hB3 := hB2.trans (hb3.mono hB2.size)
  have hB4 : Below w0.heap.size w0 w4 := (hB3.alloc hB3.size _).trans (hb4.mono (by have := hB3.size; simp; omega))
  clear hr3 hb3 hb4
  go_wp2_with fail
  refine (mlit6 _).mono ?_
  rintro e w5 ⟨rfl, rfl⟩
  go_wp2
  go_ret
  exact ⟨rfl, hB4⟩

end Go.Proofs.Ytpklhmaodhaflaa
