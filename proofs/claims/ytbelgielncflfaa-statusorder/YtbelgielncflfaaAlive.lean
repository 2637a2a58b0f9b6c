/-
  The walk of the statements' own first look: a handful of calls at fixed inputs.
-/
import Derived.Test.YtbelgielncflfaaWalkD
import Derived.Test.YtbelgielncflfaaWalkE
namespace Go.Proofs.Ytbelgielncflfaa
open Go.RowKit
attribute [local go_sem] alloc_drewN setCell_drewN

theorem field_state (a0 a1 a2 a3 a4 a5 a6 : Value) (w : World) : Sem.run Try.prog (Instr.field 27 (.agg #[a0, a1, a2, a3, a4, a5, a6]) 1) w = .ok a1 w := by
  simp [Instr.field, go_sem, asAgg]
attribute [local go_sem] field_state

theorem lit0 (w : World) : Calls Try.prog 10 #[.agg #[.int .i64 1, .int .i64 2, .bool false, .bool false, .bool false, .int .i64 0, .int .i64 4]] w fun e w' => e = .returned (.tuple #[.int .u64 1342177284, .bool true]) ∧ Below w.heap.size w w' := by
  have h := pack_any 1 2 false false false 0 4 w
  rw [show Um.packV 1 2 false false false 0 4 = 1342177284 by decide +kernel, show Um.okSt 1 2 0 4 = true by decide +kernel] at h
  exact h

theorem lit1 (w : World) : Calls Try.prog 10 #[.agg #[.int .i64 0, .int .i64 0, .bool false, .bool false, .bool false, .int .i64 0, .int .i64 4096]] w fun e w' => e = .returned (.tuple #[.int .u64 0, .bool false]) ∧ Below w.heap.size w w' := by
  have h := pack_any 0 0 false false false 0 4096 w
  rw [show Um.packV 0 0 false false false 0 4096 = 0 by decide +kernel, show Um.okSt 0 0 0 4096 = false by decide +kernel] at h
  exact h

theorem lit2 (w : World) : Calls Try.prog 17 #[.int .u64 0, .int .i64 1, .int .i64 0] w fun e w' => e = .returned (.int .u64 4096) ∧ w' = w := by
  have h := with_any 0 1 0 w (Um.word_iff.2 (by decide))
  rw [show Um.withN 0 1 0 = 4096 by decide +kernel] at h
  exact h

theorem lit3 (w : World) : Calls Try.prog 13 #[.int .u64 1342177284] w fun e w' => e = .returned (.agg #[.int .i64 1, .int .i64 2, .bool false, .bool false, .bool false, .int .i64 0, .int .i64 4]) ∧ Below w.heap.size w w' := by
  have h := unpack_any 1342177284 w (Um.word_iff.2 (by decide))
  rw [show Um.part 1342177284 30 32 = 1 by decide +kernel, show Um.part 1342177284 27 3 = 2 by decide +kernel, show Um.part 1342177284 12 12 = 0 by decide +kernel, show Um.part 1342177284 0 12 = 4 by decide +kernel,
    show Nat.testBit 1342177284 26 = false by decide +kernel, show Nat.testBit 1342177284 25 = false by decide +kernel, show Nat.testBit 1342177284 24 = false by decide +kernel] at h
  exact h

theorem lit4 (w : World) : Calls Try.prog 23 #[.int .u64 4096, .int .i64 0, .bool true] w fun e w' => e = .returned (.int .u64 33554432) ∧ w' = w := by
  have h := drop_any 4096 0 true w (Um.word_iff.2 (by decide))
  rw [show Um.dropN 4096 0 true = 33554432 by decide +kernel] at h
  exact h

theorem lit5 (w : World) : Calls Try.prog 23 #[.int .u64 4096, .int .i64 0, .bool false] w fun e w' => e = .returned (.int .u64 0) ∧ w' = w := by
  have h := drop_any 4096 0 false w (Um.word_iff.2 (by decide))
  rw [show Um.dropN 4096 0 false = 0 by decide +kernel] at h
  exact h

theorem lit6 (w : World) : Calls Try.prog 18 #[.int .u64 4096, .int .i64 1, .int .i64 0] w fun e w' => e = .returned (.bool true) ∧ w' = w := by
  have h := has_any 4096 1 0 w (Um.word_iff.2 (by decide))
  rw [show Um.hasN 4096 1 0 = true by decide +kernel] at h
  exact h

theorem lit7 (w : World) : Calls Try.prog 18 #[.int .u64 4096, .int .i64 0, .int .i64 0] w fun e w' => e = .returned (.bool false) ∧ w' = w := by
  have h := has_any 4096 0 0 w (Um.word_iff.2 (by decide))
  rw [show Um.hasN 4096 0 0 = false by decide +kernel] at h
  exact h

theorem lit8 (w : World) : Calls Try.prog 21 #[.int .u64 33554432, .int .i64 1] w fun e w' => e = .returned (.bool true) ∧ ∃ n, w' = w.drewN n := by
  have h := any_any 33554432 1 w (Um.word_iff.2 (by decide))
  rw [show Um.anyN 33554432 1 = true by decide +kernel] at h
  exact h

theorem lit9 (w : World) : Calls Try.prog 21 #[.int .u64 4096, .int .i64 0] w fun e w' => e = .returned (.bool false) ∧ ∃ n, w' = w.drewN n := by
  have h := any_any 4096 0 w (Um.word_iff.2 (by decide))
  rw [show Um.anyN 4096 0 = false by decide +kernel] at h
  exact h

theorem lit10 (w : World) : Calls Try.prog 15 #[.int .u64 0, .int .i64 6, .bool true] w fun e w' => e = .returned (.int .u64 872415232) ∧ w' = w := by
  have h := move_any 0 6 true w (Um.word_iff.2 (by decide))
  rw [show Um.moveN 0 (6 % 8 : Int).toNat true = 872415232 by decide +kernel] at h
  exact h

set_option maxHeartbeats 1000000 in
theorem alive_any (w : World) : Calls Try.prog 12 #[] w fun e w' => e = .returned (.bool true) ∧ Below w.heap.size w w' := by
  go_enter Try.func12, Try.ntmps12
  go_wp2_with fail
  refine (lit0 _).mono ?_
  rintro e w0 ⟨rfl, hb0⟩
  go_wp2_with fail
  refine (lit1 _).mono ?_
  rintro e w1 ⟨rfl, hb1⟩
  go_wp2_with fail
  refine (lit2 _).mono ?_
  rintro e w2 ⟨rfl, rfl⟩
  go_wp2_with fail
  refine (lit3 _).mono ?_
  rintro e w3 ⟨rfl, hb3⟩
  go_wp2_with fail
  refine (lit4 _).mono ?_
  rintro e w4 ⟨rfl, rfl⟩
  go_wp2_with fail
  refine (lit5 _).mono ?_
  rintro e w5 ⟨rfl, rfl⟩
  go_wp2_with fail
  refine (lit6 _).mono ?_
  rintro e w6 ⟨rfl, rfl⟩
  go_wp2_with fail
  refine (lit7 _).mono ?_
  rintro e w7 ⟨rfl, rfl⟩
  go_wp2_with fail
  refine (lit8 _).mono ?_
  rintro e w8 ⟨rfl, n8, rfl⟩
  go_wp2_with fail
  refine (lit9 _).mono ?_
  rintro e w9 ⟨rfl, n9, rfl⟩
  go_wp2_with fail
  refine (lit10 _).mono ?_
  rintro e w10 ⟨rfl, rfl⟩
  go_wp2
  go_ret
  refine ⟨rfl, ?_⟩
  exact below_drewN ((hb0.trans (hb1.mono hb0.size)).trans (hb3.mono (Nat.le_trans hb0.size hb1.size))) _

end Go.Proofs.Ytbelgielncflfaa
