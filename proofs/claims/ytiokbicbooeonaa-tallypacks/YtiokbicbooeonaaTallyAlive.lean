/-
  The walk of layer 3's first look: a handful of calls at fixed inputs.
-/
import Derived.Test.YtiokbicbooeonaaTallyA
namespace Go.Proofs.Ytiokbicbooeonaa
open Go.RowKit

theorem field_seq (a0 a1 : Value) (w : World) : Sem.run Try.prog (Instr.field 27 (.agg #[a0, a1]) 0) w = .ok a0 w := by
  simp [Instr.field, go_sem, asAgg]

theorem tlit0 (w : World) : Calls Try.prog 9 #[.agg #[.int .u64 5, .int .i64 (-1)]] w fun e w' => e = .returned (.tuple #[.int .u64 80, .bool true]) ∧ Below w.heap.size w w' := by
  have h := tPack_any 5 (-1) w
  rw [show Um.tpack 5 (-1) = 80 by decide +kernel, show Um.tok 5 (-1) = true by decide +kernel] at h
  exact h

theorem tlit1 (w : World) : Calls Try.prog 16 #[.int .u64 80, .int .i64 2] w fun e w' => e = .returned (.tuple #[.int .u64 99, .bool true]) ∧ Below w.heap.size w w' := by
  have h := tNext_any 80 2 w (Um.word_iff.2 (by decide))
  rw [show Um.tnext 80 2 = 99 by decide +kernel, show Um.nok 80 2 = true by decide +kernel] at h
  exact h

theorem tlit2 (w : World) : Calls Try.prog 16 #[.int .u64 99, .int .i64 3] w fun e w' => e = .returned (.tuple #[.int .u64 0, .bool false]) ∧ Below w.heap.size w w' := by
  have h := tNext_any 99 3 w (Um.word_iff.2 (by decide))
  rw [show Um.tnext 99 3 = 0 by decide +kernel, show Um.nok 99 3 = false by decide +kernel] at h
  exact h

theorem tlit3 (w : World) : Calls Try.prog 9 #[.agg #[.int .u64 1099511627776, .int .i64 (-1)]] w fun e w' => e = .returned (.tuple #[.int .u64 0, .bool false]) ∧ Below w.heap.size w w' := by
  have h := tPack_any 1099511627776 (-1) w
  rw [show Um.tpack 1099511627776 (-1) = 0 by decide +kernel, show Um.tok 1099511627776 (-1) = false by decide +kernel] at h
  exact h

theorem tlit4 (w : World) : Calls Try.prog 12 #[.int .u64 99] w fun e w' => e = .returned (.agg #[.int .u64 6, .int .i64 2]) ∧ Below w.heap.size w w' := by
  have h := tUnpack_any 99 w (Um.word_iff.2 (by decide))
  rw [show Um.seqN 99 = 6 by decide +kernel, show Um.penN 99 = 2 by decide +kernel] at h
  exact h

theorem tlit5 (w : World) : Calls Try.prog 13 #[.int .u64 99] w fun e w' => e = .returned (.int .u64 96) ∧ w' = w := by
  have h := tSettled_any 99 w (Um.word_iff.2 (by decide))
  rw [show Um.setlN 99 = 96 by decide +kernel] at h
  exact h

theorem tlit6 (w : World) : Calls Try.prog 18 #[.int .u64 6, .int .u64 5] w fun e w' => e = .returned (.bool false) ∧ w' = w := by
  have h := tPast_any 6 5 w
  rw [show Um.past 6 5 = false by decide +kernel] at h
  exact h

theorem tlit7 (w : World) : Calls Try.prog 18 #[.int .u64 5, .int .u64 5] w fun e w' => e = .returned (.bool true) ∧ w' = w := by
  have h := tPast_any 5 5 w
  rw [show Um.past 5 5 = true by decide +kernel] at h
  exact h

theorem tlit8 (w : World) : Calls Try.prog 18 #[.int .u64 0, .int .u64 5] w fun e w' => e = .returned (.bool false) ∧ w' = w := by
  have h := tPast_any 0 5 w
  rw [show Um.past 0 5 = false by decide +kernel] at h
  exact h

set_option maxHeartbeats 2000000 in
theorem tAlive_any (w : World) : Calls Try.prog 11 #[] w fun e w' => e = .returned (.bool true) ∧ Below w.heap.size w w' := by
  have heq : ∀ w, (binOp .eql 27 (.agg #[.int .u64 6, .int .i64 2]) (.agg #[.int .u64 6, .int .i64 2])).run Try.prog w = .ok (.bool true) w := by
    apply eqlTally _ (Or.inl rfl)
    rfl
  go_enter Try.func11, Try.ntmps11
  go_wp2_with fail
  refine (tlit0 _).mono ?_
  rintro e w0 ⟨rfl, hb0⟩
  go_wp2_with fail
  refine (tlit1 _).mono ?_
  rintro e w1 ⟨rfl, hb1⟩
  have hB1 := hb0.trans (hb1.mono hb0.size)
  clear hb0 hb1
  go_wp2_with fail
  refine (tlit2 _).mono ?_
  rintro e w2 ⟨rfl, hb2⟩
  have hB2 := hB1.trans (hb2.mono hB1.size)
  clear hB1 hb2
  go_wp2_with fail
  refine (tlit3 _).mono ?_
  rintro e w3 ⟨rfl, hb3⟩
  have hB3 := hB2.trans (hb3.mono hB2.size)
  clear hB2 hb3
  go_wp2_with fail
  refine (tlit4 _).mono ?_
  rintro e w4 ⟨rfl, hb4⟩
  have hB4 := hB3.trans (hb4.mono hB3.size)
  clear hB3 hb4
  go_wp2_with fail
  refine (tlit5 _).mono ?_
  rintro e w5 ⟨rfl, rfl⟩
  go_wp2_with fail
  refine (tlit6 _).mono ?_
  rintro e w5 ⟨rfl, rfl⟩
  go_wp2_with fail
  refine (tlit7 _).mono ?_
  rintro e w5 ⟨rfl, rfl⟩
  go_wp2_with fail
  refine (tlit8 _).mono ?_
  rintro e w5 ⟨rfl, rfl⟩
  go_wp2
  go_ret
  exact ⟨rfl, hB4⟩

end Go.Proofs.Ytiokbicbooeonaa
