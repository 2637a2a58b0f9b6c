/-
  The walk of layer 6's first look: a handful of accesses of a small new memory.
-/
import Derived.Test.YtafnoloamfdanaaStoreF
import Derived.Test.YtafnoloamfdanaaStoreN
namespace Go.Proofs.Ytafnoloamfdanaa
set_option maxRecDepth 100000
open Go.RowKit Go.Sort

def sc0 : Um.Cf := ⟨1, 1, 1, 0, 0⟩
def sm0 : Um.Mm := ⟨fun _ => 0, 0, Um.noT⟩
def sm1 : Um.Mm := Um.mtouch sc0 sm0 4 2 0 0 5
def sm2 : Um.Mm := Um.mtouch sc0 sm1 3 2 0 5 7
def sm3 : Um.Mm := Um.mtouch sc0 sm2 3 2 0 5 8
def sm4 : Um.Mm := Um.mtouch sc0 sm3 1 2 0 0 0
def sm5 : Um.Mm := Um.mtouch sc0 sm4 2 8 0 0 3
def sm6 : Um.Mm := Um.mtouch sc0 sm5 1 8 1 0 0

theorem sc0_n : sc0.n = 8 := by decide +kernel

theorem slit_new (w : World) : Calls Try.prog 8 #[(.agg #[.int .i64 1, .int .i64 1, .int .i64 1, .int .i64 0, .int .u64 0])] w fun e w' => ∃ B C, e = .returned (.tuple #[.pointer (some ⟨B, 0, none⟩), .int .i64 0]) ∧ w.heap.size ≤ B ∧ w.heap.size ≤ C ∧ MemAt w' B C sc0 sm0 ∧ Below w.heap.size w w' :=
  sNew_right sc0 w (by decide +kernel)

theorem slit_no (w : World) : Calls Try.prog 8 #[(.agg #[.int .i64 0, .int .i64 0, .int .i64 0, .int .i64 0, .int .u64 0])] w fun e w' => e = .returned (.tuple #[.pointer none, .int .i64 1]) ∧ Below w.heap.size w w' :=
  sNew_wrong ⟨0, 0, 0, 0, 0⟩ w (by decide +kernel)

theorem slit1 {W : World} {B C : Nat} (h : MemAt W B C sc0 sm0) : Calls Try.prog 21 #[.pointer (some ⟨B, 0, none⟩), (.agg #[.int .i64 2, .int .i64 0]), .int .u64 5] W fun e W' => e = .returned (.int .u64 0) ∧ MemAt W' B C sc0 sm1 ∧ Off B C W W' := by
  have := mAdd_any h 2 0 5 (by unfold Um.Word; omega) (by omega) (by omega) sm1 rfl
  rwa [show sm1.l.old = 0 by decide +kernel] at this

theorem slit2 {W : World} {B C : Nat} (h : MemAt W B C sc0 sm1) : Calls Try.prog 20 #[.pointer (some ⟨B, 0, none⟩), (.agg #[.int .i64 2, .int .i64 0]), .int .u64 5, .int .u64 7] W fun e W' => e = .returned (.bool true) ∧ MemAt W' B C sc0 sm2 ∧ Off B C W W' := by
  have := mSwap_any h 2 0 5 7 (by unfold Um.Word; omega) (by omega) (by omega) sm2 rfl
  rwa [show sm2.l.done = true by decide +kernel] at this

theorem slit3 {W : World} {B C : Nat} (h : MemAt W B C sc0 sm2) : Calls Try.prog 20 #[.pointer (some ⟨B, 0, none⟩), (.agg #[.int .i64 2, .int .i64 0]), .int .u64 5, .int .u64 8] W fun e W' => e = .returned (.bool false) ∧ MemAt W' B C sc0 sm3 ∧ Off B C W W' := by
  have := mSwap_any h 2 0 5 8 (by unfold Um.Word; omega) (by omega) (by omega) sm3 rfl
  rwa [show sm3.l.done = false by decide +kernel] at this

theorem slit4 {W : World} {B C : Nat} (h : MemAt W B C sc0 sm3) : Calls Try.prog 18 #[.pointer (some ⟨B, 0, none⟩), (.agg #[.int .i64 2, .int .i64 0])] W fun e W' => e = .returned (.int .u64 7) ∧ MemAt W' B C sc0 sm4 ∧ Off B C W W' := by
  have := mLoad_any h 2 0 (by omega) (by omega) sm4 rfl
  rwa [show sm4.l.old = 7 by decide +kernel] at this

theorem slit5 {W : World} {B C : Nat} (h : MemAt W B C sc0 sm4) : Calls Try.prog 19 #[.pointer (some ⟨B, 0, none⟩), (.agg #[.int .i64 8, .int .i64 0]), .int .u64 3] W fun e W' => e = .returned (.tuple #[]) ∧ MemAt W' B C sc0 sm5 ∧ Off B C W W' :=
  mStore_any h 8 0 3 (by unfold Um.Word; omega) (by omega) (by omega) sm5 rfl

theorem slit6 {W : World} {B C : Nat} (h : MemAt W B C sc0 sm5) : Calls Try.prog 18 #[.pointer (some ⟨B, 0, none⟩), (.agg #[.int .i64 8, .int .i64 1])] W fun e W' => e = .returned (.int .u64 0) ∧ MemAt W' B C sc0 sm6 ∧ Off B C W W' := by
  have := mLoad_any h 8 1 (by omega) (by omega) sm6 rfl
  rwa [show sm6.l.old = 0 by decide +kernel] at this

theorem slit7 {W : World} {B C : Nat} (h : MemAt W B C sc0 sm6) : Calls Try.prog 22 #[.pointer (some ⟨B, 0, none⟩)] W fun e W' => e = .returned (.slice (some ⟨W.heap.size, 0, none⟩) 8 8) ∧ MemAt W' B C sc0 sm6 ∧ W'.cell? ⟨W.heap.size, 1, none⟩ = some (.int .u64 7) ∧ W'.cell? ⟨W.heap.size, 7, none⟩ = some (.int .u64 3) ∧ W.heap.size < W'.heap.size ∧ Below W.heap.size W W' := by
  refine (mCells_any h).mono ?_
  rintro e W' ⟨rfl, hg, hb⟩
  refine ⟨by rw [sc0_n], h.below hb h.hB h.hC, ?_, ?_, (Array.getElem?_eq_some_iff.1 hg).1, hb⟩
  · rw [row_cell hg 1 (by rw [sc0_n]; omega), show sm6.ws 1 = 7 by decide +kernel]; rfl
  · rw [row_cell hg 7 (by rw [sc0_n]; omega), show sm6.ws 7 = 3 by decide +kernel]; rfl

theorem slit8 {W : World} {B C : Nat} (h : MemAt W B C sc0 sm6) : Calls Try.prog 28 #[.pointer (some ⟨B, 0, none⟩)] W fun e W' => e = .returned (.int .i64 6) ∧ W' = W := by
  have := mCount_any h
  rwa [show sm6.cnt = 6 by decide +kernel] at this

theorem slit9 {W : World} {B C : Nat} (h : MemAt W B C sc0 sm6) : Calls Try.prog 29 #[.pointer (some ⟨B, 0, none⟩)] W fun e W' => e = .returned (.agg #[.int .i64 1, .int .i64 8, .int .i64 1, .int .u64 0, .int .u64 0, .bool false]) ∧ Below W.heap.size W W' := by
  have := mLast_any h
  rwa [show sm6.l.kind = 1 by decide +kernel, show sm6.l.a = 8 by decide +kernel, show sm6.l.b = 1 by decide +kernel, show sm6.l.old = 0 by decide +kernel, show sm6.l.new = 0 by decide +kernel, show sm6.l.done = false by decide +kernel] at this

theorem MemAt.alloc {W : World} {B C : Nat} {c : Um.Cf} {m : Um.Mm} (h : MemAt W B C c m) (o : Obj) : MemAt (W.alloc o) B C c m := h.below ((Below.refl _ _).alloc (Nat.le_refl _) o) h.hB h.hC

set_option maxHeartbeats 2000000 in
theorem sAlive_any (w : World) : Calls Try.prog 11 #[] w fun e w' => e = .returned (.bool true) ∧ Below w.heap.size w w' := by
  have heq1 : ∀ w, (binOp .eql 64 (.agg #[.int .i64 1, .int .i64 8, .int .i64 1, .int .u64 0, .int .u64 0, .bool false]) (.agg #[.int .i64 1, .int .i64 8, .int .i64 1, .int .u64 0, .int .u64 0, .bool false])).run Try.prog w = .ok (.bool true) w := by
    intro w
    go_simp
  go_enter Try.func11, Try.ntmps11
  go_wp2_with fail
  refine (slit_new _).mono ?_
  rintro e w1 ⟨B, C, rfl, hB0, hC0, hM1, hB1⟩
  have HM := hide hM1
  clear hM1
  go_wp2_with fail
  refine (slit_no _).mono ?_
  rintro e w2 ⟨rfl, hb2⟩
  have HM2 := hide ((unhide HM).below hb2 (unhide HM).hB (unhide HM).hC)
  have hB2 := hB1.trans (hb2.mono hB1.size)
  clear HM hb2 hB1
  go_wp2_with fail
  have hM3 := (unhide HM2).alloc (.cells #[.int .i64 2, .int .i64 0] 49)
  have hB3 : Below w.heap.size w (w2.alloc (.cells #[.int .i64 2, .int .i64 0] 49)) := hB2.alloc hB2.size _
  have hS3 : SpAt (w2.alloc (.cells #[.int .i64 2, .int .i64 0] 49)) w2.heap.size 2 0 := spAt_new (heap_alloc_new _ _)
  have nB : w2.heap.size ≠ B := by have := (unhide HM2).hB; omega
  have nC : w2.heap.size ≠ C := by have := (unhide HM2).hC; omega
  refine (slit1 hM3).mono ?_
  clear HM2 hB2
  generalize hz : w2.heap.size = z at *
  generalize w2.alloc (.cells #[.int .i64 2, .int .i64 0] 49) = w3 at *
  clear hz w2
  rintro e w4 ⟨rfl, hM4, hO4⟩
  have hS4 := hS3.off hO4 nB nC
  have hB4 := hB3.trans (hO4.below hB3.size hB0 hC0)
  have HM4 := hide hM4
  clear hM4 hM3 hS3 hB3 hO4
  obtain ⟨_, p4, q4⟩ := id hS4
  go_wp2_with fail
  refine (slit2 (unhide HM4)).mono ?_
  clear p4 q4
  rintro e w5 ⟨rfl, hM5, hO5⟩
  have hS5 := hS4.off hO5 nB nC
  have hB5 := hB4.trans (hO5.below hB4.size hB0 hC0)
  have HM5 := hide hM5
  clear hM5 HM4 hS4 hB4 hO5
  obtain ⟨_, p5, q5⟩ := id hS5
  go_wp2_with fail
  refine (slit3 (unhide HM5)).mono ?_
  clear p5 q5
  rintro e w6 ⟨rfl, hM6, hO6⟩
  have hS6 := hS5.off hO6 nB nC
  have hB6 := hB5.trans (hO6.below hB5.size hB0 hC0)
  have HM6 := hide hM6
  clear hM6 HM5 hS5 hB5 hO6
  obtain ⟨_, p6, q6⟩ := id hS6
  go_wp2_with fail
  refine (slit4 (unhide HM6)).mono ?_
  clear p6 q6
  rintro e w7 ⟨rfl, hM7, hO7⟩
  have hS7 := hS6.off hO7 nB nC
  have hB7 := hB6.trans (hO7.below hB6.size hB0 hC0)
  have HM7 := hide hM7
  clear hM7 HM6 hS6 hB6 hO7
  obtain ⟨_, p7, q7⟩ := id hS7
  go_wp2_with fail
  refine (slit5 (unhide HM7)).mono ?_
  clear p7 q7
  rintro e w8 ⟨rfl, hM8, hO8⟩
  have hS8 := hS7.off hO8 nB nC
  have hB8 := hB7.trans (hO8.below hB7.size hB0 hC0)
  have HM8 := hide hM8
  clear hM8 HM7 hS7 hB7 hO8
  obtain ⟨_, p8, q8⟩ := id hS8
  go_wp2_with fail
  refine (slit6 (unhide HM8)).mono ?_
  clear p8 q8
  rintro e w9 ⟨rfl, hM9, hO9⟩
  have hS9 := hS8.off hO9 nB nC
  have hB9 := hB8.trans (hO9.below hB8.size hB0 hC0)
  have HM9 := hide hM9
  clear hM9 HM8 hS8 hB8 hO9
  clear hS9
  go_wp2_with fail
  refine (slit7 (unhide HM9)).mono ?_
  rintro e w10 ⟨rfl, hM10, k1, k7, hz10, hb10⟩
  have hB10 := hB9.trans (hb10.mono hB9.size)
  have HM10 := hide hM10
  clear hM10 hb10 hB9 HM9
  generalize w9.heap.size = z9 at *
  go_wp2_with fail
  refine (slit8 (unhide HM10)).mono ?_
  rintro e w11 ⟨rfl, rfl⟩
  go_wp2_with fail
  refine (slit9 (unhide HM10)).mono ?_
  rintro e w12 ⟨rfl, hb12⟩
  have hB12 := hB10.trans (hb12.mono hB10.size)
  have l1 := (hb12.cell (p := ⟨z9, 1, none⟩) hz10).trans k1
  have l7 := (hb12.cell (p := ⟨z9, 7, none⟩) hz10).trans k7
  clear k1 k7 hb12 HM10 hB10
  go_wp2
  go_ret
  exact ⟨rfl, hB12⟩

end Go.Proofs.Ytafnoloamfdanaa
