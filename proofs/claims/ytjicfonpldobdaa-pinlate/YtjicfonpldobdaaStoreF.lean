/-
  The walks of a memory's loads, stores, swaps and adds.
-/
import Derived.Test.YtjicfonpldobdaaStoreM
namespace Go.Proofs.Ytjicfonpldobdaa
set_option maxRecDepth 100000
open Go.RowKit Go.Sort

attribute [local go_sem] field_old field_done

set_option maxHeartbeats 1000000 in
theorem mLoad_any {W : World} {B C : Nat} {c : Um.Cf} {m : Um.Mm} (h : MemAt W B C c m) (a b : Int) (hb0 : -9223372036854775808 ≤ b) (hb1 : b ≤ 9223372036854775807) (M : Um.Mm) (hM : M = Um.mtouch c m 1 a b 0 0) :
    Calls Try.prog 12 #[.pointer (some ⟨B, 0, none⟩), (.agg #[.int .i64 a, .int .i64 b])] W fun e W' => e = .returned (.int .u64 (M.l.old : Nat)) ∧ MemAt W' B C c M ∧ Off B C W W' := by
  have hS : Off B C W (W.alloc (.cells #[.int .i64 a, .int .i64 b] 39)) := (Off.refl B C W).alloc _
  have hM1 : MemAt (W.alloc (.cells #[.int .i64 a, .int .i64 b] 39)) B C c m := h.below ((Below.refl _ _).alloc (Nat.le_refl _) _) h.hB h.hC
  have hA := mAccess_any hM1 1 a b 0 0 46 egL (wLoad_any 0 0) hb0 hb1 (by unfold Um.Word; omega) M hM
  clear hM h hM1 hb0 hb1
  go_enter Try.func12, Try.ntmps12
  go_wp2_with fail
  refine hA.mono ?_
  rintro e w1 ⟨rfl, hM1, hO1⟩
  have HM := hide hM1
  have HO := hide (hS.trans hO1)
  clear hM1 hO1 hA hS
  go_wp2
  go_ret
  exact ⟨rfl, unhide HM, unhide HO⟩

set_option maxHeartbeats 1000000 in
theorem mStore_any {W : World} {B C : Nat} {c : Um.Cf} {m : Um.Mm} (h : MemAt W B C c m) (a b : Int) (v : Nat) (hv : Um.Word v) (hb0 : -9223372036854775808 ≤ b) (hb1 : b ≤ 9223372036854775807) (M : Um.Mm) (hM : M = Um.mtouch c m 2 a b 0 v) :
    Calls Try.prog 14 #[.pointer (some ⟨B, 0, none⟩), (.agg #[.int .i64 a, .int .i64 b]), .int .u64 (v : Nat)] W fun e W' => e = .returned (.tuple #[]) ∧ MemAt W' B C c M ∧ Off B C W W' := by
  have hS : Off B C W (W.alloc (.cells #[.int .i64 a, .int .i64 b] 39)) := (Off.refl B C W).alloc _
  have hM1 : MemAt (W.alloc (.cells #[.int .i64 a, .int .i64 b] 39)) B C c m := h.below ((Below.refl _ _).alloc (Nat.le_refl _) _) h.hB h.hC
  have hA := mAccess_any hM1 2 a b 0 v 49 egS (wStore_any 0 v) hb0 hb1 hv M hM
  clear hM h hM1 hb0 hb1
  go_enter Try.func14, Try.ntmps14
  go_wp2_with fail
  refine hA.mono ?_
  rintro e w1 ⟨rfl, hM1, hO1⟩
  have HM := hide hM1
  have HO := hide (hS.trans hO1)
  clear hM1 hO1 hA hS
  go_wp2
  go_end0
  exact ⟨rfl, unhide HM, unhide HO⟩

set_option maxHeartbeats 1000000 in
theorem mSwap_any {W : World} {B C : Nat} {c : Um.Cf} {m : Um.Mm} (h : MemAt W B C c m) (a b : Int) (o v : Nat) (hv : Um.Word v) (hb0 : -9223372036854775808 ≤ b) (hb1 : b ≤ 9223372036854775807) (M : Um.Mm) (hM : M = Um.mtouch c m 3 a b o v) :
    Calls Try.prog 16 #[.pointer (some ⟨B, 0, none⟩), (.agg #[.int .i64 a, .int .i64 b]), .int .u64 (o : Nat), .int .u64 (v : Nat)] W fun e W' => e = .returned (.bool M.l.done) ∧ MemAt W' B C c M ∧ Off B C W W' := by
  have hS : Off B C W (W.alloc (.cells #[.int .i64 a, .int .i64 b] 39)) := (Off.refl B C W).alloc _
  have hM1 : MemAt (W.alloc (.cells #[.int .i64 a, .int .i64 b] 39)) B C c m := h.below ((Below.refl _ _).alloc (Nat.le_refl _) _) h.hB h.hC
  have hA := mAccess_any hM1 3 a b o v 50 egW (wSwap_any o v) hb0 hb1 hv M hM
  clear hM h hM1 hb0 hb1
  go_enter Try.func16, Try.ntmps16
  go_wp2_with fail
  refine hA.mono ?_
  rintro e w1 ⟨rfl, hM1, hO1⟩
  have HM := hide hM1
  have HO := hide (hS.trans hO1)
  clear hM1 hO1 hA hS
  go_wp2
  go_ret
  exact ⟨rfl, unhide HM, unhide HO⟩

set_option maxHeartbeats 1000000 in
theorem mAdd_any {W : World} {B C : Nat} {c : Um.Cf} {m : Um.Mm} (h : MemAt W B C c m) (a b : Int) (v : Nat) (hv : Um.Word v) (hb0 : -9223372036854775808 ≤ b) (hb1 : b ≤ 9223372036854775807) (M : Um.Mm) (hM : M = Um.mtouch c m 4 a b 0 v) :
    Calls Try.prog 18 #[.pointer (some ⟨B, 0, none⟩), (.agg #[.int .i64 a, .int .i64 b]), .int .u64 (v : Nat)] W fun e W' => e = .returned (.int .u64 (M.l.old : Nat)) ∧ MemAt W' B C c M ∧ Off B C W W' := by
  have hS : Off B C W (W.alloc (.cells #[.int .i64 a, .int .i64 b] 39)) := (Off.refl B C W).alloc _
  have hM1 : MemAt (W.alloc (.cells #[.int .i64 a, .int .i64 b] 39)) B C c m := h.below ((Below.refl _ _).alloc (Nat.le_refl _) _) h.hB h.hC
  have hA := mAccess_any hM1 4 a b 0 v 51 egA (wAdd_any 0 v) hb0 hb1 hv M hM
  clear hM h hM1 hb0 hb1
  go_enter Try.func18, Try.ntmps18
  go_wp2_with fail
  refine hA.mono ?_
  rintro e w1 ⟨rfl, hM1, hO1⟩
  have HM := hide hM1
  have HO := hide (hS.trans hO1)
  clear hM1 hO1 hA hS
  go_wp2
  go_ret
  exact ⟨rfl, unhide HM, unhide HO⟩

end Go.Proofs.Ytjicfonpldobdaa
