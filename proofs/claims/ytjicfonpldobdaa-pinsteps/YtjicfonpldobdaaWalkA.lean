/-
  The walks of layer 1's small functions: what each call returns; the world stays.
-/
import Derived.Test.YtjicfonpldobdaaRows
import Derived.Test.YtjicfonpldobdaaMath
import Derived.WalkKit
import Derived.WalkSpells
import Derived.Deep.QuietTactic
import Derived.BigQuiet
namespace Go.Proofs.Ytjicfonpldobdaa
set_option maxRecDepth 100000
open Go.RowKit

theorem hide {p : Prop} (h : p) : Hid p := h
theorem unhide {p : Prop} (h : Hid p) : p := h

theorem ret_u64 {a b : Int} (h : a = b) : Ending.returned (.int .u64 a) = .returned (.int .u64 b) := by rw [h]
theorem ret_i64 {a b : Int} (h : a = b) : Ending.returned (.int .i64 a) = .returned (.int .i64 b) := by rw [h]
theorem ret_bool {a b : Bool} (h : a = b) : Ending.returned (.bool a) = .returned (.bool b) := by rw [h]

theorem ne0 (n : Nat) : ((n : Int) != 0) = (n != 0) := by
  rw [Bool.eq_iff_iff, bne_iff_ne, bne_iff_ne]
  omega

theorem wrap_pow (n : Nat) (h : n < 64) : IntKind.u64.wrap ((2:Int) ^ n) = ((2 ^ n : Nat) : Int) := by
  have h1 : (2 ^ n : Nat) < 2 ^ 64 := Nat.pow_lt_pow_right (by decide) h
  have h2 : ((2:Int) ^ n) = ((2 ^ n : Nat) : Int) := by simp
  have h3 : (2:Nat) ^ 64 = 18446744073709551616 := by decide
  rw [h2, IntKind.wrap_u64]
  clear h2
  generalize (2 ^ n : Nat) = k at *
  omega

theorem mask0 : bits .or .u64 4095 16777216 = ((16781311 : Nat) : Int) := by kernel_rfl
theorem mask1 : bits .or .u64 16773120 33554432 = ((50327552 : Nat) : Int) := by kernel_rfl

theorem wrap_word {n : Nat} (h : Um.Word n) : IntKind.u64.wrap (n : Int) = n := by
  unfold Um.Word at h
  rw [IntKind.wrap_u64]
  omega

theorem div_bit (x n : Nat) (hx : Um.Word x) : ((IntKind.u64.wrap ((x : Int) / 2 ^ n)).tmod 2 == 1) = x.testBit n := by
  have h1 : Um.Word (x / 2 ^ n) := Nat.lt_of_le_of_lt (Nat.div_le_self _ _) hx
  rw [show ((x : Int) / 2 ^ n) = ((x / 2 ^ n : Nat) : Int) by simp, wrap_word h1, Um.testBit_eq_div]
  generalize x / 2 ^ n = k at *
  rw [Bool.eq_iff_iff, beq_iff_eq, decide_eq_true_iff, Int.tmod_eq_emod_of_nonneg (by omega)]
  omega

theorem pow_word {n : Nat} (h : n < 64) : Um.Word (2 ^ n) := Um.word_iff.2 (Nat.pow_lt_pow_right (by decide) h)

theorem wrap64_small (n : Nat) (h : n < 9223372036854775808) : wrap64 (n : Int) = n := by
  unfold wrap64
  omega

theorem div_part (x s n : Nat) (hx : Um.Word x) (hn : n < 63) : wrap64 ((IntKind.u64.wrap ((x : Int) / 2 ^ s)).tmod (2 ^ n)) = (Um.part x s n : Int) := by
  have h1 : Um.Word (x / 2 ^ s) := Nat.lt_of_le_of_lt (Nat.div_le_self _ _) hx
  have h2 : Um.part x s n < 9223372036854775808 := by
    have := Um.part_lt x s n
    have h3 : 2 ^ n < 2 ^ 63 := Nat.pow_lt_pow_right (by decide) hn
    rw [show (2:Nat) ^ 63 = 9223372036854775808 by decide] at h3
    omega
  rw [show ((x : Int) / 2 ^ s) = ((x / 2 ^ s : Nat) : Int) by simp, wrap_word h1]
  have e : Int.tmod ((x / 2 ^ s : Nat) : Int) (2 ^ n) = (Um.part x s n : Int) := by
    rw [Int.tmod_eq_emod_of_nonneg (Int.natCast_nonneg _), show ((2:Int) ^ n) = ((2 ^ n : Nat) : Int) by simp, ← Int.natCast_emod]
    rfl
  rw [e, wrap64_small _ h2]

end Go.Proofs.Ytjicfonpldobdaa
