/-
  The walks of layer 1's small functions: what each call returns; the world stays.
-/
import Derived.Test.YtpklhmaodhaflaaRows
import Derived.Test.YtpklhmaodhaflaaMath
import Derived.WalkKit
import Derived.WalkSpells
import Derived.Deep.QuietTactic
import Derived.BigQuiet
namespace Go.Proofs.Ytpklhmaodhaflaa
open Go.RowKit

theorem hide {p : Prop} (h : p) : Hid p := h
theorem unhide {p : Prop} (h : Hid p) : p := h

theorem ret_u64 {a b : Int} (h : a = b) : Ending.returned (.int .u64 a) = .returned (.int .u64 b) := by rw [h]
theorem ret_i64 {a b : Int} (h : a = b) : Ending.returned (.int .i64 a) = .returned (.int .i64 b) := by rw [h]
theorem ret_bool {a b : Bool} (h : a = b) : Ending.returned (.bool a) = .returned (.bool b) := by rw [h]

theorem ne0 (n : Nat) : ((n : Int) != 0) = (n != 0) := by
  rw [Bool.eq_iff_iff, bne_iff_ne, bne_iff_ne]
  omega

theorem wrap_pow (n : Nat) (h : n < 64) : IntKind.u64.wrap ((2:Int) ^ n) = ((2 ^ n : Nat) : Int) := by
  have h1 : (2 ^ n : Nat) < 2 ^ 64 := Nat.pow_lt_pow_right (by decide) h
  have h2 : ((2:Int) ^ n) = ((2 ^ n : Nat) : Int) := by simp
  have h3 : (2:Nat) ^ 64 = 18446744073709551616 := by decide
  rw [h2, IntKind.wrap_u64]
  clear h2
  generalize (2 ^ n : Nat) = k at *
  omega

theorem mask0 : bits .or .u64 4095 16777216 = ((16781311 : Nat) : Int) := by kernel_rfl
theorem mask1 : bits .or .u64 16773120 33554432 = ((50327552 : Nat) : Int) := by kernel_rfl

theorem wrap_word {n : Nat} (h : Um.Word n) : IntKind.u64.wrap (n : Int) = n := by
  unfold Um.Word at h
  rw [IntKind.wrap_u64]
  omega

theorem div_bit (x n : Nat) (hx : Um.Word x) : ((IntKind.u64.wrap ((x : Int) / 2 ^ n)).tmod 2 == 1) = x.testBit n := by
  have h1 : Um.Word (x / 2 ^ n) := Nat.lt_of_le_of_lt (Nat.div_le_self _ _) hx
  rw [show ((x : Int) / 2 ^ n) = ((x / 2 ^ n : Nat) : Int) by simp, wrap_word h1, Um.testBit_eq_div]
  generalize x / 2 ^ n = k at *
  rw [Bool.eq_iff_iff, beq_iff_eq, decide_eq_true_iff, Int.tmod_eq_emod_of_nonneg (by omega)]
  omega

theorem pow_word {n : Nat} (h : n < 64) : Um.Word (2 ^ n) := Um.word_iff.2 (Nat.pow_lt_pow_right (by decide) h)

set_option maxHeartbeats 400000 in
theorem power_any (a : Int) (w : World) (h0 : 0 ≤ a) (h1 : a < 64) :
    Calls Try.prog 26 #[.int .i64 a] w fun e w' => e = .returned (.int .u64 ((2 ^ a.toNat : Nat) : Int)) ∧ w' = w := by
  go_enter Try.func26, Try.ntmps26
  go_wp2
  go_loop [3, 4] (fun o i => ∃ k : Nat, (k : Int) ≤ a ∧ i = .int .i64 k ∧ o = .int .u64 ((2 ^ k : Nat) : Int)) (fun _ i => (a - intOf i).toNat)
  case atStart => exact ⟨0, h0, rfl, rfl⟩
  case round =>
    obtain ⟨k, hk, rfl, rfl⟩ := hrel
    by_cases hlt : (k : Int) < a
    · go_wp2
      go_round
      case rel =>
        refine ⟨k + 1, by omega, by go_num, ?_⟩
        rw [show (2 : Int) * 2 ^ k = ((2 ^ (k + 1) : Nat) : Int) by rw [Nat.pow_succ]; push_cast; exact Int.mul_comm _ _, wrap_word (pow_word (by omega))]
      case measure => simp [intOf]; omega
    · go_wp2
      go_ret
      refine ⟨ret_u64 ?_, rfl⟩
      rw [show a.toNat = k by omega]

set_option maxHeartbeats 400000 in
theorem bit_any (x : Nat) (a : Int) (w : World) (hx : Um.Word x) (h0 : 0 ≤ a) (h1 : a < 64) :
    Calls Try.prog 23 #[.int .u64 x, .int .i64 a] w fun e w' => e = .returned (.bool (x.testBit a.toNat)) ∧ w' = w := by
  have hp : ((2 ^ a.toNat : Nat) : Int) ≠ 0 := by have := Nat.two_pow_pos a.toNat; omega
  go_enter Try.func23, Try.ntmps23
  go_wp2_with (go_at_call 26; refine (power_any _ _ (by omega) (by omega)).mono ?_; rintro e w' ⟨rfl, rfl⟩)
  go_ret
  refine ⟨ret_bool ?_, rfl⟩
  exact div_bit _ _ hx

set_option maxHeartbeats 400000 in
theorem put_any (x : Nat) (a : Int) (b : Bool) (w : World) (hx : Um.Word x) (h0 : 0 ≤ a) (h1 : a < 64) :
    Calls Try.prog 24 #[.int .u64 x, .int .i64 a, .bool b] w fun e w' => e = .returned (.int .u64 (Um.setN x a.toNat b)) ∧ w' = w := by
  have hw := hx.setN (b := b) (show a.toNat < 64 by omega)
  by_cases hb : x.testBit a.toNat = b
  · have e : Um.setN x a.toNat b = x := Um.setN_self _ _ _ hb
    rw [e]
    have hbb : (x.testBit a.toNat == b) = true := by simp [hb]
    clear hb e hw
    go_enter Try.func24, Try.ntmps24
    go_wp2_with (go_at_call 23; refine (bit_any _ _ _ hx (by omega) (by omega)).mono ?_; rintro e w' ⟨rfl, rfl⟩)
    go_ret
    exact ⟨rfl, rfl⟩
  · have hbb : (x.testBit a.toNat == b) = false := by simp [hb]
    cases b with
    | true =>
      have e : Um.setN x a.toNat true = x + 2 ^ a.toNat := by unfold Um.setN; rw [if_neg hb]; rfl
      rw [e] at hw ⊢
      clear hb e
      go_enter Try.func24, Try.ntmps24
      go_wp2_with (first
        | (go_at_call 23; refine (bit_any _ _ _ hx (by omega) (by omega)).mono ?_; rintro e w' ⟨rfl, rfl⟩)
        | (go_at_call 26; refine (power_any _ _ (by omega) (by omega)).mono ?_; rintro e w' ⟨rfl, rfl⟩))
      go_ret
      refine ⟨ret_u64 ?_, rfl⟩
      rw [show ((x : Int) + 2 ^ a.toNat) = ((x + 2 ^ a.toNat : Nat) : Int) by simp, wrap_word hw]
    | false =>
      have hle : 2 ^ a.toNat ≤ x := Um.pow_le_of_testBit _ _ (by simpa using hb)
      have e : Um.setN x a.toNat false = x - 2 ^ a.toNat := by unfold Um.setN; rw [if_neg hb]; rfl
      rw [e] at hw ⊢
      clear hb e
      go_enter Try.func24, Try.ntmps24
      go_wp2_with (first
        | (go_at_call 23; refine (bit_any _ _ _ hx (by omega) (by omega)).mono ?_; rintro e w' ⟨rfl, rfl⟩)
        | (go_at_call 26; refine (power_any _ _ (by omega) (by omega)).mono ?_; rintro e w' ⟨rfl, rfl⟩))
      go_ret
      refine ⟨ret_u64 ?_, rfl⟩
      rw [show ((x : Int) - 2 ^ a.toNat) = ((x - 2 ^ a.toNat : Nat) : Int) by rw [Int.ofNat_sub hle]; simp, wrap_word hw]

theorem wrap64_small (n : Nat) (h : n < 9223372036854775808) : wrap64 (n : Int) = n := by
  unfold wrap64
  omega

theorem div_part (x s n : Nat) (hx : Um.Word x) (hn : n < 63) : wrap64 ((IntKind.u64.wrap ((x : Int) / 2 ^ s)).tmod (2 ^ n)) = (Um.part x s n : Int) := by
  have h1 : Um.Word (x / 2 ^ s) := Nat.lt_of_le_of_lt (Nat.div_le_self _ _) hx
  have h2 : Um.part x s n < 9223372036854775808 := by
    have := Um.part_lt x s n
    have h3 : 2 ^ n < 2 ^ 63 := Nat.pow_lt_pow_right (by decide) hn
    rw [show (2:Nat) ^ 63 = 9223372036854775808 by decide] at h3
    omega
  rw [show ((x : Int) / 2 ^ s) = ((x / 2 ^ s : Nat) : Int) by simp, wrap_word h1]
  have e : Int.tmod ((x / 2 ^ s : Nat) : Int) (2 ^ n) = (Um.part x s n : Int) := by
    rw [Int.tmod_eq_emod_of_nonneg (Int.natCast_nonneg _), show ((2:Int) ^ n) = ((2 ^ n : Nat) : Int) by simp, ← Int.natCast_emod]
    rfl
  rw [e, wrap64_small _ h2]

end Go.Proofs.Ytpklhmaodhaflaa
