/-
  The walks of layer 1's small functions: what each call returns; the world stays.
-/
import Derived.Test.YtbelgielncflfaaRows
import Derived.Test.YtbelgielncflfaaMath
import Derived.WalkKit
import Derived.WalkSpells
import Derived.Deep.QuietTactic
import Derived.BigQuiet
namespace Go.Proofs.Ytbelgielncflfaa
open Go.RowKit

theorem hide {p : Prop} (h : p) : Hid p := h
theorem unhide {p : Prop} (h : Hid p) : p := h

theorem ret_u64 {a b : Int} (h : a = b) : Ending.returned (.int .u64 a) = .returned (.int .u64 b) := by rw [h]
theorem ret_i64 {a b : Int} (h : a = b) : Ending.returned (.int .i64 a) = .returned (.int .i64 b) := by rw [h]
theorem ret_bool {a b : Bool} (h : a = b) : Ending.returned (.bool a) = .returned (.bool b) := by rw [h]

theorem ne0 (n : Nat) : ((n : Int) != 0) = (n != 0) := by
  rw [Bool.eq_iff_iff, bne_iff_ne, bne_iff_ne]
  omega

theorem wrap_pow (n : Nat) (h : n < 64) : IntKind.u64.wrap ((2:Int) ^ n) = ((2 ^ n : Nat) : Int) := by
  have h1 : (2 ^ n : Nat) < 2 ^ 64 := Nat.pow_lt_pow_right (by decide) h
  have h2 : ((2:Int) ^ n) = ((2 ^ n : Nat) : Int) := by simp
  have h3 : (2:Nat) ^ 64 = 18446744073709551616 := by decide
  rw [h2, IntKind.wrap_u64]
  clear h2
  generalize (2 ^ n : Nat) = k at *
  omega

set_option maxHeartbeats 400000 in
theorem ones_any (a : Int) (w : World) (h : 0 ≤ a) (h2 : a < 64) :
    Calls Try.prog 26 #[.int .i64 a] w fun e w' => e = .returned (.int .u64 ((2 ^ a.toNat - 1 : Nat) : Int)) ∧ w' = w := by
  go_enter Try.func26, Try.ntmps26
  go_wp2
  go_ret
  refine ⟨ret_u64 ?_, rfl⟩
  rw [wrap_pow _ (by omega), IntKind.wrap_u64]
  have h1 : (2 ^ a.toNat : Nat) < 2 ^ 64 := Nat.pow_lt_pow_right (by decide) (by omega)
  have h3 : (2:Nat) ^ 64 = 18446744073709551616 := by decide
  have hp := Nat.two_pow_pos a.toNat
  generalize (2 ^ a.toNat : Nat) = k at *
  omega

set_option maxHeartbeats 400000 in
theorem flag_any (b : Bool) (w : World) :
    Calls Try.prog 27 #[.bool b] w fun e w' => e = .returned (.int .u64 (b.toNat : Int)) ∧ w' = w := by
  cases b
  all_goals
    go_enter Try.func27, Try.ntmps27
    go_wp2
    go_ret
    exact ⟨rfl, rfl⟩

set_option maxHeartbeats 400000 in
theorem isSide_any (a : Int) (w : World) :
    Calls Try.prog 35 #[.int .i64 a] w fun e w' => e = .returned (.bool (decide (a = 0 ∨ a = 1))) ∧ w' = w := by
  go_enter Try.func35, Try.ntmps35
  go_wp2
  all_goals go_ret
  all_goals refine ⟨ret_bool ?_, rfl⟩
  · simp [*]
  · rename_i h
    simp [h, Bool.beq_eq_decide_eq]

set_option maxHeartbeats 400000 in
theorem slotBit_any (a b : Int) (w : World) :
    Calls Try.prog 33 #[.int .i64 a, .int .i64 b] w fun e w' => e = .returned (.int .u64 (Um.slotN a b : Int)) ∧ w' = w := by
  by_cases ho : (a = 0 ∨ a = 1) ∧ 0 ≤ b ∧ b < 12
  · have e : Um.slotN a b = 2 ^ (12 * a + b).toNat := by unfold Um.slotN Um.bitAt; rw [if_pos (Um.okS_iff.2 ho)]
    have E : Hid (Um.slotN a b = 2 ^ (12 * a + b).toNat) := e
    clear e
    obtain ⟨ha, hb0, hb1⟩ := ho
    rcases ha with rfl | rfl
    all_goals
      go_enter Try.func33, Try.ntmps33
      go_wp2
      all_goals go_ret
      all_goals refine ⟨ret_u64 ?_, rfl⟩
      all_goals rw [E.out]
      all_goals rw [wrap_pow _ (by omega)]
      all_goals first | rfl | (congr 3; omega)
  · have e : Um.slotN a b = 0 := by unfold Um.slotN; rw [if_neg (fun h => ho (Um.okS_iff.1 h))]
    rw [e]
    go_enter Try.func33, Try.ntmps33
    go_wp2
    all_goals go_ret
    all_goals first | exact ⟨rfl, rfl⟩ | omega

set_option maxHeartbeats 400000 in
theorem sideAt_any (a : Int) (w : World) (h : a = 0 ∨ a = 1) :
    Calls Try.prog 36 #[.int .i64 a] w fun e w' => e = .returned (.int .i64 (12 * a)) ∧ w' = w := by
  rcases h with rfl | rfl
  all_goals
    go_enter Try.func36, Try.ntmps36
    go_wp2
    go_ret
    exact ⟨rfl, rfl⟩

set_option maxHeartbeats 400000 in
theorem pastBit_any (a : Int) (w : World) (h : a = 0 ∨ a = 1) :
    Calls Try.prog 37 #[.int .i64 a] w fun e w' => e = .returned (.int .u64 ((2 ^ (24 + a).toNat : Nat) : Int)) ∧ w' = w := by
  rcases h with rfl | rfl
  all_goals
    go_enter Try.func37, Try.ntmps37
    go_wp2
    go_ret
    exact ⟨rfl, rfl⟩

set_option maxHeartbeats 400000 in
theorem has_any (x : Nat) (a b : Int) (w : World) (hx : Um.Word x) :
    Calls Try.prog 18 #[.int .u64 x, .int .i64 a, .int .i64 b] w fun e w' => e = .returned (.bool (Um.hasN x a b)) ∧ w' = w := by
  go_enter Try.func18, Try.ntmps18
  go_wp2_with (go_at_call 33; refine (slotBit_any _ _ _).mono ?_; rintro e w' ⟨rfl, rfl⟩)
  go_ret
  refine ⟨ret_bool ?_, rfl⟩
  rw [u64_and_nat _ _ hx (Um.slot_word a b), ne0, Um.and_slot]

set_option maxHeartbeats 400000 in
theorem with_any (x : Nat) (a b : Int) (w : World) (hx : Um.Word x) :
    Calls Try.prog 17 #[.int .u64 x, .int .i64 a, .int .i64 b] w fun e w' => e = .returned (.int .u64 (Um.withN x a b)) ∧ w' = w := by
  go_enter Try.func17, Try.ntmps17
  go_wp2_with (go_at_call 33; refine (slotBit_any _ _ _).mono ?_; rintro e w' ⟨rfl, rfl⟩)
  go_ret
  refine ⟨ret_u64 ?_, rfl⟩
  rw [u64_or_nat _ _ hx (Um.slot_word a b), Um.or_slot]

theorem mask0 : bits .or .u64 4095 16777216 = ((16781311 : Nat) : Int) := by kernel_rfl
theorem mask1 : bits .or .u64 16773120 33554432 = ((50327552 : Nat) : Int) := by kernel_rfl

set_option maxHeartbeats 400000 in
theorem any_any (x : Nat) (a : Int) (w : World) (hx : Um.Word x) :
    Calls Try.prog 21 #[.int .u64 x, .int .i64 a] w fun e w' => e = .returned (.bool (Um.anyN x a)) ∧ ∃ n, w' = w.drewN n := by
  by_cases ha : a = 0 ∨ a = 1
  · rcases ha with rfl | rfl
    all_goals
      go_enter Try.func21, Try.ntmps21
      go_wp2_with (go_at_call 35; refine (isSide_any _ _).mono ?_; rintro e w' ⟨rfl, rfl⟩)
      go_quiet (first
        | (go_at_call 26; exact Calls.quiet_of_same (ones_any _ _ (by decide) (by decide)))
        | (go_at_call 36; exact Calls.quiet_of_same (sideAt_any _ _ (by decide)))
        | (go_at_call 37; exact Calls.quiet_of_same (pastBit_any _ _ (by decide))))
      go_wp2
      go_ret
      refine ⟨ret_bool ?_, ⟨_, rfl⟩⟩
      first | rw [mask0, u64_and_nat _ _ hx (by decide), ne0, Um.any_mask0] | rw [mask1, u64_and_nat _ _ hx (by decide), ne0, Um.any_mask1]
  · have h1 : Um.anyN x a = false := by unfold Um.anyN; simp [ha]
    rw [h1]
    have h2 : decide (a = 0 ∨ a = 1) = false := by simp [ha]
    clear ha h1
    go_enter Try.func21, Try.ntmps21
    go_wp2_with (go_at_call 35; refine (isSide_any _ _).mono ?_; rintro e w' ⟨rfl, rfl⟩)
    go_ret
    exact ⟨rfl, ⟨0, rfl⟩⟩

theorem wrap_word {n : Nat} (h : Um.Word n) : IntKind.u64.wrap (n : Int) = n := by
  unfold Um.Word at h
  rw [IntKind.wrap_u64]
  omega

theorem div_bit (x n : Nat) (hx : Um.Word x) : ((IntKind.u64.wrap ((x : Int) / 2 ^ n)).tmod 2 == 1) = x.testBit n := by
  have h1 : Um.Word (x / 2 ^ n) := Nat.lt_of_le_of_lt (Nat.div_le_self _ _) hx
  rw [show ((x : Int) / 2 ^ n) = ((x / 2 ^ n : Nat) : Int) by simp, wrap_word h1, Um.testBit_eq_div]
  generalize x / 2 ^ n = k at *
  rw [Bool.eq_iff_iff, beq_iff_eq, decide_eq_true_iff, Int.tmod_eq_emod_of_nonneg (by omega)]
  omega

theorem pow_word {n : Nat} (h : n < 64) : Um.Word (2 ^ n) := Um.word_iff.2 (Nat.pow_lt_pow_right (by decide) h)

set_option maxHeartbeats 400000 in
theorem power_any (a : Int) (w : World) (h0 : 0 ≤ a) (h1 : a < 64) :
    Calls Try.prog 28 #[.int .i64 a] w fun e w' => e = .returned (.int .u64 ((2 ^ a.toNat : Nat) : Int)) ∧ w' = w := by
  go_enter Try.func28, Try.ntmps28
  go_wp2
  go_loop [3, 4] (fun o i => ∃ k : Nat, (k : Int) ≤ a ∧ i = .int .i64 k ∧ o = .int .u64 ((2 ^ k : Nat) : Int)) (fun _ i => (a - intOf i).toNat)
  case atStart => exact ⟨0, h0, rfl, rfl⟩
  case round =>
    obtain ⟨k, hk, rfl, rfl⟩ := hrel
    by_cases hlt : (k : Int) < a
    · go_wp2
      go_round
      case rel =>
        refine ⟨k + 1, by omega, by go_num, ?_⟩
        rw [show (2 : Int) * 2 ^ k = ((2 ^ (k + 1) : Nat) : Int) by rw [Nat.pow_succ]; push_cast; exact Int.mul_comm _ _, wrap_word (pow_word (by omega))]
      case measure => simp [intOf]; omega
    · go_wp2
      go_ret
      refine ⟨ret_u64 ?_, rfl⟩
      rw [show a.toNat = k by omega]

set_option maxHeartbeats 400000 in
theorem bit_any (x : Nat) (a : Int) (w : World) (hx : Um.Word x) (h0 : 0 ≤ a) (h1 : a < 64) :
    Calls Try.prog 32 #[.int .u64 x, .int .i64 a] w fun e w' => e = .returned (.bool (x.testBit a.toNat)) ∧ w' = w := by
  have hp : ((2 ^ a.toNat : Nat) : Int) ≠ 0 := by have := Nat.two_pow_pos a.toNat; omega
  go_enter Try.func32, Try.ntmps32
  go_wp2_with (go_at_call 28; refine (power_any _ _ (by omega) (by omega)).mono ?_; rintro e w' ⟨rfl, rfl⟩)
  go_ret
  refine ⟨ret_bool ?_, rfl⟩
  exact div_bit _ _ hx

set_option maxHeartbeats 400000 in
theorem at_any (a b : Int) (w : World) :
    Calls Try.prog 34 #[.int .i64 a, .int .i64 b] w fun e w' => e = .returned (.int .i64 (if Um.okS a b then (Um.bitAt a b : Int) else -1)) ∧ w' = w := by
  by_cases ho : (a = 0 ∨ a = 1) ∧ 0 ≤ b ∧ b < 12
  · have e : (if Um.okS a b then (Um.bitAt a b : Int) else -1) = 12 * a + b := by rw [if_pos (Um.okS_iff.2 ho)]; unfold Um.bitAt; omega
    rw [e]
    clear e
    obtain ⟨ha, hb0, hb1⟩ := ho
    rcases ha with rfl | rfl
    all_goals
      go_enter Try.func34, Try.ntmps34
      go_wp2
      all_goals go_ret
      all_goals first | omega | exact ⟨ret_i64 (by omega), rfl⟩
  · have e : (if Um.okS a b then (Um.bitAt a b : Int) else -1) = -1 := by rw [if_neg (fun h => ho (Um.okS_iff.1 h))]
    rw [e]
    go_enter Try.func34, Try.ntmps34
    go_wp2
    all_goals go_ret
    all_goals first | exact ⟨rfl, rfl⟩ | omega

set_option maxHeartbeats 400000 in
theorem put_any (x : Nat) (a : Int) (b : Bool) (w : World) (hx : Um.Word x) (h0 : 0 ≤ a) (h1 : a < 64) :
    Calls Try.prog 29 #[.int .u64 x, .int .i64 a, .bool b] w fun e w' => e = .returned (.int .u64 (Um.setN x a.toNat b)) ∧ w' = w := by
  have hw := hx.setN (b := b) (show a.toNat < 64 by omega)
  by_cases hb : x.testBit a.toNat = b
  · have e : Um.setN x a.toNat b = x := Um.setN_self _ _ _ hb
    rw [e]
    have hbb : (x.testBit a.toNat == b) = true := by simp [hb]
    clear hb e hw
    go_enter Try.func29, Try.ntmps29
    go_wp2_with (go_at_call 32; refine (bit_any _ _ _ hx (by omega) (by omega)).mono ?_; rintro e w' ⟨rfl, rfl⟩)
    go_ret
    exact ⟨rfl, rfl⟩
  · have hbb : (x.testBit a.toNat == b) = false := by simp [hb]
    cases b with
    | true =>
      have e : Um.setN x a.toNat true = x + 2 ^ a.toNat := by unfold Um.setN; rw [if_neg hb]; rfl
      rw [e] at hw ⊢
      clear hb e
      go_enter Try.func29, Try.ntmps29
      go_wp2_with (first
        | (go_at_call 32; refine (bit_any _ _ _ hx (by omega) (by omega)).mono ?_; rintro e w' ⟨rfl, rfl⟩)
        | (go_at_call 28; refine (power_any _ _ (by omega) (by omega)).mono ?_; rintro e w' ⟨rfl, rfl⟩))
      go_ret
      refine ⟨ret_u64 ?_, rfl⟩
      rw [show ((x : Int) + 2 ^ a.toNat) = ((x + 2 ^ a.toNat : Nat) : Int) by simp, wrap_word hw]
    | false =>
      have hle : 2 ^ a.toNat ≤ x := Um.pow_le_of_testBit _ _ (by simpa using hb)
      have e : Um.setN x a.toNat false = x - 2 ^ a.toNat := by unfold Um.setN; rw [if_neg hb]; rfl
      rw [e] at hw ⊢
      clear hb e
      go_enter Try.func29, Try.ntmps29
      go_wp2_with (first
        | (go_at_call 32; refine (bit_any _ _ _ hx (by omega) (by omega)).mono ?_; rintro e w' ⟨rfl, rfl⟩)
        | (go_at_call 28; refine (power_any _ _ (by omega) (by omega)).mono ?_; rintro e w' ⟨rfl, rfl⟩))
      go_ret
      refine ⟨ret_u64 ?_, rfl⟩
      rw [show ((x : Int) - 2 ^ a.toNat) = ((x - 2 ^ a.toNat : Nat) : Int) by rw [Int.ofNat_sub hle]; simp, wrap_word hw]

theorem wrap64_small (n : Nat) (h : n < 9223372036854775808) : wrap64 (n : Int) = n := by
  unfold wrap64
  omega

theorem div_part (x s n : Nat) (hx : Um.Word x) (hn : n < 63) : wrap64 ((IntKind.u64.wrap ((x : Int) / 2 ^ s)).tmod (2 ^ n)) = (Um.part x s n : Int) := by
  have h1 : Um.Word (x / 2 ^ s) := Nat.lt_of_le_of_lt (Nat.div_le_self _ _) hx
  have h2 : Um.part x s n < 9223372036854775808 := by
    have := Um.part_lt x s n
    have h3 : 2 ^ n < 2 ^ 63 := Nat.pow_lt_pow_right (by decide) hn
    rw [show (2:Nat) ^ 63 = 9223372036854775808 by decide] at h3
    omega
  rw [show ((x : Int) / 2 ^ s) = ((x / 2 ^ s : Nat) : Int) by simp, wrap_word h1]
  have e : Int.tmod ((x / 2 ^ s : Nat) : Int) (2 ^ n) = (Um.part x s n : Int) := by
    rw [Int.tmod_eq_emod_of_nonneg (Int.natCast_nonneg _), show ((2:Int) ^ n) = ((2 ^ n : Nat) : Int) by simp, ← Int.natCast_emod]
    rfl
  rw [e, wrap64_small _ h2]

set_option maxHeartbeats 400000 in
theorem number_any (x : Nat) (a b : Int) (w : World) (hx : Um.Word x) (h0 : 0 ≤ a) (h1 : a < 64) (h2 : 0 ≤ b) (h3 : b < 63) :
    Calls Try.prog 31 #[.int .u64 x, .int .i64 a, .int .i64 b] w fun e w' => e = .returned (.int .i64 (Um.part x a.toNat b.toNat)) ∧ ∃ n, w' = w.drewN n := by
  have hp : ((2:Int) ^ a.toNat) ≠ 0 := by have := Int.pow_pos (n := 2) (m := a.toNat) (by decide); omega
  have hq : ((2:Int) ^ b.toNat) ≠ 0 := by have := Int.pow_pos (n := 2) (m := b.toNat) (by decide); omega
  go_enter Try.func31, Try.ntmps31
  go_wp2
  go_quiet ((go_at_call 28; exact Calls.quiet_of_same (power_any _ _ (by omega) (by omega))))
  go_wp2
  go_ret
  refine ⟨ret_i64 ?_, ⟨_, rfl⟩⟩
  exact div_part _ _ _ hx (by omega)

end Go.Proofs.Ytbelgielncflfaa
