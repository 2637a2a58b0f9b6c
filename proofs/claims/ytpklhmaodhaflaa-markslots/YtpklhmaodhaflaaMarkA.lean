/-
  The walks of layer 2's functions on words, and of the document's answers for them; the world stays.
-/
import Derived.Test.YtpklhmaodhaflaaWalkA
import Derived.Test.YtpklhmaodhaflaaWords
import Derived.Test.YtpklhmaodhaflaaMarkMath
namespace Go.Proofs.Ytpklhmaodhaflaa
open Go.RowKit

set_option maxHeartbeats 400000 in
theorem mBit_any (a b : Int) (w : World) :
    Calls Try.prog 21 #[.int .i64 a, .int .i64 b] w fun e w' => e = .returned (.int .u64 (Um.slotN a b : Int)) ∧ w' = w := by
  by_cases ho : (a = 0 ∨ a = 1) ∧ 0 ≤ b ∧ b < 12
  · have e : Um.slotN a b = 2 ^ (12 * a + b).toNat := by unfold Um.slotN Um.bitAt; rw [if_pos (Um.okS_iff.2 ho)]
    have E : Hid (Um.slotN a b = 2 ^ (12 * a + b).toNat) := e
    clear e
    obtain ⟨ha, hb0, hb1⟩ := ho
    rcases ha with rfl | rfl
    all_goals
      go_enter Try.func21, Try.ntmps21
      go_wp2
      all_goals go_ret
      all_goals refine ⟨ret_u64 ?_, rfl⟩
      all_goals rw [E.out]
      all_goals rw [wrap_pow _ (by omega)]
      all_goals first | rfl | (congr 3; omega)
  · have e : Um.slotN a b = 0 := by unfold Um.slotN; rw [if_neg (fun h => ho (Um.okS_iff.1 h))]
    rw [e]
    go_enter Try.func21, Try.ntmps21
    go_wp2
    all_goals go_ret
    all_goals first | exact ⟨rfl, rfl⟩ | omega

set_option maxHeartbeats 400000 in
theorem mHas_any (x : Nat) (a b : Int) (w : World) (hx : Um.Word x) :
    Calls Try.prog 12 #[.int .u64 x, .int .i64 a, .int .i64 b] w fun e w' => e = .returned (.bool (Um.hasN x a b)) ∧ w' = w := by
  go_enter Try.func12, Try.ntmps12
  go_wp2_with (go_at_call 21; refine (mBit_any _ _ _).mono ?_; rintro e w' ⟨rfl, rfl⟩)
  go_ret
  refine ⟨ret_bool ?_, rfl⟩
  rw [u64_and_nat _ _ hx (Um.slot_word a b), ne0, Um.and_slot]

set_option maxHeartbeats 400000 in
theorem mWith_any (x : Nat) (a b : Int) (w : World) (hx : Um.Word x) :
    Calls Try.prog 10 #[.int .u64 x, .int .i64 a, .int .i64 b] w fun e w' => e = .returned (.int .u64 (Um.withN x a b)) ∧ w' = w := by
  go_enter Try.func10, Try.ntmps10
  go_wp2_with (go_at_call 21; refine (mBit_any _ _ _).mono ?_; rintro e w' ⟨rfl, rfl⟩)
  go_ret
  refine ⟨ret_u64 ?_, rfl⟩
  rw [u64_or_nat _ _ hx (Um.slot_word a b), Um.or_slot]

set_option maxHeartbeats 400000 in
theorem mDrop_any (x : Nat) (b : Int) (w : World) (hx : Um.Word x) :
    Calls Try.prog 15 #[.int .u64 x, .int .i64 b] w fun e w' => e = .returned (.int .u64 (Um.dropN x b false)) ∧ w' = w := by
  go_enter Try.func15, Try.ntmps15
  go_wp2_with (go_at_call 21; refine (mBit_any _ _ _).mono ?_; rintro e w' ⟨rfl, rfl⟩)
  go_ret
  refine ⟨ret_u64 ?_, rfl⟩
  rw [u64_or_nat _ _ (Um.slot_word 0 b) (Um.slot_word 1 b), u64_andNot_nat _ _ hx (or_word (Um.slot_word 0 b) (Um.slot_word 1 b)), Um.andNot_slots x b hx]

set_option maxHeartbeats 400000 in
theorem mrAt_any (a b : Int) (w : World) :
    Calls Try.prog 22 #[.int .i64 a, .int .i64 b] w fun e w' => e = .returned (.int .i64 (if Um.okS a b then (Um.bitAt a b : Int) else -1)) ∧ w' = w := by
  by_cases ho : (a = 0 ∨ a = 1) ∧ 0 ≤ b ∧ b < 12
  · have e : (if Um.okS a b then (Um.bitAt a b : Int) else -1) = 12 * a + b := by rw [if_pos (Um.okS_iff.2 ho)]; unfold Um.bitAt; omega
    rw [e]
    clear e
    obtain ⟨ha, hb0, hb1⟩ := ho
    rcases ha with rfl | rfl
    all_goals
      go_enter Try.func22, Try.ntmps22
      go_wp2
      all_goals go_ret
      all_goals first | omega | exact ⟨ret_i64 (by omega), rfl⟩
  · have e : (if Um.okS a b then (Um.bitAt a b : Int) else -1) = -1 := by rw [if_neg (fun h => ho (Um.okS_iff.1 h))]
    rw [e]
    go_enter Try.func22, Try.ntmps22
    go_wp2
    all_goals go_ret
    all_goals first | exact ⟨rfl, rfl⟩ | omega

theorem mrAt_yes {a b : Int} (ho : Um.okS a b = true) (w : World) :
    Calls Try.prog 22 #[.int .i64 a, .int .i64 b] w fun e w' => e = .returned (.int .i64 (Um.bitAt a b : Int)) ∧ w' = w := by
  have := mrAt_any a b w
  rwa [if_pos ho] at this

theorem mrAt_no {a b : Int} (ho : Um.okS a b = false) (w : World) :
    Calls Try.prog 22 #[.int .i64 a, .int .i64 b] w fun e w' => e = .returned (.int .i64 (-1)) ∧ w' = w := by
  have := mrAt_any a b w
  rwa [if_neg (by simp [ho])] at this

set_option maxHeartbeats 400000 in
theorem mrHas_any (x : Nat) (a b : Int) (w : World) (hx : Um.Word x) :
    Calls Try.prog 13 #[.int .u64 x, .int .i64 a, .int .i64 b] w fun e w' => e = .returned (.bool (Um.hasN x a b)) ∧ w' = w := by
  cases ho : Um.okS a b with
  | true =>
    have hlt := Um.bitAt_lt ho
    have e : Um.hasN x a b = x.testBit (Um.bitAt a b) := by unfold Um.hasN; rw [ho]; rfl
    rw [e]
    clear e
    have HA := hide (mrAt_yes ho)
    generalize Um.bitAt a b = k at *
    go_enter Try.func13, Try.ntmps13
    go_wp2_with (first
      | (go_at_call 22; refine (unhide HA _).mono ?_; rintro e w' ⟨rfl, rfl⟩)
      | (go_at_call 23; refine (bit_any _ _ _ hx (by omega) (by omega)).mono ?_; rintro e w' ⟨rfl, rfl⟩))
    go_ret
    exact ⟨rfl, rfl⟩
  | false =>
    have e : Um.hasN x a b = false := by unfold Um.hasN; rw [ho]; rfl
    rw [e]
    clear e
    have HA := hide (mrAt_no ho)
    go_enter Try.func13, Try.ntmps13
    go_wp2_with (first
      | (go_at_call 22; refine (unhide HA _).mono ?_; rintro e w' ⟨rfl, rfl⟩))
    go_ret
    exact ⟨rfl, rfl⟩

set_option maxHeartbeats 400000 in
theorem mrWith_any (x : Nat) (a b : Int) (w : World) (hx : Um.Word x) :
    Calls Try.prog 14 #[.int .u64 x, .int .i64 a, .int .i64 b] w fun e w' => e = .returned (.int .u64 (Um.withN x a b)) ∧ w' = w := by
  cases ho : Um.okS a b with
  | true =>
    have hlt := Um.bitAt_lt ho
    have e : Um.withN x a b = Um.setN x ((Um.bitAt a b : Int).toNat) true := by unfold Um.withN; rw [ho]; rfl
    rw [e]
    clear e
    have HA := hide (mrAt_yes ho)
    generalize Um.bitAt a b = k at *
    go_enter Try.func14, Try.ntmps14
    go_wp2_with (first
      | (go_at_call 22; refine (unhide HA _).mono ?_; rintro e w' ⟨rfl, rfl⟩)
      | (go_at_call 24; refine (put_any _ _ _ _ hx (by omega) (by omega)).mono ?_; rintro e w' ⟨rfl, rfl⟩))
    go_ret
    exact ⟨rfl, rfl⟩
  | false =>
    have e : Um.withN x a b = x := Um.with_bad _ _ _ ho
    rw [e]
    clear e
    have HA := hide (mrAt_no ho)
    go_enter Try.func14, Try.ntmps14
    go_wp2_with (first
      | (go_at_call 22; refine (unhide HA _).mono ?_; rintro e w' ⟨rfl, rfl⟩))
    go_ret
    exact ⟨rfl, rfl⟩

set_option maxHeartbeats 1000000 in
theorem mrDrop_any (x : Nat) (b : Int) (w : World) (hx : Um.Word x) :
    Calls Try.prog 16 #[.int .u64 x, .int .i64 b] w fun e w' => e = .returned (.int .u64 (Um.dropN x b false)) ∧ w' = w := by
  cases ho : Um.okS 0 b with
  | true =>
    have ho' : Um.okS 1 b = true := Um.okS_two ▸ ho
    have hlt := Um.bitAt_lt ho
    have hlt' := Um.bitAt_lt ho'
    have e : Um.dropN x b false = Um.setN (Um.setN x (Um.bitAt 0 b) false) (Um.bitAt 1 b) false := Um.drop_ok _ _ ho
    rw [e]
    clear e
    have HA := hide (mrAt_yes ho)
    have HB := hide (mrAt_yes ho')
    generalize Um.bitAt 0 b = k at *
    generalize Um.bitAt 1 b = k' at *
    have hz : Um.Word (Um.setN x k false) := hx.setN (by omega)
    go_enter Try.func16, Try.ntmps16
    go_wp2_with fail
    refine (unhide HA _).mono ?_
    rintro e w1 ⟨rfl, rfl⟩
    go_wp2_with fail
    refine (unhide HA _).mono ?_
    rintro e w1 ⟨rfl, rfl⟩
    go_wp2_with fail
    refine (put_any _ _ _ _ hx (by omega) (by omega)).mono ?_
    rintro e w1 ⟨rfl, rfl⟩
    go_wp2_with fail
    refine (unhide HB _).mono ?_
    rintro e w1 ⟨rfl, rfl⟩
    go_wp2_with fail
    refine (put_any _ _ _ _ hz (by omega) (by omega)).mono ?_
    rintro e w1 ⟨rfl, rfl⟩
    go_wp2
    go_ret
    exact ⟨rfl, rfl⟩
  | false =>
    rw [Um.drop_bad _ _ _ ho]
    have HA := hide (mrAt_no ho)
    go_enter Try.func16, Try.ntmps16
    go_wp2_with (first
      | (go_at_call 22; refine (unhide HA _).mono ?_; rintro e w' ⟨rfl, rfl⟩))
    go_ret
    exact ⟨rfl, rfl⟩

end Go.Proofs.Ytpklhmaodhaflaa
