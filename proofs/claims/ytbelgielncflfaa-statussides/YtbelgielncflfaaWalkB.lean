/-
  The walks of layer 1's functions on words, and of the document's answers for them.
-/
import Derived.Test.YtbelgielncflfaaWalkA
namespace Go.Proofs.Ytbelgielncflfaa
open Go.RowKit

set_option maxHeartbeats 400000 in
theorem refHas_any (x : Nat) (a b : Int) (w : World) (hx : Um.Word x) :
    Calls Try.prog 19 #[.int .u64 x, .int .i64 a, .int .i64 b] w fun e w' => e = .returned (.bool (Um.hasN x a b)) ∧ w' = w := by
  cases ho : Um.okS a b with
  | true =>
    have hlt := Um.bitAt_lt ho
    have e : Um.hasN x a b = x.testBit (Um.bitAt a b) := by unfold Um.hasN; rw [ho]; rfl
    rw [e]
    clear e
    have hat : ∀ w, Calls Try.prog 34 #[.int .i64 a, .int .i64 b] w fun e w' => e = .returned (.int .i64 (Um.bitAt a b : Int)) ∧ w' = w := by
      intro w
      have := at_any a b w
      rwa [if_pos ho] at this
    have HA := hide hat
    clear hat
    generalize Um.bitAt a b = k at *
    go_enter Try.func19, Try.ntmps19
    go_wp2_with (first
      | (go_at_call 34; refine (unhide HA _).mono ?_; rintro e w' ⟨rfl, rfl⟩)
      | (go_at_call 32; refine (bit_any _ _ _ hx (by omega) (by omega)).mono ?_; rintro e w' ⟨rfl, rfl⟩))
    go_ret
    exact ⟨rfl, rfl⟩
  | false =>
    have e : Um.hasN x a b = false := by unfold Um.hasN; rw [ho]; rfl
    rw [e]
    clear e
    have hat : ∀ w, Calls Try.prog 34 #[.int .i64 a, .int .i64 b] w fun e w' => e = .returned (.int .i64 (-1)) ∧ w' = w := by
      intro w
      have := at_any a b w
      rwa [if_neg (by simp [ho])] at this
    have HA := hide hat
    clear hat
    go_enter Try.func19, Try.ntmps19
    go_wp2_with (first
      | (go_at_call 34; refine (unhide HA _).mono ?_; rintro e w' ⟨rfl, rfl⟩))
    go_ret
    exact ⟨rfl, rfl⟩

set_option maxHeartbeats 400000 in
theorem refWith_any (x : Nat) (a b : Int) (w : World) (hx : Um.Word x) :
    Calls Try.prog 20 #[.int .u64 x, .int .i64 a, .int .i64 b] w fun e w' => e = .returned (.int .u64 (Um.withN x a b)) ∧ w' = w := by
  cases ho : Um.okS a b with
  | true =>
    have hlt := Um.bitAt_lt ho
    have e : Um.withN x a b = Um.setN x ((Um.bitAt a b : Int).toNat) true := by unfold Um.withN; rw [ho]; rfl
    rw [e]
    clear e
    have hat : ∀ w, Calls Try.prog 34 #[.int .i64 a, .int .i64 b] w fun e w' => e = .returned (.int .i64 (Um.bitAt a b : Int)) ∧ w' = w := by
      intro w
      have := at_any a b w
      rwa [if_pos ho] at this
    have HA := hide hat
    clear hat
    generalize Um.bitAt a b = k at *
    go_enter Try.func20, Try.ntmps20
    go_wp2_with (first
      | (go_at_call 34; refine (unhide HA _).mono ?_; rintro e w' ⟨rfl, rfl⟩)
      | (go_at_call 29; refine (put_any _ _ _ _ hx (by omega) (by omega)).mono ?_; rintro e w' ⟨rfl, rfl⟩))
    go_ret
    exact ⟨rfl, rfl⟩
  | false =>
    have e : Um.withN x a b = x := Um.with_bad _ _ _ ho
    rw [e]
    clear e
    have hat : ∀ w, Calls Try.prog 34 #[.int .i64 a, .int .i64 b] w fun e w' => e = .returned (.int .i64 (-1)) ∧ w' = w := by
      intro w
      have := at_any a b w
      rwa [if_neg (by simp [ho])] at this
    have HA := hide hat
    clear hat
    go_enter Try.func20, Try.ntmps20
    go_wp2_with (first
      | (go_at_call 34; refine (unhide HA _).mono ?_; rintro e w' ⟨rfl, rfl⟩))
    go_ret
    exact ⟨rfl, rfl⟩

set_option maxHeartbeats 400000 in
theorem refAny_any (x : Nat) (a : Int) (w : World) (hx : Um.Word x) :
    Calls Try.prog 22 #[.int .u64 x, .int .i64 a] w fun e w' => e = .returned (.bool (Um.anyN x a)) ∧ ∃ n, w' = w.drewN n := by
  by_cases ha : a = 0 ∨ a = 1
  · have e : Um.anyN x a = (decide (0 < Um.part x (12 * a).toNat 12) || x.testBit (24 + a).toNat) := by unfold Um.anyN; simp [ha]
    rw [e]
    have ha0 : 0 ≤ a := by omega
    have ha1 : a ≤ 1 := by omega
    clear e ha
    have hn : ∀ w, Calls Try.prog 31 #[.int .u64 x, .int .i64 (12 * a), .int .i64 12] w fun e w' => e = .returned (.int .i64 (Um.part x (12 * a).toNat 12)) ∧ ∃ n, w' = w.drewN n :=
      fun w => number_any x (12 * a) 12 w hx (by omega) (by omega) (by omega) (by omega)
    have HN := hide hn
    clear hn
    generalize Um.part x (12 * a).toNat 12 = k at *
    by_cases hk : 0 < k
    all_goals
      go_enter Try.func22, Try.ntmps22
      go_wp2_with (first
        | (go_at_call 31; refine (unhide HN _).mono ?_; rintro e w' ⟨rfl, nq, rfl⟩)
        | (go_at_call 32; refine (bit_any _ _ _ hx (by omega) (by omega)).mono ?_; rintro e w' ⟨rfl, rfl⟩))
      go_ret
      refine ⟨ret_bool ?_, ⟨_, rfl⟩⟩
      simp [hk]
  · have h1 : Um.anyN x a = false := by unfold Um.anyN; simp [ha]
    rw [h1]
    clear h1
    go_enter Try.func22, Try.ntmps22
    go_wp2
    all_goals go_ret
    all_goals first | exact ⟨rfl, ⟨0, rfl⟩⟩ | omega

theorem bits_drop (y : Nat) (a b : Int) (hy : Um.Word y) (hh : Um.hasN y a b = true) : bits .andNot .u64 (y : Int) (Um.slotN a b : Int) = (Um.dropAt y a b false : Int) := by
  have ho : Um.okS a b = true := by unfold Um.hasN at hh; revert hh; cases Um.okS a b <;> simp
  rw [u64_andNot_nat _ _ hy (Um.slot_word a b)]
  unfold Um.dropAt Um.slotN
  rw [if_pos ho, if_pos hh, Um.andNot_pow _ _ hy (by have := Um.bitAt_lt ho; omega)]
  rfl

theorem bits_past (y k : Nat) (b : Int) (hy : Um.Word y) (hk : k < 2) (hh : Um.hasN y k b = true) :
    bits .or .u64 (bits .andNot .u64 (y : Int) (Um.slotN k b : Int)) (2 ^ (24 + k)) = (Um.dropAt y k b true : Int) := by
  rw [bits_drop _ _ _ hy hh, show ((2:Int) ^ (24 + k)) = ((2 ^ (24 + k) : Nat) : Int) by simp, u64_or_nat _ _ (Um.dropAt_word hy _ _ _) (pow_word (by omega)), Um.or_pow]
  unfold Um.dropAt
  rw [if_pos hh, if_pos hh, show ((24 : Int) + k).toNat = 24 + k by omega]
  rfl

set_option maxHeartbeats 400000 in
theorem drop_yes (x : Nat) (b : Int) (w : World) (hx : Um.Word x) :
    Calls Try.prog 23 #[.int .u64 x, .int .i64 b, .bool true] w fun e w' => e = .returned (.int .u64 (Um.dropN x b true)) ∧ w' = w := by
  go_enter Try.func23, Try.ntmps23
  go_wp2
  go_loop [0, 7] (fun o i => ∃ k : Nat, k ≤ 2 ∧ i = .int .i64 k ∧ o = .int .u64 (Um.dropTo x b true k)) (fun _ i => (2 - intOf i).toNat)
  case atStart => exact ⟨0, by omega, rfl, rfl⟩
  case round =>
    obtain ⟨k, hk, rfl, rfl⟩ := hrel
    by_cases hlt : k < 2
    · have hs := Um.dropTo_succ x b true k hlt
      have hy := Um.dropTo_word hx b true k
      generalize Um.dropTo x b true k = y at *
      have HS : Hid (Um.dropTo x b true (k + 1) = Um.dropAt y k b true) := hs
      clear hs
      cases hh : Um.hasN y k b
      all_goals
        go_wp2_with (first
          | (go_at_call 18; refine (has_any _ _ _ _ hy).mono ?_; rintro e w' ⟨rfl, rfl⟩)
          | (go_at_call 33; refine (slotBit_any _ _ _).mono ?_; rintro e w' ⟨rfl, rfl⟩)
          | (go_at_call 37; refine (pastBit_any _ _ (by omega)).mono ?_; rintro e w' ⟨rfl, rfl⟩))
        refine ⟨⟨k + 1, by omega, by go_num, ?_⟩, by simp [intOf]; omega⟩
        rw [HS.out]
        first | rw [Um.dropAt_self _ _ _ _ hh] | rw [bits_past _ _ _ hy hlt hh]
    · go_wp2
      go_ret
      refine ⟨ret_u64 ?_, rfl⟩
      rw [show k = 2 by omega]
      rfl

set_option maxHeartbeats 400000 in
theorem drop_no (x : Nat) (b : Int) (w : World) (hx : Um.Word x) :
    Calls Try.prog 23 #[.int .u64 x, .int .i64 b, .bool false] w fun e w' => e = .returned (.int .u64 (Um.dropN x b false)) ∧ w' = w := by
  go_enter Try.func23, Try.ntmps23
  go_wp2
  go_loop [0, 7] (fun o i => ∃ k : Nat, k ≤ 2 ∧ i = .int .i64 k ∧ o = .int .u64 (Um.dropTo x b false k)) (fun _ i => (2 - intOf i).toNat)
  case atStart => exact ⟨0, by omega, rfl, rfl⟩
  case round =>
    obtain ⟨k, hk, rfl, rfl⟩ := hrel
    by_cases hlt : k < 2
    · have hs := Um.dropTo_succ x b false k hlt
      have hy := Um.dropTo_word hx b false k
      generalize Um.dropTo x b false k = y at *
      have HS : Hid (Um.dropTo x b false (k + 1) = Um.dropAt y k b false) := hs
      clear hs
      cases hh : Um.hasN y k b
      all_goals
        go_wp2_with (first
          | (go_at_call 18; refine (has_any _ _ _ _ hy).mono ?_; rintro e w' ⟨rfl, rfl⟩)
          | (go_at_call 33; refine (slotBit_any _ _ _).mono ?_; rintro e w' ⟨rfl, rfl⟩)
          | (go_at_call 37; refine (pastBit_any _ _ (by omega)).mono ?_; rintro e w' ⟨rfl, rfl⟩))
        refine ⟨⟨k + 1, by omega, by go_num, ?_⟩, by simp [intOf]; omega⟩
        rw [HS.out]
        first | rw [Um.dropAt_self _ _ _ _ hh] | rw [bits_drop _ _ _ hy hh]
    · go_wp2
      go_ret
      refine ⟨ret_u64 ?_, rfl⟩
      rw [show k = 2 by omega]
      rfl

theorem drop_any (x : Nat) (b : Int) (p : Bool) (w : World) (hx : Um.Word x) :
    Calls Try.prog 23 #[.int .u64 x, .int .i64 b, .bool p] w fun e w' => e = .returned (.int .u64 (Um.dropN x b p)) ∧ w' = w := by
  cases p
  · exact drop_no x b w hx
  · exact drop_yes x b w hx

set_option maxHeartbeats 400000 in
theorem refDrop_yes (x : Nat) (b : Int) (w : World) (hx : Um.Word x) :
    Calls Try.prog 24 #[.int .u64 x, .int .i64 b, .bool true] w fun e w' => e = .returned (.int .u64 (Um.dropN x b true)) ∧ w' = w := by
  go_enter Try.func24, Try.ntmps24
  go_wp2
  go_loop [7, 8] (fun o i => ∃ k : Nat, k ≤ 2 ∧ i = .int .i64 k ∧ o = .int .u64 (Um.dropTo x b true k)) (fun _ i => (2 - intOf i).toNat)
  case atStart => exact ⟨0, by omega, rfl, rfl⟩
  case round =>
    obtain ⟨k, hk, rfl, rfl⟩ := hrel
    by_cases hlt : k < 2
    · have hs := Um.dropTo_succ x b true k hlt
      have hy := Um.dropTo_word hx b true k
      have hd := Um.dropTo_has x b true k hlt
      generalize Um.dropTo x b true k = y at *
      have HS : Hid (Um.dropTo x b true (k + 1) = Um.dropAt y k b true) := hs
      have HD : Hid (Um.hasN y k b = Um.hasN x k b) := hd
      clear hs hd
      cases hh : Um.hasN x k b
      · go_wp2_with (first
          | (go_at_call 19; refine (refHas_any _ _ _ _ hx).mono ?_; rintro e w' ⟨rfl, rfl⟩))
        refine ⟨⟨k + 1, by omega, by go_num, ?_⟩, by simp [intOf]; omega⟩
        rw [HS.out, Um.dropAt_self _ _ _ _ (by rw [HD.out]; exact hh)]
      · have ho : Um.okS k b = true := by unfold Um.hasN at hh; revert hh; cases Um.okS k b <;> simp
        have hlt2 := Um.bitAt_lt ho
        have hat : ∀ w, Calls Try.prog 34 #[.int .i64 k, .int .i64 b] w fun e w' => e = .returned (.int .i64 (Um.bitAt k b : Int)) ∧ w' = w := by
          intro w
          have := at_any k b w
          rwa [if_pos ho] at this
        have HA := hide hat
        clear hat
        have hfin : Um.dropAt y k b true = Um.setN (Um.setN y (Um.bitAt k b) false) (24 + (k : Int)).toNat true := by unfold Um.dropAt; rw [HD.out, if_pos hh]; simp
        have HF := hide hfin
        clear hfin
        have hz := hy.setN (b := false) (show Um.bitAt k b < 64 by omega)
        generalize Um.bitAt k b = j at *
        go_wp2_with (first
          | (go_at_call 19; refine (refHas_any _ _ _ _ hx).mono ?_; rintro e w' ⟨rfl, rfl⟩)
          | (go_at_call 34; refine (unhide HA _).mono ?_; rintro e w' ⟨rfl, rfl⟩))
        refine (put_any _ _ _ _ hy (by omega) (by omega)).mono ?_
        rintro e w' ⟨rfl, rfl⟩
        go_wp2_with fail
        refine (put_any _ _ _ _ hz (by omega) (by omega)).mono ?_
        rintro e w' ⟨rfl, rfl⟩
        go_wp2
        refine ⟨⟨k + 1, by omega, by go_num, ?_⟩, by simp [intOf]; omega⟩
        rw [HS.out, unhide HF]
    · go_wp2
      go_ret
      refine ⟨ret_u64 ?_, rfl⟩
      rw [show k = 2 by omega]
      rfl

set_option maxHeartbeats 400000 in
theorem refDrop_no (x : Nat) (b : Int) (w : World) (hx : Um.Word x) :
    Calls Try.prog 24 #[.int .u64 x, .int .i64 b, .bool false] w fun e w' => e = .returned (.int .u64 (Um.dropN x b false)) ∧ w' = w := by
  go_enter Try.func24, Try.ntmps24
  go_wp2
  go_loop [7, 8] (fun o i => ∃ k : Nat, k ≤ 2 ∧ i = .int .i64 k ∧ o = .int .u64 (Um.dropTo x b false k)) (fun _ i => (2 - intOf i).toNat)
  case atStart => exact ⟨0, by omega, rfl, rfl⟩
  case round =>
    obtain ⟨k, hk, rfl, rfl⟩ := hrel
    by_cases hlt : k < 2
    · have hs := Um.dropTo_succ x b false k hlt
      have hy := Um.dropTo_word hx b false k
      have hd := Um.dropTo_has x b false k hlt
      generalize Um.dropTo x b false k = y at *
      have HS : Hid (Um.dropTo x b false (k + 1) = Um.dropAt y k b false) := hs
      have HD : Hid (Um.hasN y k b = Um.hasN x k b) := hd
      clear hs hd
      cases hh : Um.hasN x k b
      · go_wp2_with (first
          | (go_at_call 19; refine (refHas_any _ _ _ _ hx).mono ?_; rintro e w' ⟨rfl, rfl⟩))
        refine ⟨⟨k + 1, by omega, by go_num, ?_⟩, by simp [intOf]; omega⟩
        rw [HS.out, Um.dropAt_self _ _ _ _ (by rw [HD.out]; exact hh)]
      · have ho : Um.okS k b = true := by unfold Um.hasN at hh; revert hh; cases Um.okS k b <;> simp
        have hlt2 := Um.bitAt_lt ho
        have hat : ∀ w, Calls Try.prog 34 #[.int .i64 k, .int .i64 b] w fun e w' => e = .returned (.int .i64 (Um.bitAt k b : Int)) ∧ w' = w := by
          intro w
          have := at_any k b w
          rwa [if_pos ho] at this
        have HA := hide hat
        clear hat
        have hfin : Um.dropAt y k b false = Um.setN y (Um.bitAt k b) false := by unfold Um.dropAt; rw [HD.out, if_pos hh]; simp
        have HF := hide hfin
        clear hfin
        have hz := hy.setN (b := false) (show Um.bitAt k b < 64 by omega)
        generalize Um.bitAt k b = j at *
        go_wp2_with (first
          | (go_at_call 19; refine (refHas_any _ _ _ _ hx).mono ?_; rintro e w' ⟨rfl, rfl⟩)
          | (go_at_call 34; refine (unhide HA _).mono ?_; rintro e w' ⟨rfl, rfl⟩))
        refine (put_any _ _ _ _ hy (by omega) (by omega)).mono ?_
        rintro e w' ⟨rfl, rfl⟩
        go_wp2
        refine ⟨⟨k + 1, by omega, by go_num, ?_⟩, by simp [intOf]; omega⟩
        rw [HS.out, unhide HF]
    · go_wp2
      go_ret
      refine ⟨ret_u64 ?_, rfl⟩
      rw [show k = 2 by omega]
      rfl

theorem refDrop_any (x : Nat) (b : Int) (p : Bool) (w : World) (hx : Um.Word x) :
    Calls Try.prog 24 #[.int .u64 x, .int .i64 b, .bool p] w fun e w' => e = .returned (.int .u64 (Um.dropN x b p)) ∧ w' = w := by
  cases p
  · exact refDrop_no x b w hx
  · exact refDrop_yes x b w hx

end Go.Proofs.Ytbelgielncflfaa
