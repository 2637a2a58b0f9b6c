/-
  Texts that the laws stand on, merged (Math, WalkA, Words, OpenCfg, ChartMath, Pair, ChartA).
-/
import Derived.Test.YtapgghciieloaaaGreatRows
import Derived.BigQuiet
import Derived.BigRegion
import Derived.Deep.QuietTactic
import Derived.Deep.RegionWith
import Derived.Lib.QuietBelow
import Derived.LoopN
import Derived.OpenShut
import Derived.ProofKit
import Derived.RegionTactic
import Derived.ShutString
import Derived.WalkKit
import Derived.WalkSmall
import Derived.WalkSpells

namespace Um
set_option maxRecDepth 100000
def Word (x : Nat) : Prop := x < 18446744073709551616
theorem word_iff {x : Nat} : Word x ↔ x < 2 ^ 64 := by unfold Word; rw [show (2:Nat) ^ 64 = 18446744073709551616 by decide]
def setN (x i : Nat) (b : Bool) : Nat := if x.testBit i = b then x else if b then x + 2 ^ i else x - 2 ^ i
theorem testBit_eq_div (x i : Nat) : x.testBit i = decide (x / 2 ^ i % 2 = 1) := Nat.testBit_eq_decide_div_mod_eq
theorem add_pow_testBit (x i j : Nat) (h : x.testBit i = false) : (x + 2 ^ i).testBit j = if i = j then true else x.testBit j := by
  have hp : 0 < 2 ^ i := Nat.two_pow_pos i
  have hq : (x + 2 ^ i) / 2 ^ i = x / 2 ^ i + 1 := Nat.add_div_right x hp
  have hm : (x + 2 ^ i) % 2 ^ i = x % 2 ^ i := Nat.add_mod_right x (2 ^ i)
  rw [testBit_eq_div] at h
  have he : x / 2 ^ i % 2 = 0 := by
    have := of_decide_eq_false h
    omega
  by_cases hij : j < i
  · rw [if_neg (by omega)]
    have h1 : (x + 2 ^ i).testBit j = ((x + 2 ^ i) % 2 ^ i).testBit j := by rw [Nat.testBit_mod_two_pow]; simp [hij]
    have h2 : x.testBit j = (x % 2 ^ i).testBit j := by rw [Nat.testBit_mod_two_pow]; simp [hij]
    rw [h1, h2, hm]
  · have hk : j = (j - i) + i := by omega
    have h1 : (x + 2 ^ i).testBit j = ((x + 2 ^ i) / 2 ^ i).testBit (j - i) := by rw [Nat.testBit_div_two_pow, ← hk]
    have h2 : x.testBit j = (x / 2 ^ i).testBit (j - i) := by rw [Nat.testBit_div_two_pow, ← hk]
    rw [h1, h2, hq]
    cases hd : j - i with
    | zero =>
      rw [if_pos (by omega), Nat.testBit_zero]
      exact decide_eq_true (by omega)
    | succ k =>
      rw [if_neg (by omega), Nat.testBit_succ, Nat.testBit_succ]
      congr 1
      omega
theorem pow_le_of_testBit (x i : Nat) (h : x.testBit i = true) : 2 ^ i ≤ x := Nat.ge_two_pow_of_testBit h
theorem sub_pow_testBit (x i j : Nat) (h : x.testBit i = true) : (x - 2 ^ i).testBit j = if i = j then false else x.testBit j := by
  have hle := pow_le_of_testBit x i h
  have hx : x = (x - 2 ^ i) + 2 ^ i := by omega
  have hp : 0 < 2 ^ i := Nat.two_pow_pos i
  have hq : x / 2 ^ i = (x - 2 ^ i) / 2 ^ i + 1 := by
    rw [← Nat.add_div_right _ hp, ← hx]
  have hf : (x - 2 ^ i).testBit i = false := by
    rw [testBit_eq_div] at h ⊢
    have := of_decide_eq_true h
    exact decide_eq_false (by omega)
  have := add_pow_testBit (x - 2 ^ i) i j hf
  rw [← hx] at this
  rw [this]
  by_cases hij : i = j
  · subst hij; simp [hf]
  · simp [hij]
theorem testBit_setN (x i j : Nat) (b : Bool) : (setN x i b).testBit j = if i = j then b else x.testBit j := by
  unfold setN
  by_cases h : x.testBit i = b
  · rw [if_pos h]
    by_cases hij : i = j
    · subst hij; simp [h]
    · simp [hij]
  · rw [if_neg h]
    cases b with
    | true =>
      have hf : x.testBit i = false := by simpa using h
      simpa using add_pow_testBit x i j hf
    | false =>
      have hf : x.testBit i = true := by simpa using h
      simpa using sub_pow_testBit x i j hf
theorem lt_of_bits {x n : Nat} (h : ∀ j, n ≤ j → x.testBit j = false) : x < 2 ^ n := Nat.lt_pow_two_of_testBit x h
theorem bits_of_lt {x n : Nat} (h : x < 2 ^ n) (j : Nat) (hj : n ≤ j) : x.testBit j = false :=
  Nat.testBit_lt_two_pow (Nat.lt_of_lt_of_le h (Nat.pow_le_pow_right (by decide) hj))
theorem Word.bits {x : Nat} (h : Word x) (j : Nat) (hj : 64 ≤ j) : x.testBit j = false := bits_of_lt (word_iff.1 h) j hj
theorem Word.of {x : Nat} (h : ∀ j, 64 ≤ j → x.testBit j = false) : Word x := word_iff.2 (lt_of_bits h)
theorem Word.setN {x i : Nat} {b : Bool} (h : Word x) (hi : i < 64) : Word (Um.setN x i b) :=
  Word.of fun j hj => by rw [testBit_setN, if_neg (by omega)]; exact h.bits j hj
theorem or_pow (x i : Nat) : x ||| 2 ^ i = setN x i true := by
  apply Nat.eq_of_testBit_eq
  intro j
  rw [Nat.testBit_or, testBit_setN, Nat.testBit_two_pow]
  by_cases h : i = j <;> simp [h]
theorem andNot_testBit (x m j : Nat) (hx : Word x) (hm : Word m) : (x &&& (18446744073709551615 - m)).testBit j = (x.testBit j && !m.testBit j) := by
  have e : 18446744073709551615 - m = 2 ^ 64 - (m + 1) := by
    have : (2:Nat) ^ 64 = 18446744073709551616 := by decide
    omega
  rw [Nat.testBit_and, e, Nat.testBit_two_pow_sub_succ (word_iff.1 hm)]
  by_cases h : j < 64
  · simp [h]
  · simp [h, hx.bits j (by omega)]
theorem setN_self (x i : Nat) (b : Bool) (h : x.testBit i = b) : setN x i b = x := by unfold setN; rw [if_pos h]
theorem setN_comm (x i j : Nat) (b c : Bool) (h : i ≠ j ∨ b = c) : setN (setN x i b) j c = setN (setN x j c) i b := by
  apply Nat.eq_of_testBit_eq
  intro k
  simp only [testBit_setN]
  by_cases h1 : i = k <;> by_cases h2 : j = k <;> simp [h1, h2]
  rcases h with h | h
  · omega
  · exact h.symm
def part (x s n : Nat) : Nat := x / 2 ^ s % 2 ^ n
theorem testBit_part (x s n j : Nat) : (part x s n).testBit j = (decide (j < n) && x.testBit (j + s)) := by
  unfold part
  rw [Nat.testBit_mod_two_pow, Nat.testBit_div_two_pow]
theorem part_lt (x s n : Nat) : part x s n < 2 ^ n := Nat.mod_lt _ (Nat.two_pow_pos n)
theorem and_mask (x n : Nat) : x &&& (2 ^ n - 1) = x % 2 ^ n := Nat.and_two_pow_sub_one_eq_mod x n
theorem un12 (x : Nat) : part (x / 4096) 0 12 = part x 12 12 := by simp [part]
theorem un27 (x : Nat) : part (x / 4096 / 4096 / 2 / 2 / 2) 0 3 = part x 27 3 := by simp [part, Nat.div_div_eq_div_mul]
theorem un30 (x : Nat) : part (x / 4096 / 4096 / 2 / 2 / 2 / 8) 0 32 = part x 30 32 := by simp [part, Nat.div_div_eq_div_mul]
theorem bit_part (x s : Nat) : (((part x s 1 : Nat) : Int) == 1) = x.testBit s := by
  rw [testBit_eq_div, Bool.eq_iff_iff, beq_iff_eq, decide_eq_true_iff]
  unfold part
  rw [Nat.pow_one]
  generalize x / 2 ^ s = k
  omega
theorem un24 (x : Nat) : (((part (x / 4096 / 4096) 0 1 : Nat) : Int) == 1) = x.testBit 24 := by
  rw [← bit_part, show part (x / 4096 / 4096) 0 1 = part x 24 1 by simp [part, Nat.div_div_eq_div_mul]]
theorem un25 (x : Nat) : (((part (x / 4096 / 4096 / 2) 0 1 : Nat) : Int) == 1) = x.testBit 25 := by
  rw [← bit_part, show part (x / 4096 / 4096 / 2) 0 1 = part x 25 1 by simp [part, Nat.div_div_eq_div_mul]]
theorem un26 (x : Nat) : (((part (x / 4096 / 4096 / 2 / 2) 0 1 : Nat) : Int) == 1) = x.testBit 26 := by
  rw [← bit_part, show part (x / 4096 / 4096 / 2 / 2) 0 1 = part x 26 1 by simp [part, Nat.div_div_eq_div_mul]]
def okS (a b : Int) : Bool := decide ((a = 0 ∨ a = 1) ∧ 0 ≤ b ∧ b < 12)
def bitAt (a b : Int) : Nat := (12 * a + b).toNat
def slotN (a b : Int) : Nat := if okS a b then 2 ^ bitAt a b else 0
def hasN (x : Nat) (a b : Int) : Bool := okS a b && x.testBit (bitAt a b)
def withN (x : Nat) (a b : Int) : Nat := if okS a b then setN x (bitAt a b) true else x
def anyN (x : Nat) (a : Int) : Bool := decide (a = 0 ∨ a = 1) && (decide (0 < part x (12 * a).toNat 12) || x.testBit (24 + a).toNat)
theorem okS_iff {a b : Int} : okS a b = true ↔ (a = 0 ∨ a = 1) ∧ 0 ≤ b ∧ b < 12 := by unfold okS; exact decide_eq_true_iff
theorem bitAt_lt {a b : Int} (h : okS a b = true) : bitAt a b < 24 := by
  have := okS_iff.1 h
  unfold bitAt
  omega
theorem slot_word (a b : Int) : Word (slotN a b) := by
  unfold slotN
  split
  · rename_i h
    exact word_iff.2 (Nat.pow_lt_pow_right (by decide) (by have := bitAt_lt h; omega))
  · exact word_iff.2 (by decide)
theorem or_slot (x : Nat) (a b : Int) : x ||| slotN a b = withN x a b := by
  unfold slotN withN
  split
  · exact or_pow _ _
  · simp
theorem with_word {x : Nat} (h : Word x) (a b : Int) : Word (withN x a b) := by
  unfold withN
  split
  · rename_i ho
    exact h.setN (by have := bitAt_lt ho; omega)
  · exact h
theorem and_pow_ne (x i : Nat) : (x &&& 2 ^ i != 0) = x.testBit i := by
  cases h : x.testBit i with
  | true =>
    have h1 : (x &&& 2 ^ i).testBit i = true := by rw [Nat.testBit_and, h, Nat.testBit_two_pow_self]; rfl
    have h2 := pow_le_of_testBit _ _ h1
    have hp := Nat.two_pow_pos i
    rw [bne_iff_ne]
    omega
  | false =>
    have h1 : x &&& 2 ^ i = 0 := by
      apply Nat.eq_of_testBit_eq
      intro j
      rw [Nat.testBit_and, Nat.testBit_two_pow, Nat.zero_testBit]
      by_cases hij : i = j
      · subst hij; simp [h]
      · simp [hij]
    rw [h1]
    rfl
theorem and_slot (x : Nat) (a b : Int) : (x &&& slotN a b != 0) = hasN x a b := by
  unfold slotN hasN
  by_cases h : okS a b = true
  · rw [if_pos h, h, Bool.true_and]
    exact and_pow_ne _ _
  · rw [if_neg h]
    simp [h]
theorem with_bad (x : Nat) (a b : Int) (h : okS a b = false) : withN x a b = x := by unfold withN; simp [h]
theorem part_pos {x s n : Nat} : (0 < part x s n) ↔ ∃ j, j < n ∧ x.testBit (j + s) = true := by
  constructor
  · intro h
    obtain ⟨j, hj⟩ := Nat.exists_testBit_of_ne_zero (Nat.pos_iff_ne_zero.1 h)
    rw [testBit_part] at hj
    simp at hj
    exact ⟨j, hj.1, hj.2⟩
  · intro ⟨j, hj, hb⟩
    have : (part x s n).testBit j = true := by rw [testBit_part]; simp [hj, hb]
    have := pow_le_of_testBit _ _ this
    have := Nat.two_pow_pos j
    omega
theorem any_iff {x : Nat} {a : Int} (ha : a = 0 ∨ a = 1) : anyN x a = true ↔ (∃ j, j < 12 ∧ x.testBit (j + (12 * a).toNat) = true) ∨ x.testBit (24 + a).toNat = true := by
  unfold anyN
  simp only [ha, decide_true, Bool.true_and, Bool.or_eq_true, decide_eq_true_eq]
  rw [part_pos]
theorem and_ne_iff (x m : Nat) : (x &&& m ≠ 0) ↔ ∃ j, x.testBit j = true ∧ m.testBit j = true := by
  constructor
  · intro h
    obtain ⟨j, hj⟩ := Nat.exists_testBit_of_ne_zero h
    rw [Nat.testBit_and] at hj
    exact ⟨j, by simpa using hj⟩
  · intro ⟨j, h1, h2⟩ h0
    have : (x &&& m).testBit j = true := by rw [Nat.testBit_and, h1, h2]; rfl
    rw [h0, Nat.zero_testBit] at this
    cases this
theorem any_mask (x : Nat) (a : Int) (ha : a = 0 ∨ a = 1) : (x &&& ((2 ^ 12 - 1) <<< (12 * a).toNat ||| 2 ^ (24 + a).toNat) != 0) = anyN x a := by
  rw [Bool.eq_iff_iff, bne_iff_ne, and_ne_iff, any_iff ha]
  constructor
  · rintro ⟨j, h1, h2⟩
    rw [Nat.testBit_or, Nat.testBit_shiftLeft, Nat.testBit_two_pow_sub_one, Nat.testBit_two_pow] at h2
    simp at h2
    rcases h2 with ⟨h2, h3⟩ | h2
    · exact Or.inl ⟨j - (12 * a).toNat, h3, by rw [Nat.sub_add_cancel (by omega)]; exact h1⟩
    · exact Or.inr (by rw [h2]; exact h1)
  · rintro (⟨j, hj, hb⟩ | h)
    · refine ⟨_, hb, ?_⟩
      rw [Nat.testBit_or, Nat.testBit_shiftLeft, Nat.testBit_two_pow_sub_one]
      simp [hj]
    · refine ⟨_, h, ?_⟩
      rw [Nat.testBit_or, Nat.testBit_two_pow_self]
      simp
theorem any_mask0 (x : Nat) : (x &&& 16781311 != 0) = anyN x 0 := any_mask x 0 (Or.inl rfl)
theorem any_mask1 (x : Nat) : (x &&& 50327552 != 0) = anyN x 1 := any_mask x 1 (Or.inr rfl)
theorem any_with (x : Nat) (a b : Int) (h : okS a b = true) : anyN (withN x a b) a = true := by
  have h2 := okS_iff.1 h
  rw [any_iff h2.1]
  left
  refine ⟨b.toNat, by omega, ?_⟩
  unfold withN
  rw [if_pos h, testBit_setN, if_pos (by unfold bitAt; omega)]
theorem testBit_field {x y s f n : Nat} (h1 : y % 2 ^ f = x % 2 ^ f) (h2 : y / 2 ^ f % 2 ^ n = s) (h3 : y / 2 ^ (f + n) = x / 2 ^ (f + n)) (j : Nat) :
    y.testBit j = if j < f then x.testBit j else if j < f + n then s.testBit (j - f) else x.testBit j := by
  by_cases a : j < f
  · rw [if_pos a]
    have e1 : y.testBit j = (y % 2 ^ f).testBit j := by rw [Nat.testBit_mod_two_pow]; simp [a]
    have e2 : x.testBit j = (x % 2 ^ f).testBit j := by rw [Nat.testBit_mod_two_pow]; simp [a]
    rw [e1, e2, h1]
  · rw [if_neg a]
    by_cases c : j < f + n
    · rw [if_pos c, ← h2, Nat.testBit_mod_two_pow, Nat.testBit_div_two_pow]
      rw [show j - f + f = j by omega]
      simp
      omega
    · rw [if_neg c]
      have e1 : y.testBit j = (y / 2 ^ (f + n)).testBit (j - (f + n)) := by rw [Nat.testBit_div_two_pow, show j - (f + n) + (f + n) = j by omega]
      have e2 : x.testBit j = (x / 2 ^ (f + n)).testBit (j - (f + n)) := by rw [Nat.testBit_div_two_pow, show j - (f + n) + (f + n) = j by omega]
      rw [e1, e2, h3]
def stateN (x s : Nat) : Nat := x - 134217728 * part x 27 3 + 134217728 * s
def moveN (x s : Nat) (b : Bool) : Nat := setN (stateN x s) 26 b
theorem state_eqs (x s : Nat) (hs : s < 8) : stateN x s % 2 ^ 27 = x % 2 ^ 27 ∧ stateN x s / 2 ^ 27 % 2 ^ 3 = s ∧ stateN x s / 2 ^ (27 + 3) = x / 2 ^ (27 + 3) := by
  unfold stateN part
  refine ⟨by omega, by omega, by omega⟩
theorem state_word {x s : Nat} (hx : Word x) (hs : s < 8) : Word (stateN x s) := by
  unfold Word at *
  unfold stateN part
  omega
theorem move_word {x s : Nat} {b : Bool} (hx : Word x) (hs : s < 8) : Word (moveN x s b) := (state_word hx hs).setN (by decide)
theorem move_bits {x s : Nat} {b : Bool} (hs : s < 8) (j : Nat) :
    (moveN x s b).testBit j = if j = 26 then b else if 27 ≤ j ∧ j < 30 then s.testBit (j - 27) else x.testBit j := by
  unfold moveN
  obtain ⟨h1, h2, h3⟩ := state_eqs x s hs
  rw [testBit_setN, testBit_field h1 h2 h3]
  by_cases a : 26 = j
  · rw [if_pos a, if_pos a.symm]
  · rw [if_neg a, if_neg (show ¬ j = 26 by omega)]
    by_cases c : j < 27
    · rw [if_pos c, if_neg (show ¬ (27 ≤ j ∧ j < 30) by omega)]
    · rw [if_neg c]
      by_cases d : j < 30
      · rw [if_pos (show j < 27 + 3 by omega), if_pos (show 27 ≤ j ∧ j < 30 by omega)]
      · rw [if_neg (show ¬ j < 27 + 3 by omega), if_neg (show ¬ (27 ≤ j ∧ j < 30) by omega)]
theorem move_eq (x s : Nat) (b : Bool) (hx : Word x) (hs : s < 8) :
    (x &&& (18446744073709551615 - 1006632960)) ||| b.toNat * 2 ^ 26 ||| s * 2 ^ 27 = moveN x s b := by
  apply Nat.eq_of_testBit_eq
  intro j
  rw [move_bits hs, Nat.testBit_or, Nat.testBit_or, andNot_testBit x _ j hx (word_iff.2 (by decide)), Nat.testBit_mul_two_pow, Nat.testBit_mul_two_pow]
  rw [show (1006632960 : Nat) = (2 ^ 4 - 1) * 2 ^ 26 by decide, Nat.testBit_mul_two_pow, Nat.testBit_two_pow_sub_one]
  have hb : ∀ k, b.toNat.testBit k = (b && decide (k = 0)) := by
    intro k
    cases b
    · simp
    · cases k
      · simp
      · simp [Nat.testBit_succ]
  have hs' : ∀ k, 3 ≤ k → s.testBit k = false := fun k hk => bits_of_lt (n := 3) (by omega) k hk
  rw [hb]
  by_cases a : j = 26
  · subst a; simp
  · rw [if_neg a]
    by_cases c : 27 ≤ j ∧ j < 30
    · rw [if_pos c]
      have q1 : 26 ≤ j := by omega
      have q2 : j - 26 < 4 := by omega
      have q3 : ¬ (j - 26 = 0) := by omega
      simp [q1, q2, q3, c.1]
    · rw [if_neg c]
      by_cases d : j < 26
      · have q1 : ¬ 26 ≤ j := by omega
        have q2 : ¬ 27 ≤ j := by omega
        simp [q1, q2]
      · have q1 : 26 ≤ j := by omega
        have q2 : ¬ j - 26 < 4 := by omega
        have q3 : ¬ (j - 26 = 0) := by omega
        have q4 := hs' (j - 27) (by omega)
        simp [q1, q2, q3, q4]
def packN (g st : Int) (b i o : Bool) (n t : Int) : Nat :=
  t.toNat + 4096 * n.toNat + 16777216 * o.toNat + 33554432 * i.toNat + 67108864 * b.toNat + 134217728 * st.toNat + 1073741824 * g.toNat
def okSt (g st n t : Int) : Bool := decide (0 ≤ t ∧ t ≤ 4095 ∧ 0 ≤ n ∧ n ≤ 4095 ∧ 0 ≤ st ∧ st ≤ 7 ∧ 0 ≤ g ∧ g ≤ 1073741824)
def packV (g st : Int) (b i o : Bool) (n t : Int) : Nat := if okSt g st n t then packN g st b i o n t else 0
theorem packV_no {g st : Int} {b i o : Bool} {n t : Int} (h : okSt g st n t = false) : packV g st b i o n t = 0 := by unfold packV; simp [h]
theorem packV_yes {g st : Int} {b i o : Bool} {n t : Int} (h : okSt g st n t = true) : packV g st b i o n t = packN g st b i o n t := by unfold packV; simp [h]
theorem okSt_iff {g st n t : Int} : okSt g st n t = true ↔ 0 ≤ t ∧ t ≤ 4095 ∧ 0 ≤ n ∧ n ≤ 4095 ∧ 0 ≤ st ∧ st ≤ 7 ∧ 0 ≤ g ∧ g ≤ 1073741824 := by
  unfold okSt; exact decide_eq_true_iff
theorem setN_add (x i : Nat) (b : Bool) (h : x / 2 ^ i % 2 = 0) : setN x i b = x + b.toNat * 2 ^ i := by
  have hf : x.testBit i = false := by rw [testBit_eq_div]; exact decide_eq_false (by omega)
  unfold setN
  rw [hf]
  cases b
  · simp
  · simp
def baseN (g st n t : Int) : Nat := t.toNat + 4096 * n.toNat + 134217728 * st.toNat + 1073741824 * g.toNat
theorem base_put {g st : Int} {b i o : Bool} {n t : Int} (h : okSt g st n t = true) : setN (setN (setN (baseN g st n t) 24 o) 25 i) 26 b = packN g st b i o n t := by
  have hh : 0 ≤ t ∧ t ≤ 4095 ∧ 0 ≤ n ∧ n ≤ 4095 ∧ 0 ≤ st ∧ st ≤ 7 ∧ 0 ≤ g ∧ g ≤ 1073741824 := by unfold okSt at h; exact of_decide_eq_true h
  have ho : o.toNat ≤ 1 := by cases o <;> decide
  have hi : i.toNat ≤ 1 := by cases i <;> decide
  rw [setN_add (baseN g st n t) 24 o (by unfold baseN; omega)]
  rw [setN_add _ 25 i (by unfold baseN; omega)]
  rw [setN_add _ 26 b (by unfold baseN; omega)]
  unfold baseN packN
  omega
theorem base_word {g st n t : Int} (h : okSt g st n t = true) : Word (baseN g st n t) := by
  have hh : 0 ≤ t ∧ t ≤ 4095 ∧ 0 ≤ n ∧ n ≤ 4095 ∧ 0 ≤ st ∧ st ≤ 7 ∧ 0 ≤ g ∧ g ≤ 1073741824 := by unfold okSt at h; exact of_decide_eq_true h
  unfold Word baseN
  omega
theorem bool_le (b : Bool) : b.toNat ≤ 1 := by cases b <;> decide
end Um
namespace Go.Proofs.YtapgghciieloaaaGreat
section
set_option maxRecDepth 100000
open Go.RowKit
theorem hide {p : Prop} (h : p) : Hid p := h
theorem unhide {p : Prop} (h : Hid p) : p := h
theorem ret_u64 {a b : Int} (h : a = b) : Ending.returned (.int .u64 a) = .returned (.int .u64 b) := by rw [h]
theorem ret_i64 {a b : Int} (h : a = b) : Ending.returned (.int .i64 a) = .returned (.int .i64 b) := by rw [h]
theorem ret_bool {a b : Bool} (h : a = b) : Ending.returned (.bool a) = .returned (.bool b) := by rw [h]
theorem ne0 (n : Nat) : ((n : Int) != 0) = (n != 0) := by
  rw [Bool.eq_iff_iff, bne_iff_ne, bne_iff_ne]
  omega
theorem wrap_pow (n : Nat) (h : n < 64) : IntKind.u64.wrap ((2:Int) ^ n) = ((2 ^ n : Nat) : Int) := by
  have h1 : (2 ^ n : Nat) < 2 ^ 64 := Nat.pow_lt_pow_right (by decide) h
  have h2 : ((2:Int) ^ n) = ((2 ^ n : Nat) : Int) := by simp
  have h3 : (2:Nat) ^ 64 = 18446744073709551616 := by decide
  rw [h2, IntKind.wrap_u64]
  clear h2
  generalize (2 ^ n : Nat) = k at *
  omega
set_option maxHeartbeats 400000 in
theorem ones_any (a : Int) (w : World) (h : 0 ≤ a) (h2 : a < 64) :
    Calls Tryz.prog 130 #[.int .i64 a] w fun e w' => e = .returned (.int .u64 ((2 ^ a.toNat - 1 : Nat) : Int)) ∧ w' = w := by
  go_enter Tryz.func130, Tryz.ntmps130
  go_wp2
  go_ret
  refine ⟨ret_u64 ?_, rfl⟩
  rw [wrap_pow _ (by omega), IntKind.wrap_u64]
  have h1 : (2 ^ a.toNat : Nat) < 2 ^ 64 := Nat.pow_lt_pow_right (by decide) (by omega)
  have h3 : (2:Nat) ^ 64 = 18446744073709551616 := by decide
  have hp := Nat.two_pow_pos a.toNat
  generalize (2 ^ a.toNat : Nat) = k at *
  omega
set_option maxHeartbeats 400000 in
theorem flag_any (b : Bool) (w : World) :
    Calls Tryz.prog 138 #[.bool b] w fun e w' => e = .returned (.int .u64 (b.toNat : Int)) ∧ w' = w := by
  cases b
  all_goals
    go_enter Tryz.func138, Tryz.ntmps138
    go_wp2
    go_ret
    exact ⟨rfl, rfl⟩
set_option maxHeartbeats 400000 in
theorem isSide_any (a : Int) (w : World) :
    Calls Tryz.prog 175 #[.int .i64 a] w fun e w' => e = .returned (.bool (decide (a = 0 ∨ a = 1))) ∧ w' = w := by
  go_enter Tryz.func175, Tryz.ntmps175
  go_wp2
  all_goals go_ret
  all_goals refine ⟨ret_bool ?_, rfl⟩
  · simp [*]
  · rename_i h
    simp [h, Bool.beq_eq_decide_eq]
set_option maxHeartbeats 400000 in
theorem slotBit_any (a b : Int) (w : World) :
    Calls Tryz.prog 174 #[.int .i64 a, .int .i64 b] w fun e w' => e = .returned (.int .u64 (Um.slotN a b : Int)) ∧ w' = w := by
  by_cases ho : (a = 0 ∨ a = 1) ∧ 0 ≤ b ∧ b < 12
  · have e : Um.slotN a b = 2 ^ (12 * a + b).toNat := by unfold Um.slotN Um.bitAt; rw [if_pos (Um.okS_iff.2 ho)]
    have E : Hid (Um.slotN a b = 2 ^ (12 * a + b).toNat) := e
    clear e
    obtain ⟨ha, hb0, hb1⟩ := ho
    rcases ha with rfl | rfl
    all_goals
      go_enter Tryz.func174, Tryz.ntmps174
      go_wp2
      all_goals go_ret
      all_goals refine ⟨ret_u64 ?_, rfl⟩
      all_goals rw [E.out]
      all_goals rw [wrap_pow _ (by omega)]
      all_goals first | rfl | (congr 3; omega)
  · have e : Um.slotN a b = 0 := by unfold Um.slotN; rw [if_neg (fun h => ho (Um.okS_iff.1 h))]
    rw [e]
    go_enter Tryz.func174, Tryz.ntmps174
    go_wp2
    all_goals go_ret
    all_goals first | exact ⟨rfl, rfl⟩ | omega
set_option maxHeartbeats 400000 in
theorem sideAt_any (a : Int) (w : World) (h : a = 0 ∨ a = 1) :
    Calls Tryz.prog 176 #[.int .i64 a] w fun e w' => e = .returned (.int .i64 (12 * a)) ∧ w' = w := by
  rcases h with rfl | rfl
  all_goals
    go_enter Tryz.func176, Tryz.ntmps176
    go_wp2
    go_ret
    exact ⟨rfl, rfl⟩
set_option maxHeartbeats 400000 in
theorem pastBit_any (a : Int) (w : World) (h : a = 0 ∨ a = 1) :
    Calls Tryz.prog 177 #[.int .i64 a] w fun e w' => e = .returned (.int .u64 ((2 ^ (24 + a).toNat : Nat) : Int)) ∧ w' = w := by
  rcases h with rfl | rfl
  all_goals
    go_enter Tryz.func177, Tryz.ntmps177
    go_wp2
    go_ret
    exact ⟨rfl, rfl⟩
set_option maxHeartbeats 400000 in
theorem has_any (x : Nat) (a b : Int) (w : World) (hx : Um.Word x) :
    Calls Tryz.prog 167 #[.int .u64 x, .int .i64 a, .int .i64 b] w fun e w' => e = .returned (.bool (Um.hasN x a b)) ∧ w' = w := by
  go_enter Tryz.func167, Tryz.ntmps167
  go_wp2_with (go_at_call 174; refine (slotBit_any _ _ _).mono ?_; rintro e w' ⟨rfl, rfl⟩)
  go_ret
  refine ⟨ret_bool ?_, rfl⟩
  rw [u64_and_nat _ _ hx (Um.slot_word a b), ne0, Um.and_slot]
set_option maxHeartbeats 400000 in
theorem with_any (x : Nat) (a b : Int) (w : World) (hx : Um.Word x) :
    Calls Tryz.prog 179 #[.int .u64 x, .int .i64 a, .int .i64 b] w fun e w' => e = .returned (.int .u64 (Um.withN x a b)) ∧ w' = w := by
  go_enter Tryz.func179, Tryz.ntmps179
  go_wp2_with (go_at_call 174; refine (slotBit_any _ _ _).mono ?_; rintro e w' ⟨rfl, rfl⟩)
  go_ret
  refine ⟨ret_u64 ?_, rfl⟩
  rw [u64_or_nat _ _ hx (Um.slot_word a b), Um.or_slot]
theorem mask0 : bits .or .u64 4095 16777216 = ((16781311 : Nat) : Int) := by kernel_rfl
theorem mask1 : bits .or .u64 16773120 33554432 = ((50327552 : Nat) : Int) := by kernel_rfl
set_option maxHeartbeats 400000 in
theorem any_any (x : Nat) (a : Int) (w : World) (hx : Um.Word x) :
    Calls Tryz.prog 168 #[.int .u64 x, .int .i64 a] w fun e w' => e = .returned (.bool (Um.anyN x a)) ∧ ∃ n, w' = w.drewN n := by
  by_cases ha : a = 0 ∨ a = 1
  · rcases ha with rfl | rfl
    all_goals
      go_enter Tryz.func168, Tryz.ntmps168
      go_wp2_with (go_at_call 175; refine (isSide_any _ _).mono ?_; rintro e w' ⟨rfl, rfl⟩)
      go_quiet (first
        | (go_at_call 130; exact Calls.quiet_of_same (ones_any _ _ (by decide) (by decide)))
        | (go_at_call 176; exact Calls.quiet_of_same (sideAt_any _ _ (by decide)))
        | (go_at_call 177; exact Calls.quiet_of_same (pastBit_any _ _ (by decide))))
      go_wp2
      go_ret
      refine ⟨ret_bool ?_, ⟨_, rfl⟩⟩
      first | rw [mask0, u64_and_nat _ _ hx (by decide), ne0, Um.any_mask0] | rw [mask1, u64_and_nat _ _ hx (by decide), ne0, Um.any_mask1]
  · have h1 : Um.anyN x a = false := by unfold Um.anyN; simp [ha]
    rw [h1]
    have h2 : decide (a = 0 ∨ a = 1) = false := by simp [ha]
    clear ha h1
    go_enter Tryz.func168, Tryz.ntmps168
    go_wp2_with (go_at_call 175; refine (isSide_any _ _).mono ?_; rintro e w' ⟨rfl, rfl⟩)
    go_ret
    exact ⟨rfl, ⟨0, rfl⟩⟩
theorem wrap_word {n : Nat} (h : Um.Word n) : IntKind.u64.wrap (n : Int) = n := by
  unfold Um.Word at h
  rw [IntKind.wrap_u64]
  omega
theorem div_bit (x n : Nat) (hx : Um.Word x) : ((IntKind.u64.wrap ((x : Int) / 2 ^ n)).tmod 2 == 1) = x.testBit n := by
  have h1 : Um.Word (x / 2 ^ n) := Nat.lt_of_le_of_lt (Nat.div_le_self _ _) hx
  rw [show ((x : Int) / 2 ^ n) = ((x / 2 ^ n : Nat) : Int) by simp, wrap_word h1, Um.testBit_eq_div]
  generalize x / 2 ^ n = k at *
  rw [Bool.eq_iff_iff, beq_iff_eq, decide_eq_true_iff, Int.tmod_eq_emod_of_nonneg (by omega)]
  omega
theorem pow_word {n : Nat} (h : n < 64) : Um.Word (2 ^ n) := Um.word_iff.2 (Nat.pow_lt_pow_right (by decide) h)
set_option maxHeartbeats 400000 in
theorem power_any (a : Int) (w : World) (h0 : 0 ≤ a) (h1 : a < 64) :
    Calls Tryz.prog 68 #[.int .i64 a] w fun e w' => e = .returned (.int .u64 ((2 ^ a.toNat : Nat) : Int)) ∧ w' = w := by
  go_enter Tryz.func68, Tryz.ntmps68
  go_wp2
  go_loop [3, 4] (fun o i => ∃ k : Nat, (k : Int) ≤ a ∧ i = .int .i64 k ∧ o = .int .u64 ((2 ^ k : Nat) : Int)) (fun _ i => (a - intOf i).toNat)
  case atStart => exact ⟨0, h0, rfl, rfl⟩
  case round =>
    obtain ⟨k, hk, rfl, rfl⟩ := hrel
    by_cases hlt : (k : Int) < a
    · go_wp2
      go_round
      case rel =>
        refine ⟨k + 1, by omega, by go_num, ?_⟩
        rw [show (2 : Int) * 2 ^ k = ((2 ^ (k + 1) : Nat) : Int) by rw [Nat.pow_succ]; push_cast; exact Int.mul_comm _ _, wrap_word (pow_word (by omega))]
      case measure => simp [intOf]; omega
    · go_wp2
      go_ret
      refine ⟨ret_u64 ?_, rfl⟩
      rw [show a.toNat = k by omega]
set_option maxHeartbeats 400000 in
theorem bit_any (x : Nat) (a : Int) (w : World) (hx : Um.Word x) (h0 : 0 ≤ a) (h1 : a < 64) :
    Calls Tryz.prog 95 #[.int .u64 x, .int .i64 a] w fun e w' => e = .returned (.bool (x.testBit a.toNat)) ∧ w' = w := by
  have hp : ((2 ^ a.toNat : Nat) : Int) ≠ 0 := by have := Nat.two_pow_pos a.toNat; omega
  go_enter Tryz.func95, Tryz.ntmps95
  go_wp2_with (go_at_call 68; refine (power_any _ _ (by omega) (by omega)).mono ?_; rintro e w' ⟨rfl, rfl⟩)
  go_ret
  refine ⟨ret_bool ?_, rfl⟩
  exact div_bit _ _ hx
set_option maxHeartbeats 400000 in
theorem at_any (a b : Int) (w : World) :
    Calls Tryz.prog 78 #[.int .i64 a, .int .i64 b] w fun e w' => e = .returned (.int .i64 (if Um.okS a b then (Um.bitAt a b : Int) else -1)) ∧ w' = w := by
  by_cases ho : (a = 0 ∨ a = 1) ∧ 0 ≤ b ∧ b < 12
  · have e : (if Um.okS a b then (Um.bitAt a b : Int) else -1) = 12 * a + b := by rw [if_pos (Um.okS_iff.2 ho)]; unfold Um.bitAt; omega
    rw [e]
    clear e
    obtain ⟨ha, hb0, hb1⟩ := ho
    rcases ha with rfl | rfl
    all_goals
      go_enter Tryz.func78, Tryz.ntmps78
      go_wp2
      all_goals go_ret
      all_goals first | omega | exact ⟨ret_i64 (by omega), rfl⟩
  · have e : (if Um.okS a b then (Um.bitAt a b : Int) else -1) = -1 := by rw [if_neg (fun h => ho (Um.okS_iff.1 h))]
    rw [e]
    go_enter Tryz.func78, Tryz.ntmps78
    go_wp2
    all_goals go_ret
    all_goals first | exact ⟨rfl, rfl⟩ | omega
set_option maxHeartbeats 400000 in
theorem put_any (x : Nat) (a : Int) (b : Bool) (w : World) (hx : Um.Word x) (h0 : 0 ≤ a) (h1 : a < 64) :
    Calls Tryz.prog 64 #[.int .u64 x, .int .i64 a, .bool b] w fun e w' => e = .returned (.int .u64 (Um.setN x a.toNat b)) ∧ w' = w := by
  have hw := hx.setN (b := b) (show a.toNat < 64 by omega)
  by_cases hb : x.testBit a.toNat = b
  · have e : Um.setN x a.toNat b = x := Um.setN_self _ _ _ hb
    rw [e]
    have hbb : (x.testBit a.toNat == b) = true := by simp [hb]
    clear hb e hw
    go_enter Tryz.func64, Tryz.ntmps64
    go_wp2_with (go_at_call 95; refine (bit_any _ _ _ hx (by omega) (by omega)).mono ?_; rintro e w' ⟨rfl, rfl⟩)
    go_ret
    exact ⟨rfl, rfl⟩
  · have hbb : (x.testBit a.toNat == b) = false := by simp [hb]
    cases b with
    | true =>
      have e : Um.setN x a.toNat true = x + 2 ^ a.toNat := by unfold Um.setN; rw [if_neg hb]; rfl
      rw [e] at hw ⊢
      clear hb e
      go_enter Tryz.func64, Tryz.ntmps64
      go_wp2_with (first
        | (go_at_call 95; refine (bit_any _ _ _ hx (by omega) (by omega)).mono ?_; rintro e w' ⟨rfl, rfl⟩)
        | (go_at_call 68; refine (power_any _ _ (by omega) (by omega)).mono ?_; rintro e w' ⟨rfl, rfl⟩))
      go_ret
      refine ⟨ret_u64 ?_, rfl⟩
      rw [show ((x : Int) + 2 ^ a.toNat) = ((x + 2 ^ a.toNat : Nat) : Int) by simp, wrap_word hw]
    | false =>
      have hle : 2 ^ a.toNat ≤ x := Um.pow_le_of_testBit _ _ (by simpa using hb)
      have e : Um.setN x a.toNat false = x - 2 ^ a.toNat := by unfold Um.setN; rw [if_neg hb]; rfl
      rw [e] at hw ⊢
      clear hb e
      go_enter Tryz.func64, Tryz.ntmps64
      go_wp2_with (first
        | (go_at_call 95; refine (bit_any _ _ _ hx (by omega) (by omega)).mono ?_; rintro e w' ⟨rfl, rfl⟩)
        | (go_at_call 68; refine (power_any _ _ (by omega) (by omega)).mono ?_; rintro e w' ⟨rfl, rfl⟩))
      go_ret
      refine ⟨ret_u64 ?_, rfl⟩
      rw [show ((x : Int) - 2 ^ a.toNat) = ((x - 2 ^ a.toNat : Nat) : Int) by rw [Int.ofNat_sub hle]; simp, wrap_word hw]
theorem wrap64_small (n : Nat) (h : n < 9223372036854775808) : wrap64 (n : Int) = n := by
  unfold wrap64
  omega
theorem div_part (x s n : Nat) (hx : Um.Word x) (hn : n < 63) : wrap64 ((IntKind.u64.wrap ((x : Int) / 2 ^ s)).tmod (2 ^ n)) = (Um.part x s n : Int) := by
  have h1 : Um.Word (x / 2 ^ s) := Nat.lt_of_le_of_lt (Nat.div_le_self _ _) hx
  have h2 : Um.part x s n < 9223372036854775808 := by
    have := Um.part_lt x s n
    have h3 : 2 ^ n < 2 ^ 63 := Nat.pow_lt_pow_right (by decide) hn
    rw [show (2:Nat) ^ 63 = 9223372036854775808 by decide] at h3
    omega
  rw [show ((x : Int) / 2 ^ s) = ((x / 2 ^ s : Nat) : Int) by simp, wrap_word h1]
  have e : Int.tmod ((x / 2 ^ s : Nat) : Int) (2 ^ n) = (Um.part x s n : Int) := by
    rw [Int.tmod_eq_emod_of_nonneg (Int.natCast_nonneg _), show ((2:Int) ^ n) = ((2 ^ n : Nat) : Int) by simp, ← Int.natCast_emod]
    rfl
  rw [e, wrap64_small _ h2]
set_option maxHeartbeats 400000 in
theorem number_any (x : Nat) (a b : Int) (w : World) (hx : Um.Word x) (h0 : 0 ≤ a) (h1 : a < 64) (h2 : 0 ≤ b) (h3 : b < 63) :
    Calls Tryz.prog 69 #[.int .u64 x, .int .i64 a, .int .i64 b] w fun e w' => e = .returned (.int .i64 (Um.part x a.toNat b.toNat)) ∧ ∃ n, w' = w.drewN n := by
  have hp : ((2:Int) ^ a.toNat) ≠ 0 := by have := Int.pow_pos (n := 2) (m := a.toNat) (by decide); omega
  have hq : ((2:Int) ^ b.toNat) ≠ 0 := by have := Int.pow_pos (n := 2) (m := b.toNat) (by decide); omega
  go_enter Tryz.func69, Tryz.ntmps69
  go_wp2
  go_quiet ((go_at_call 68; exact Calls.quiet_of_same (power_any _ _ (by omega) (by omega))))
  go_wp2
  go_ret
  refine ⟨ret_i64 ?_, ⟨_, rfl⟩⟩
  exact div_part _ _ _ hx (by omega)
end
section
set_option maxRecDepth 100000
open Go.RowKit
theorem or_word {x y : Nat} (hx : Um.Word x) (hy : Um.Word y) : Um.Word (x ||| y) :=
  Um.word_iff.2 (Nat.or_lt_two_pow (Um.word_iff.1 hx) (Um.word_iff.1 hy))
theorem word_of {a : Int} (h : (Lit.int .u64 a).wf = true) : ∃ x : Nat, a = x ∧ Um.Word x := by
  have hx : 0 ≤ a ∧ a ≤ 18446744073709551615 := by simpa [Lit.wf, IntKind.min, IntKind.max, IntKind.signed, IntKind.bits] using h
  obtain ⟨n, rfl⟩ := Int.eq_ofNat_of_zero_le hx.1
  exact ⟨n, rfl, by unfold Um.Word; omega⟩
theorem int_of {a : Int} (h : (Lit.int .i64 a).wf = true) : -9223372036854775808 ≤ a ∧ a ≤ 9223372036854775807 := by
  simpa [Lit.wf, IntKind.min, IntKind.max, IntKind.signed, IntKind.bits] using h
theorem alloc_drewN (w : World) (n : Nat) (o : Obj) : (w.drewN n).alloc o = (w.alloc o).drewN n := rfl
theorem setCell_drewN (w : World) (n : Nat) (a : Addr) (v : Value) : (w.drewN n).setCell a v = (w.setCell a v).drewN n := rfl
theorem bcell {W w1 : World} (hb : Below W.heap.size W w1) : (∀ b o, b < W.heap.size → w1.cell? ⟨b, o, none⟩ = W.cell? ⟨b, o, none⟩) ∧ (∀ b o, b < W.heap.size → w1.frozen? ⟨b, o, none⟩ = W.frozen? ⟨b, o, none⟩) :=
  ⟨fun b o h => hb.cell (p := ⟨b, o, none⟩) h, fun b o h => hb.frozen (p := ⟨b, o, none⟩) h⟩
end
section
set_option maxRecDepth 100000
open Go.ChangeShapes Go.WideShapes Go.ChangeAt Go.RowKit
theorem cellsCfg : Tryz.prog.cellsOf 24 = 5 := by kernel_rfl
theorem cellsCfgI : Tryz.prog.cellsOf 3 = 1 := by kernel_rfl
theorem cellsCfgU : Tryz.prog.cellsOf 22 = 1 := by kernel_rfl
theorem array5 {α : Type} {cs : Array α} (h : cs.size = 5) : ∃ c0 c1 c2 c3 c4, cs = #[c0, c1, c2, c3, c4] := by
  obtain ⟨l⟩ := cs
  match l, h with
  | [c0, c1, c2, c3, c4], _ => exact ⟨c0, c1, c2, c3, c4, rfl⟩
theorem list5 {α : Type} {cs : List α} (h : cs.length = 5) : ∃ c0 c1 c2 c3 c4, cs = [c0, c1, c2, c3, c4] := by
  match cs, h with
  | [c0, c1, c2, c3, c4], _ => exact ⟨c0, c1, c2, c3, c4, rfl⟩
set_option maxRecDepth 100000 in
theorem open_cfg {H : Type} {enc : TypeId × Value → H} {W : World} {base : Nat} {v : Value} {d : DataW H} {p : List MemPlace}
    (hv : Value.okWide Tryz.prog W .any base 24 v) (h : DataW.Trod enc Tryz.prog W 0 (fun _ => true) true 24 v d p) :
    ∃ (t s k g : Int) (q : Nat), v = .agg #[.int .i64 t, .int .i64 s, .int .i64 k, .int .i64 g, .int .u64 q] ∧ (-9223372036854775808 ≤ t ∧ t ≤ 9223372036854775807) ∧ (-9223372036854775808 ≤ s ∧ s ≤ 9223372036854775807) ∧ (-9223372036854775808 ≤ k ∧ k ≤ 9223372036854775807) := by
  obtain ⟨cs, rfl, hsz⟩ := okWide_struct Tryz.underlying24 hv
  obtain ⟨c0, c1, c2, c3, c4, rfl⟩ := array5 (hsz.trans cellsCfg)
  obtain ⟨fuel, hf⟩ := h
  obtain ⟨xs, n, _, _, hl, hlen, hx⟩ := DataW.trod_struct Tryz.underlying24 hf
  obtain ⟨y0, y1, y2, y3, y4, rfl⟩ := list5 hlen
  obtain ⟨t, e0, _, k0⟩ := DataW.trod_int Tryz.underlying3 (hx 0 _ rfl)
  obtain ⟨s, e1, _, k1⟩ := DataW.trod_int Tryz.underlying3 (hx 1 _ rfl)
  obtain ⟨k, e2, _, k2⟩ := DataW.trod_int Tryz.underlying3 (hx 2 _ rfl)
  obtain ⟨g, e3, _, _⟩ := DataW.trod_int Tryz.underlying3 (hx 3 _ rfl)
  obtain ⟨q, e4, _, k4⟩ := DataW.trod_int Tryz.underlying22 (hx 4 _ rfl)
  obtain ⟨q', rfl, _⟩ := word_of k4
  simp [Value.cells, cellsCfgI, cellsCfgU] at e0 e1 e2 e3 e4
  subst e0 e1 e2 e3 e4
  exact ⟨t, s, k, g, q', rfl, int_of k0, int_of k1, int_of k2⟩
end
end Go.Proofs.YtapgghciieloaaaGreat
namespace Um
set_option maxRecDepth 100000
def rt (t s k g : Int) (q : Nat) : Bool := decide (1 ≤ t ∧ t ≤ 8 ∧ 1 ≤ s ∧ s ≤ 12 ∧ 1 ≤ k ∧ k ≤ 8 ∧ 0 ≤ g ∧ g ≤ 1073741823 ∧ q ≤ 1099511627775)
def Rb (r : Bool) (t s k : Int) : Prop := r = true → 1 ≤ t ∧ t ≤ 8 ∧ 1 ≤ s ∧ s ≤ 12 ∧ 1 ≤ k ∧ k ≤ 8
theorem rt_rb (t s k g : Int) (q : Nat) : Rb (rt t s k g q) t s k := by
  intro h
  have := of_decide_eq_true h
  omega
def thN (r : Bool) (t s k : Int) (j : Nat) : Int := if r then (if j < 2 then 1 else if j = 2 then t else if j = 3 then s else k) else 0
def kiN (r : Bool) (j : Nat) : Int := if r then (if j = 3 then 4 else 1) else 0
def fiN (r : Bool) (j : Nat) : Int := if r then (if j = 4 then 8 else (j : Int) + 1) else 0
def lnN (r : Bool) (t s k : Int) (j : Nat) : Int := if r then (if j < 2 then 1 else if j = 2 then t else if j = 3 then 4 * s else k) else 0
def offN (r : Bool) (t s k : Int) (j : Nat) : Int := if r then (if j < 3 then (j : Int) else if j = 3 then 2 + t else if j = 4 then 2 + t + 4 * s else 2 + t + 4 * s + k) else 0
def clen (r : Bool) (t s k : Int) : Int := if r then 2 + t + 4 * s + k else 0
def atK (r : Bool) (t s k x : Int) : Int :=
  if r = true ∧ 0 ≤ x then (if x < 1 then 1 else if x < 2 then 2 else if x < 2 + t then 3 else if x < 2 + t + 4 * s then 4 + (x - 2 - t) % 4 else if x < 2 + t + 4 * s + k then 8 else 0) else 0
def atO (r : Bool) (t s k x : Int) : Int :=
  if r = true ∧ 0 ≤ x then (if x < 1 then 0 else if x < 2 then 0 else if x < 2 + t then x - 2 else if x < 2 + t + 4 * s then (x - 2 - t) / 4 else if x < 2 + t + 4 * s + k then x - 2 - t - 4 * s else 0) else 0
def cellN (r : Bool) (t s k a b : Int) : Int :=
  if r = true then
    (if a = 1 ∧ b = 0 then 0 else if a = 2 ∧ b = 0 then 1 else if a = 3 ∧ 0 ≤ b ∧ b < t then 2 + b
     else if 4 ≤ a ∧ a ≤ 7 ∧ 0 ≤ b ∧ b < s then 2 + t + 4 * b + a - 4 else if a = 8 ∧ 0 ≤ b ∧ b < k then 2 + t + 4 * s + b else -1)
  else -1
def wr (x : Int) : Int := (x + 9223372036854775808) % 18446744073709551616 - 9223372036854775808
def plc (r : Bool) (t s a b : Int) : Int :=
  if r = true then
    (if a = 1 then wr b else if a = 2 then wr (1 + b) else if a = 3 then wr (2 + b)
     else if 4 ≤ a ∧ a ≤ 7 then wr (2 + t + 4 * b + a - 4) else if a = 8 then wr (2 + t + 4 * s + b) else -1)
  else -1
theorem below5 {j : Nat} (h : j < 5) : j = 0 ∨ j = 1 ∨ j = 2 ∨ j = 3 ∨ j = 4 := by omega
theorem off_zero (r : Bool) (t s k : Int) : offN r t s k 0 = 0 := by cases r <;> simp [offN]
theorem off_five (r : Bool) (t s k : Int) : offN r t s k 5 = clen r t s k := by cases r <;> simp [offN, clen]
theorem off_succ (r : Bool) (t s k : Int) {j : Nat} (h : j < 5) : offN r t s k j + lnN r t s k j = offN r t s k (j + 1) := by
  cases r
  · simp [offN, lnN]
  · rcases below5 h with rfl | rfl | rfl | rfl | rfl <;> simp [offN, lnN]
theorem ln_eq (r : Bool) (t s k : Int) {j : Nat} (h : j < 5) : thN r t s k j * kiN r j = lnN r t s k j := by
  cases r
  · simp [thN, kiN, lnN]
  · rcases below5 h with rfl | rfl | rfl | rfl | rfl <;> simp [thN, kiN, lnN]
    omega
theorem ln_bd {r : Bool} {t s k : Int} (hr : Rb r t s k) (j : Nat) : 0 ≤ lnN r t s k j ∧ lnN r t s k j ≤ 48 := by
  cases r
  · simp [lnN]
  · have := hr rfl
    simp only [lnN, if_true]
    (repeat' split) <;> omega
theorem off_bd {r : Bool} {t s k : Int} (hr : Rb r t s k) (j : Nat) : 0 ≤ offN r t s k j ∧ offN r t s k j ≤ 66 := by
  cases r
  · simp [offN]
  · have := hr rfl
    simp only [offN, if_true]
    (repeat' split) <;> omega
theorem clen_bd {r : Bool} {t s k : Int} (hr : Rb r t s k) : 0 ≤ clen r t s k ∧ clen r t s k ≤ 66 := by
  rw [← off_five]
  exact off_bd hr 5
theorem ki_bd (r : Bool) (j : Nat) : 0 ≤ kiN r j ∧ kiN r j ≤ 4 := by
  cases r <;> simp only [kiN] <;> (repeat' split) <;> simp_all
theorem fi_bd (r : Bool) {j : Nat} (h : j < 5) : 0 ≤ fiN r j ∧ fiN r j ≤ 8 := by
  cases r <;> simp only [fiN] <;> (repeat' split) <;> simp_all <;> omega
theorem ki_pos {r : Bool} {t s k : Int} {j : Nat} (h : 0 < lnN r t s k j) : 1 ≤ kiN r j := by
  cases r
  · simp [lnN] at h
  · simp only [kiN, if_true]
    split <;> decide
theorem at_run {r : Bool} {t s k : Int} (hr : Rb r t s k) {j : Nat} (hj : j < 5) {x : Int} (h0 : offN r t s k j ≤ x) (h1 : x - offN r t s k j < lnN r t s k j) :
    fiN r j + (x - offN r t s k j) % kiN r j = atK r t s k x ∧ (x - offN r t s k j) / kiN r j = atO r t s k x := by
  cases r
  · simp [offN, lnN] at h0 h1
    omega
  · have hb := hr rfl
    rcases below5 hj with rfl | rfl | rfl | rfl | rfl <;> simp [offN, lnN] at h0 h1 <;> simp [offN, kiN, fiN, atK, atO]
    all_goals
      refine ⟨?_, ?_⟩ <;> (repeat' split) <;> omega
theorem at_out {r : Bool} {t s k : Int} (hr : Rb r t s k) {x : Int} (h : clen r t s k ≤ x) : atK r t s k x = 0 ∧ atO r t s k x = 0 := by
  cases r
  · simp [atK, atO]
  · have hb := hr rfl
    simp [clen] at h
    simp only [atK, atO, true_and]
    refine ⟨?_, ?_⟩ <;> (repeat' split) <;> omega
theorem at_neg {r : Bool} {t s k x : Int} (h : x < 0) : atK r t s k x = 0 ∧ atO r t s k x = 0 := by
  simp only [atK, atO]
  refine ⟨?_, ?_⟩ <;> (repeat' split) <;> omega
theorem plc_hit {r : Bool} {t s k a b : Int} {j : Nat} (hj : j < 5) (h0 : fiN r j ≤ a) (h1 : a ≤ fiN r j + kiN r j - 1) : wr (offN r t s k j + b * kiN r j + a - fiN r j) = plc r t s a b := by
  cases r
  · simp [fiN, kiN] at h0 h1
    omega
  · rcases below5 hj with rfl | rfl | rfl | rfl | rfl <;> simp [fiN, kiN] at h0 h1 <;> simp only [offN, fiN, kiN, plc, if_true]
    all_goals
      simp
      (repeat' split) <;> first | omega | (congr 1; omega)
theorem plc_miss {r : Bool} {t s a b : Int} (h : ∀ j, j < 5 → ¬ (fiN r j ≤ a ∧ a ≤ fiN r j + kiN r j - 1)) : plc r t s a b = -1 := by
  cases r
  · simp [plc]
  · have h0 := h 0 (by omega)
    have h1 := h 1 (by omega)
    have h2 := h 2 (by omega)
    have h3 := h 3 (by omega)
    have h4 := h 4 (by omega)
    simp [fiN, kiN] at h0 h1 h2 h3 h4
    simp only [plc, if_true]
    (repeat' split) <;> omega
theorem at_eqs {t s k x : Int} (hb : 1 ≤ t ∧ t ≤ 8 ∧ 1 ≤ s ∧ s ≤ 12 ∧ 1 ≤ k ∧ k ≤ 8) :
    (x < 0 ∧ atK true t s k x = 0 ∧ atO true t s k x = 0) ∨ (x = 0 ∧ atK true t s k x = 1 ∧ atO true t s k x = 0) ∨ (x = 1 ∧ atK true t s k x = 2 ∧ atO true t s k x = 0) ∨
    (2 ≤ x ∧ x < 2 + t ∧ atK true t s k x = 3 ∧ atO true t s k x = x - 2) ∨
    (2 + t ≤ x ∧ x < 2 + t + 4 * s ∧ atK true t s k x = 4 + (x - 2 - t) % 4 ∧ atO true t s k x = (x - 2 - t) / 4) ∨
    (2 + t + 4 * s ≤ x ∧ x < 2 + t + 4 * s + k ∧ atK true t s k x = 8 ∧ atO true t s k x = x - 2 - t - 4 * s) ∨
    (2 + t + 4 * s + k ≤ x ∧ atK true t s k x = 0 ∧ atO true t s k x = 0) := by
  simp only [atK, atO, true_and]
  (repeat' split) <;> omega
theorem cell_eqs (t s k a b : Int) :
    (a = 1 ∧ b = 0 ∧ cellN true t s k a b = 0) ∨ (a = 2 ∧ b = 0 ∧ cellN true t s k a b = 1) ∨ (a = 3 ∧ 0 ≤ b ∧ b < t ∧ cellN true t s k a b = 2 + b) ∨
    (4 ≤ a ∧ a ≤ 7 ∧ 0 ≤ b ∧ b < s ∧ cellN true t s k a b = 2 + t + 4 * b + a - 4) ∨ (a = 8 ∧ 0 ≤ b ∧ b < k ∧ cellN true t s k a b = 2 + t + 4 * s + b) ∨
    (cellN true t s k a b = -1 ∧ ¬ (a = 1 ∧ b = 0) ∧ ¬ (a = 2 ∧ b = 0) ∧ ¬ (a = 3 ∧ 0 ≤ b ∧ b < t) ∧ ¬ (4 ≤ a ∧ a ≤ 7 ∧ 0 ≤ b ∧ b < s) ∧ ¬ (a = 8 ∧ 0 ≤ b ∧ b < k)) := by
  simp only [cellN, if_true]
  (repeat' split) <;> omega
theorem plc_eqs (t s a b : Int) :
    (a = 1 ∧ plc true t s a b = wr b) ∨ (a = 2 ∧ plc true t s a b = wr (1 + b)) ∨ (a = 3 ∧ plc true t s a b = wr (2 + b)) ∨
    (4 ≤ a ∧ a ≤ 7 ∧ plc true t s a b = wr (2 + t + 4 * b + a - 4)) ∨ (a = 8 ∧ plc true t s a b = wr (2 + t + 4 * s + b)) ∨
    (plc true t s a b = -1 ∧ ¬ (1 ≤ a ∧ a ≤ 8)) := by
  simp only [plc, if_true]
  (repeat' split) <;> omega
theorem plc_cell {r : Bool} {t s k a b : Int} (hr : Rb r t s k) (hb0 : -9223372036854775808 ≤ b) (hb1 : b ≤ 9223372036854775807) :
    (atK r t s k (plc r t s a b) = a ∧ atO r t s k (plc r t s a b) = b → plc r t s a b = cellN r t s k a b) ∧
    (¬ (atK r t s k (plc r t s a b) = a ∧ atO r t s k (plc r t s a b) = b) → cellN r t s k a b = -1) := by
  cases r
  · simp [plc, cellN]
  · have hb := hr rfl
    have hc := cell_eqs t s k a b
    have hp := plc_eqs t s a b
    have ha := at_eqs (x := plc true t s a b) hb
    generalize cellN true t s k a b = c at *
    generalize plc true t s a b = p at *
    generalize atK true t s k p = u at *
    generalize atO true t s k p = v at *
    simp only [wr] at hp
    rcases hp with hp | hp | hp | hp | hp | hp <;> rcases ha with ha | ha | ha | ha | ha | ha | ha <;> rcases hc with hc | hc | hc | hc | hc | hc <;> omega
theorem cell_bd {r : Bool} {t s k : Int} (hr : Rb r t s k) (a b : Int) : -1 ≤ cellN r t s k a b ∧ cellN r t s k a b < clen r t s k + (if r then 0 else 1) := by
  cases r
  · simp [cellN, clen]
  · have hb := hr rfl
    simp only [cellN, clen, if_true]
    (repeat' split) <;> omega
theorem at_cell {r : Bool} {t s k x : Int} (hr : Rb r t s k) (h0 : 0 ≤ x) (h1 : x < clen r t s k) : cellN r t s k (atK r t s k x) (atO r t s k x) = x := by
  cases r
  · simp [clen] at h1
    omega
  · have hb := hr rfl
    simp [clen] at h1
    have hc := cell_eqs t s k (atK true t s k x) (atO true t s k x)
    have ha := at_eqs (x := x) hb
    generalize cellN true t s k _ _ = c at *
    generalize atK true t s k x = u at *
    generalize atO true t s k x = v at *
    rcases ha with ha | ha | ha | ha | ha | ha | ha <;> rcases hc with hc | hc | hc | hc | hc | hc <;> omega
theorem cell_at {r : Bool} {t s k a b : Int} (hr : Rb r t s k) (h : 0 ≤ cellN r t s k a b) : cellN r t s k a b < clen r t s k ∧ atK r t s k (cellN r t s k a b) = a ∧ atO r t s k (cellN r t s k a b) = b := by
  cases r
  · simp [cellN] at h
  · have hb := hr rfl
    simp only [clen, if_true]
    have hc := cell_eqs t s k a b
    have ha := at_eqs (x := cellN true t s k a b) hb
    generalize cellN true t s k a b = c at *
    generalize atK true t s k c = u at *
    generalize atO true t s k c = v at *
    rcases hc with hc | hc | hc | hc | hc | hc <;> rcases ha with ha | ha | ha | ha | ha | ha | ha <;> omega
end Um
namespace Go.Proofs.YtapgghciieloaaaGreat
section
set_option maxRecDepth 100000
open Go.RowKit Go.Sort
theorem run_equalIn_pair {P : Program} (w : World) (d : Nat) (t e : TypeId) (k : IntKind) (ht : P.underlying t = some (.array 2 e)) (he : P.underlying e = some (.int k)) (hsz : ∀ w, (sizeOf e).run P w = .ok 1 w) (a b a' b' : Int) :
    (Op.equalIn (d + 2) t (.agg #[.int k a, .int k b]) (.agg #[.int k a', .int k b'])).run P w = .ok (decide (a = a' ∧ b = b')) w := by
  rw [Op.equalIn]
  simp only [Sem.run_bind, run_underlying ht, Result.andThen_ok, hsz, Std.Legacy.Range.forIn_eq_forIn_range', Std.Legacy.Range.size, Nat.sub_zero, Nat.add_sub_cancel, Nat.div_one]
  rw [show List.range' 0 2 1 = [0, 1] from rfl]
  have p0 : ∀ (u v : Int) (w : World), (part e #[.int k u, .int k v] (0 * 1)).run P w = .ok (.int k u) w := fun u v w => by simp [part, isAgg, run_underlying he]
  have pe : ∀ (u v : Int) (w : World), (Op.equalIn (d + 1) e (.int k u) (.int k v)).run P w = .ok (u == v) w := fun u v w => run_equalIn_int w d e k k u v he
  have p2 : ∀ (u v : Int) (w : World), (part e #[.int k u, .int k v] 1).run P w = .ok (.int k v) w := fun u v w => by simp [part, isAgg, run_underlying he]
  simp only [List.forIn_cons, List.forIn_nil, Sem.run_bind, p0, pe, Result.andThen_ok]
  by_cases h0 : a = a'
  · by_cases h1 : b = b' <;> simp [h0, h1, p2, pe]
  · simp [h0]
theorem sizeI (w : World) : (sizeOf 3).run Tryz.prog w = .ok 1 w := by go_simp
theorem neqParts {a b a' b' : Int} {r : Bool} (hr : decide (a = a' ∧ b = b') = r) (w : World) : (binOp .neq 143 (.agg #[.int .i64 a, .int .i64 b]) (.agg #[.int .i64 a', .int .i64 b'])).run Tryz.prog w = .ok (.bool (!r)) w := by
  rw [run_neq_struct, run_equalIn_pair w 9998 _ _ _ Tryz.underlying143 Tryz.underlying3 sizeI, hr]
  rfl
theorem same_below {P : Program} {f : FuncId} {args : Array Value} {w : World} {v : Value} (h : Calls P f args w fun e w' => e = .returned v ∧ w' = w) : Calls P f args w fun e w' => e = .returned v ∧ Below w.heap.size w w' :=
  h.mono fun _ _ h => ⟨h.1, h.2 ▸ Below.refl _ _⟩
end
section
set_option maxRecDepth 100000
open Go.RowKit Go.Sort
theorem eqSpot (T : TypeId) (hT : T = 67 ∨ T = 31) (s p s' p' : Int) (w : World) :
    (Op.equalIn 10000 T (.agg #[.int .i64 s, .int .i64 p]) (.agg #[.int .i64 s', .int .i64 p'])).run Tryz.prog w = .ok (decide (s = s' ∧ p = p')) w := by
  rw [show (10000:Nat) = 9999 + 1 from rfl]
  rcases hT with rfl | rfl
  all_goals
    rw [run_equalIn_agg w 9999 _ _ _ (by kernel_rfl) (by kernel_rfl)]
    go_simp
    (repeat' split) <;> simp_all
theorem neqSpot (T : TypeId) (hT : T = 67 ∨ T = 31) {s p s' p' : Int} {r : Bool} (hr : r = decide (s = s' ∧ p = p')) (w : World) :
    (binOp .neq T (.agg #[.int .i64 s, .int .i64 p]) (.agg #[.int .i64 s', .int .i64 p'])).run Tryz.prog w = .ok (.bool (!r)) w := by
  rw [run_neq_struct, eqSpot T hT, hr]
  rfl
set_option maxHeartbeats 400000 in
theorem cWithin_any (n a b : Int) (w : World) :
    Calls Tryz.prog 99 #[.int .i64 n, .int .i64 a, .int .i64 b] w fun e w' => e = .returned (.bool (decide (a ≤ n ∧ n ≤ b))) ∧ w' = w := by
  by_cases h1 : a ≤ n
  · go_enter Tryz.func99, Tryz.ntmps99
    go_wp2
    go_ret
    exact ⟨ret_bool (by simp [h1]), rfl⟩
  · go_enter Tryz.func99, Tryz.ntmps99
    go_wp2
    go_ret
    exact ⟨ret_bool (by rw [Bool.eq_iff_iff]; simp; omega), rfl⟩
set_option maxHeartbeats 400000 in
theorem cLenOf_any (a b f n : Int) (w : World) (h : a * b = n) (h0 : 0 ≤ n) (h1 : n ≤ 48) :
    Calls Tryz.prog 77 #[.agg #[.int .i64 a, .int .i64 b, .int .i64 f]] w fun e w' => e = .returned (.int .i64 n) ∧ Below w.heap.size w w' := by
  go_enter Tryz.func77, Tryz.ntmps77
  go_wp2
  go_ret
  refine ⟨ret_i64 ?_, (Below.refl _ _).alloc (Nat.le_refl _) _⟩
  first | rfl | exact h
set_option maxHeartbeats 1000000 in
theorem cRight_any (t s k g : Int) (q : Nat) (w : World) :
    Calls Tryz.prog 80 #[(.agg #[.int .i64 t, .int .i64 s, .int .i64 k, .int .i64 g, .int .u64 (q : Int)])] w fun e w' => e = .returned (.bool (Um.rt t s k g q)) ∧ Below w.heap.size w w' := by
  have key : Um.rt t s k g q = (decide (1 ≤ t ∧ t ≤ 8) && decide (1 ≤ s ∧ s ≤ 12) && decide (1 ≤ k ∧ k ≤ 8) && decide (0 ≤ g ∧ g ≤ 1073741823) && decide ((q : Int) ≤ 1099511627775)) := by
    rw [Bool.eq_iff_iff]
    simp [Um.rt]
    omega
  rw [key]
  clear key
  have b1 := cWithin_any t 1 8
  have b2 := cWithin_any s 1 12
  have b3 := cWithin_any k 1 8
  have b4 := cWithin_any g 0 1073741823
  generalize decide (1 ≤ t ∧ t ≤ 8) = v1 at *
  generalize decide (1 ≤ s ∧ s ≤ 12) = v2 at *
  generalize decide (1 ≤ k ∧ k ≤ 8) = v3 at *
  generalize decide (0 ≤ g ∧ g ≤ 1073741823) = v4 at *
  cases v1
  · go_enter Tryz.func80, Tryz.ntmps80
    go_wp2_with fail
    refine (b1 _).mono ?_
    rintro e w1 ⟨rfl, rfl⟩
    go_wp2
    go_ret
    exact ⟨rfl, (Below.refl _ _).alloc (Nat.le_refl _) _⟩
  cases v2
  · go_enter Tryz.func80, Tryz.ntmps80
    go_wp2_with fail
    refine (b1 _).mono ?_
    rintro e w1 ⟨rfl, rfl⟩
    go_wp2_with fail
    refine (b2 _).mono ?_
    rintro e w2 ⟨rfl, rfl⟩
    go_wp2
    go_ret
    exact ⟨rfl, (Below.refl _ _).alloc (Nat.le_refl _) _⟩
  cases v3
  · go_enter Tryz.func80, Tryz.ntmps80
    go_wp2_with fail
    refine (b1 _).mono ?_
    rintro e w1 ⟨rfl, rfl⟩
    go_wp2_with fail
    refine (b2 _).mono ?_
    rintro e w2 ⟨rfl, rfl⟩
    go_wp2_with fail
    refine (b3 _).mono ?_
    rintro e w3 ⟨rfl, rfl⟩
    go_wp2
    go_ret
    exact ⟨rfl, (Below.refl _ _).alloc (Nat.le_refl _) _⟩
  cases v4
  · go_enter Tryz.func80, Tryz.ntmps80
    go_wp2_with fail
    refine (b1 _).mono ?_
    rintro e w1 ⟨rfl, rfl⟩
    go_wp2_with fail
    refine (b2 _).mono ?_
    rintro e w2 ⟨rfl, rfl⟩
    go_wp2_with fail
    refine (b3 _).mono ?_
    rintro e w3 ⟨rfl, rfl⟩
    go_wp2_with fail
    refine (b4 _).mono ?_
    rintro e w4 ⟨rfl, rfl⟩
    go_wp2
    go_ret
    exact ⟨rfl, (Below.refl _ _).alloc (Nat.le_refl _) _⟩
  · go_enter Tryz.func80, Tryz.ntmps80
    go_wp2_with fail
    refine (b1 _).mono ?_
    rintro e w1 ⟨rfl, rfl⟩
    go_wp2_with fail
    refine (b2 _).mono ?_
    rintro e w2 ⟨rfl, rfl⟩
    go_wp2_with fail
    refine (b3 _).mono ?_
    rintro e w3 ⟨rfl, rfl⟩
    go_wp2_with fail
    refine (b4 _).mono ?_
    rintro e w4 ⟨rfl, rfl⟩
    go_wp2
    go_ret
    exact ⟨rfl, (Below.refl _ _).alloc (Nat.le_refl _) _⟩
def IsRuns (r : Bool) (t s k : Int) (v : Value) : Prop :=
  ∀ j : Nat, j < 5 → ∀ w, Sem.run Tryz.prog (Instr.index 138 v (.int .i64 (j : Int))) w = .ok (.agg #[.int .i64 (Um.thN r t s k j), .int .i64 (Um.kiN r j), .int .i64 (Um.fiN r j)]) w
theorem isRuns_no (t s k : Int) : IsRuns false t s k (.agg #[.int .i64 0, .int .i64 0, .int .i64 0, .int .i64 0, .int .i64 0, .int .i64 0, .int .i64 0, .int .i64 0, .int .i64 0, .int .i64 0, .int .i64 0, .int .i64 0, .int .i64 0, .int .i64 0, .int .i64 0]) := by
  intro j hj w
  rcases Um.below5 hj with rfl | rfl | rfl | rfl | rfl <;> simp [Instr.index, go_sem, Um.thN, Um.kiN, Um.fiN]
theorem isRuns_yes (t s k : Int) : IsRuns true t s k (.agg #[.int .i64 1, .int .i64 1, .int .i64 1, .int .i64 1, .int .i64 1, .int .i64 2, .int .i64 t, .int .i64 1, .int .i64 3, .int .i64 s, .int .i64 4, .int .i64 4, .int .i64 k, .int .i64 1, .int .i64 8]) := by
  intro j hj w
  rcases Um.below5 hj with rfl | rfl | rfl | rfl | rfl <;> simp [Instr.index, go_sem, Um.thN, Um.kiN, Um.fiN]
end
end Go.Proofs.YtapgghciieloaaaGreat
