/-
  Plain arithmetic of 64-bit words as natural numbers: bits, parts, and the functions that layer 1's code computes. No Go in sight.
-/
namespace Um
set_option maxRecDepth 100000

/-- A natural number that fits 64 bits. -/
def Word (x : Nat) : Prop := x < 18446744073709551616

theorem word_iff {x : Nat} : Word x ↔ x < 2 ^ 64 := by unfold Word; rw [show (2:Nat) ^ 64 = 18446744073709551616 by decide]

/-- x with the bit i as b says. -/
def setN (x i : Nat) (b : Bool) : Nat := if x.testBit i = b then x else if b then x + 2 ^ i else x - 2 ^ i

theorem testBit_eq_div (x i : Nat) : x.testBit i = decide (x / 2 ^ i % 2 = 1) := Nat.testBit_eq_decide_div_mod_eq

theorem add_pow_testBit (x i j : Nat) (h : x.testBit i = false) : (x + 2 ^ i).testBit j = if i = j then true else x.testBit j := by
  have hp : 0 < 2 ^ i := Nat.two_pow_pos i
  have hq : (x + 2 ^ i) / 2 ^ i = x / 2 ^ i + 1 := Nat.add_div_right x hp
  have hm : (x + 2 ^ i) % 2 ^ i = x % 2 ^ i := Nat.add_mod_right x (2 ^ i)
  rw [testBit_eq_div] at h
  have he : x / 2 ^ i % 2 = 0 := by
    have := of_decide_eq_false h
    omega
  by_cases hij : j < i
  · rw [if_neg (by omega)]
    have h1 : (x + 2 ^ i).testBit j = ((x + 2 ^ i) % 2 ^ i).testBit j := by rw [Nat.testBit_mod_two_pow]; simp [hij]
    have h2 : x.testBit j = (x % 2 ^ i).testBit j := by rw [Nat.testBit_mod_two_pow]; simp [hij]
    rw [h1, h2, hm]
  · have hk : j = (j - i) + i := by omega
    have h1 : (x + 2 ^ i).testBit j = ((x + 2 ^ i) / 2 ^ i).testBit (j - i) := by rw [Nat.testBit_div_two_pow, ← hk]
    have h2 : x.testBit j = (x / 2 ^ i).testBit (j - i) := by rw [Nat.testBit_div_two_pow, ← hk]
    rw [h1, h2, hq]
    cases hd : j - i with
    | zero =>
      rw [if_pos (by omega), Nat.testBit_zero]
      exact decide_eq_true (by omega)
    | succ k =>
      rw [if_neg (by omega), Nat.testBit_succ, Nat.testBit_succ]
      congr 1
      omega

theorem pow_le_of_testBit (x i : Nat) (h : x.testBit i = true) : 2 ^ i ≤ x := Nat.ge_two_pow_of_testBit h

theorem sub_pow_testBit (x i j : Nat) (h : x.testBit i = true) : (x - 2 ^ i).testBit j = if i = j then false else x.testBit j := by
  have hle := pow_le_of_testBit x i h
  have hx : x = (x - 2 ^ i) + 2 ^ i := by omega
  have hp : 0 < 2 ^ i := Nat.two_pow_pos i
  have hq : x / 2 ^ i = (x - 2 ^ i) / 2 ^ i + 1 := by
    rw [← Nat.add_div_right _ hp, ← hx]
  have hf : (x - 2 ^ i).testBit i = false := by
    rw [testBit_eq_div] at h ⊢
    have := of_decide_eq_true h
    exact decide_eq_false (by omega)
  have := add_pow_testBit (x - 2 ^ i) i j hf
  rw [← hx] at this
  rw [this]
  by_cases hij : i = j
  · subst hij; simp [hf]
  · simp [hij]

theorem testBit_setN (x i j : Nat) (b : Bool) : (setN x i b).testBit j = if i = j then b else x.testBit j := by
  unfold setN
  by_cases h : x.testBit i = b
  · rw [if_pos h]
    by_cases hij : i = j
    · subst hij; simp [h]
    · simp [hij]
  · rw [if_neg h]
    cases b with
    | true =>
      have hf : x.testBit i = false := by simpa using h
      simpa using add_pow_testBit x i j hf
    | false =>
      have hf : x.testBit i = true := by simpa using h
      simpa using sub_pow_testBit x i j hf

theorem lt_of_bits {x n : Nat} (h : ∀ j, n ≤ j → x.testBit j = false) : x < 2 ^ n := Nat.lt_pow_two_of_testBit x h

theorem bits_of_lt {x n : Nat} (h : x < 2 ^ n) (j : Nat) (hj : n ≤ j) : x.testBit j = false :=
  Nat.testBit_lt_two_pow (Nat.lt_of_lt_of_le h (Nat.pow_le_pow_right (by decide) hj))

theorem Word.bits {x : Nat} (h : Word x) (j : Nat) (hj : 64 ≤ j) : x.testBit j = false := bits_of_lt (word_iff.1 h) j hj

theorem Word.of {x : Nat} (h : ∀ j, 64 ≤ j → x.testBit j = false) : Word x := word_iff.2 (lt_of_bits h)

theorem Word.setN {x i : Nat} {b : Bool} (h : Word x) (hi : i < 64) : Word (Um.setN x i b) :=
  Word.of fun j hj => by rw [testBit_setN, if_neg (by omega)]; exact h.bits j hj

theorem or_pow (x i : Nat) : x ||| 2 ^ i = setN x i true := by
  apply Nat.eq_of_testBit_eq
  intro j
  rw [Nat.testBit_or, testBit_setN, Nat.testBit_two_pow]
  by_cases h : i = j <;> simp [h]

theorem andNot_testBit (x m j : Nat) (hx : Word x) (hm : Word m) : (x &&& (18446744073709551615 - m)).testBit j = (x.testBit j && !m.testBit j) := by
  have e : 18446744073709551615 - m = 2 ^ 64 - (m + 1) := by
    have : (2:Nat) ^ 64 = 18446744073709551616 := by decide
    omega
  rw [Nat.testBit_and, e, Nat.testBit_two_pow_sub_succ (word_iff.1 hm)]
  by_cases h : j < 64
  · simp [h]
  · simp [h, hx.bits j (by omega)]

theorem andNot_pow (x i : Nat) (hx : Word x) (hi : i < 64) : x &&& (18446744073709551615 - 2 ^ i) = setN x i false := by
  apply Nat.eq_of_testBit_eq
  intro j
  have hm : Word (2 ^ i) := word_iff.2 (Nat.pow_lt_pow_right (by decide) hi)
  rw [andNot_testBit x _ j hx hm, testBit_setN, Nat.testBit_two_pow]
  by_cases h : i = j <;> simp [h]

theorem setN_self (x i : Nat) (b : Bool) (h : x.testBit i = b) : setN x i b = x := by unfold setN; rw [if_pos h]

theorem setN_setN (x i : Nat) (b c : Bool) : setN (setN x i b) i c = setN x i c := by
  apply Nat.eq_of_testBit_eq
  intro j
  simp only [testBit_setN]
  by_cases h : i = j <;> simp [h]

theorem setN_comm (x i j : Nat) (b c : Bool) (h : i ≠ j ∨ b = c) : setN (setN x i b) j c = setN (setN x j c) i b := by
  apply Nat.eq_of_testBit_eq
  intro k
  simp only [testBit_setN]
  by_cases h1 : i = k <;> by_cases h2 : j = k <;> simp [h1, h2]
  rcases h with h | h
  · omega
  · exact h.symm

/-- n bits of x, from s on. -/
def part (x s n : Nat) : Nat := x / 2 ^ s % 2 ^ n

theorem testBit_part (x s n j : Nat) : (part x s n).testBit j = (decide (j < n) && x.testBit (j + s)) := by
  unfold part
  rw [Nat.testBit_mod_two_pow, Nat.testBit_div_two_pow]

theorem part_lt (x s n : Nat) : part x s n < 2 ^ n := Nat.mod_lt _ (Nat.two_pow_pos n)

theorem and_mask (x n : Nat) : x &&& (2 ^ n - 1) = x % 2 ^ n := Nat.and_two_pow_sub_one_eq_mod x n

theorem un12 (x : Nat) : part (x / 4096) 0 12 = part x 12 12 := by simp [part]
theorem un27 (x : Nat) : part (x / 4096 / 4096 / 2 / 2 / 2) 0 3 = part x 27 3 := by simp [part, Nat.div_div_eq_div_mul]
theorem un30 (x : Nat) : part (x / 4096 / 4096 / 2 / 2 / 2 / 8) 0 32 = part x 30 32 := by simp [part, Nat.div_div_eq_div_mul]
theorem bit_part (x s : Nat) : (((part x s 1 : Nat) : Int) == 1) = x.testBit s := by
  rw [testBit_eq_div, Bool.eq_iff_iff, beq_iff_eq, decide_eq_true_iff]
  unfold part
  rw [Nat.pow_one]
  generalize x / 2 ^ s = k
  omega
theorem un24 (x : Nat) : (((part (x / 4096 / 4096) 0 1 : Nat) : Int) == 1) = x.testBit 24 := by
  rw [← bit_part, show part (x / 4096 / 4096) 0 1 = part x 24 1 by simp [part, Nat.div_div_eq_div_mul]]
theorem un25 (x : Nat) : (((part (x / 4096 / 4096 / 2) 0 1 : Nat) : Int) == 1) = x.testBit 25 := by
  rw [← bit_part, show part (x / 4096 / 4096 / 2) 0 1 = part x 25 1 by simp [part, Nat.div_div_eq_div_mul]]
theorem un26 (x : Nat) : (((part (x / 4096 / 4096 / 2 / 2) 0 1 : Nat) : Int) == 1) = x.testBit 26 := by
  rw [← bit_part, show part (x / 4096 / 4096 / 2 / 2) 0 1 = part x 26 1 by simp [part, Nat.div_div_eq_div_mul]]

/-! ### slots and sides -/

def okS (a b : Int) : Bool := decide ((a = 0 ∨ a = 1) ∧ 0 ≤ b ∧ b < 12)
def bitAt (a b : Int) : Nat := (12 * a + b).toNat
def slotN (a b : Int) : Nat := if okS a b then 2 ^ bitAt a b else 0
def hasN (x : Nat) (a b : Int) : Bool := okS a b && x.testBit (bitAt a b)
def withN (x : Nat) (a b : Int) : Nat := if okS a b then setN x (bitAt a b) true else x
def anyN (x : Nat) (a : Int) : Bool := decide (a = 0 ∨ a = 1) && (decide (0 < part x (12 * a).toNat 12) || x.testBit (24 + a).toNat)
def dropAt (x : Nat) (a b : Int) (p : Bool) : Nat :=
  if hasN x a b then (if p then setN (setN x (bitAt a b) false) (24 + a).toNat true else setN x (bitAt a b) false) else x
def dropN (x : Nat) (b : Int) (p : Bool) : Nat := dropAt (dropAt x 0 b p) 1 b p

theorem okS_iff {a b : Int} : okS a b = true ↔ (a = 0 ∨ a = 1) ∧ 0 ≤ b ∧ b < 12 := by unfold okS; exact decide_eq_true_iff

theorem bitAt_lt {a b : Int} (h : okS a b = true) : bitAt a b < 24 := by
  have := okS_iff.1 h
  unfold bitAt
  omega

theorem slot_word (a b : Int) : Word (slotN a b) := by
  unfold slotN
  split
  · rename_i h
    exact word_iff.2 (Nat.pow_lt_pow_right (by decide) (by have := bitAt_lt h; omega))
  · exact word_iff.2 (by decide)

theorem or_slot (x : Nat) (a b : Int) : x ||| slotN a b = withN x a b := by
  unfold slotN withN
  split
  · exact or_pow _ _
  · simp

theorem with_word {x : Nat} (h : Word x) (a b : Int) : Word (withN x a b) := by
  unfold withN
  split
  · rename_i ho
    exact h.setN (by have := bitAt_lt ho; omega)
  · exact h

theorem and_pow_ne (x i : Nat) : (x &&& 2 ^ i != 0) = x.testBit i := by
  cases h : x.testBit i with
  | true =>
    have h1 : (x &&& 2 ^ i).testBit i = true := by rw [Nat.testBit_and, h, Nat.testBit_two_pow_self]; rfl
    have h2 := pow_le_of_testBit _ _ h1
    have hp := Nat.two_pow_pos i
    rw [bne_iff_ne]
    omega
  | false =>
    have h1 : x &&& 2 ^ i = 0 := by
      apply Nat.eq_of_testBit_eq
      intro j
      rw [Nat.testBit_and, Nat.testBit_two_pow, Nat.zero_testBit]
      by_cases hij : i = j
      · subst hij; simp [h]
      · simp [hij]
    rw [h1]
    rfl

theorem and_slot (x : Nat) (a b : Int) : (x &&& slotN a b != 0) = hasN x a b := by
  unfold slotN hasN
  by_cases h : okS a b = true
  · rw [if_pos h, h, Bool.true_and]
    exact and_pow_ne _ _
  · rw [if_neg h]
    simp [h]

theorem dropAt_word {x : Nat} (h : Word x) (a b : Int) (p : Bool) : Word (dropAt x a b p) := by
  unfold dropAt hasN
  by_cases ho : okS a b = true
  · have hb := bitAt_lt ho
    have := okS_iff.1 ho
    split
    · split
      · exact (h.setN (by omega)).setN (by omega)
      · exact h.setN (by omega)
    · exact h
  · simp [ho, h]

theorem drop_word {x : Nat} (h : Word x) (b : Int) (p : Bool) : Word (dropN x b p) := dropAt_word (dropAt_word h _ _ _) _ _ _

theorem hasN_dropAt_other (x : Nat) (a c b : Int) (p : Bool) (h : a ≠ c) : hasN (dropAt x a b p) c b = hasN x c b := by
  unfold dropAt
  by_cases hh : hasN x a b = true
  · rw [if_pos hh]
    unfold hasN at hh ⊢
    by_cases hc : okS c b = true
    · have ha : okS a b = true := by
        revert hh; cases okS a b <;> simp
      have h1 := okS_iff.1 hc
      have h2 := okS_iff.1 ha
      have hne : bitAt a b ≠ bitAt c b := by unfold bitAt; omega
      have hne2 : (24 + a).toNat ≠ bitAt c b := by unfold bitAt; omega
      cases p <;> simp [testBit_setN, hne, hne2, hc]
    · simp [hc]
  · rw [if_neg hh]

theorem hasN_dropAt_same (x : Nat) (a b : Int) (p : Bool) : hasN (dropAt x a b p) a b = false := by
  unfold dropAt
  by_cases hh : hasN x a b = true
  · rw [if_pos hh]
    unfold hasN at hh ⊢
    have ha : okS a b = true := by
      revert hh; cases okS a b <;> simp
    have h2 := okS_iff.1 ha
    have hne2 : (24 + a).toNat ≠ bitAt a b := by unfold bitAt; omega
    cases p <;> simp [testBit_setN, hne2]
  · rw [if_neg hh]; simpa using hh

theorem hasN_drop (x : Nat) (a b : Int) (p : Bool) : hasN (dropN x b p) a b = false := by
  unfold dropN
  by_cases h1 : a = 1
  · subst h1; exact hasN_dropAt_same _ _ _ _
  · rw [hasN_dropAt_other _ _ _ _ _ (fun h => h1 h.symm)]
    by_cases h0 : a = 0
    · subst h0; exact hasN_dropAt_same _ _ _ _
    · unfold hasN okS; simp [h0, h1]

theorem dropAt_self (x : Nat) (a b : Int) (p : Bool) (h : hasN x a b = false) : dropAt x a b p = x := by
  unfold dropAt; simp [h]

theorem drop_twice (x : Nat) (b : Int) (p q : Bool) : dropN (dropN x b p) b q = dropN x b p := by
  rw [show dropN (dropN x b p) b q = dropAt (dropAt (dropN x b p) 0 b q) 1 b q from rfl]
  rw [dropAt_self _ 0 b q (hasN_drop _ _ _ _), dropAt_self _ 1 b q (hasN_drop _ _ _ _)]

theorem hasN_with (x : Nat) (a b : Int) : hasN (withN x a b) a b = okS a b := by
  unfold hasN withN
  by_cases h : okS a b = true
  · simp [h, testBit_setN]
  · simp [h]

theorem hasN_with_other (x : Nat) (a c b : Int) (h : a ≠ c) : hasN (withN x a b) c b = hasN x c b := by
  unfold hasN withN
  by_cases ho : okS a b = true
  · rw [if_pos ho]
    by_cases hc : okS c b = true
    · have h1 := okS_iff.1 hc
      have h2 := okS_iff.1 ho
      have hne : bitAt a b ≠ bitAt c b := by unfold bitAt; omega
      simp [testBit_setN, hne, hc]
    · simp [hc]
  · rw [if_neg ho]

theorem with_bad (x : Nat) (a b : Int) (h : okS a b = false) : withN x a b = x := by unfold withN; simp [h]

theorem drop_none (x : Nat) (b : Int) (p : Bool) (h0 : hasN x 0 b = false) (h1 : hasN x 1 b = false) : dropN x b p = x := by
  unfold dropN
  rw [dropAt_self _ 0 b p h0, dropAt_self _ 1 b p h1]

theorem drop_with (x : Nat) (a b : Int) (h0 : hasN x 0 b = false) (h1 : hasN x 1 b = false) : dropN (withN x a b) b false = x := by
  by_cases ho : okS a b = true
  · have h2 := (okS_iff.1 ho).1
    have hb : hasN x a b = false := by rcases h2 with h | h <;> subst h <;> assumption
    have hx : x.testBit (bitAt a b) = false := by unfold hasN at hb; simpa [ho] using hb
    have key : dropAt (withN x a b) a b false = x := by
      unfold dropAt
      rw [hasN_with, if_pos ho]
      unfold withN
      rw [if_pos ho]
      simp only [Bool.false_eq_true, if_false]
      rw [setN_setN, setN_self _ _ _ hx]
    unfold dropN
    rcases h2 with h | h
    · subst h
      rw [key, dropAt_self _ 1 b _ h1]
    · subst h
      rw [dropAt_self (withN x 1 b) 0 b false (by rw [hasN_with_other _ _ _ _ (by decide)]; exact h0), key]
  · rw [with_bad _ _ _ (by simpa using ho)]
    exact drop_none _ _ _ h0 h1

theorem back_law (x : Nat) (a b : Int) (h0 : hasN x 0 b = false) (h1 : hasN x 1 b = false) :
    (withN x a b = x) ↔ (dropN (withN x a b) b true = x ∧ withN x a b = dropN (withN x a b) b true) := by
  constructor
  · intro h
    rw [h, drop_none _ _ _ h0 h1]
    exact ⟨rfl, rfl⟩
  · intro ⟨h2, h3⟩
    rw [h3, h2]

theorem part_pos {x s n : Nat} : (0 < part x s n) ↔ ∃ j, j < n ∧ x.testBit (j + s) = true := by
  constructor
  · intro h
    obtain ⟨j, hj⟩ := Nat.exists_testBit_of_ne_zero (Nat.pos_iff_ne_zero.1 h)
    rw [testBit_part] at hj
    simp at hj
    exact ⟨j, hj.1, hj.2⟩
  · intro ⟨j, hj, hb⟩
    have : (part x s n).testBit j = true := by rw [testBit_part]; simp [hj, hb]
    have := pow_le_of_testBit _ _ this
    have := Nat.two_pow_pos j
    omega

theorem any_iff {x : Nat} {a : Int} (ha : a = 0 ∨ a = 1) : anyN x a = true ↔ (∃ j, j < 12 ∧ x.testBit (j + (12 * a).toNat) = true) ∨ x.testBit (24 + a).toNat = true := by
  unfold anyN
  simp only [ha, decide_true, Bool.true_and, Bool.or_eq_true, decide_eq_true_eq]
  rw [part_pos]

theorem and_ne_iff (x m : Nat) : (x &&& m ≠ 0) ↔ ∃ j, x.testBit j = true ∧ m.testBit j = true := by
  constructor
  · intro h
    obtain ⟨j, hj⟩ := Nat.exists_testBit_of_ne_zero h
    rw [Nat.testBit_and] at hj
    exact ⟨j, by simpa using hj⟩
  · intro ⟨j, h1, h2⟩ h0
    have : (x &&& m).testBit j = true := by rw [Nat.testBit_and, h1, h2]; rfl
    rw [h0, Nat.zero_testBit] at this
    cases this

theorem any_mask (x : Nat) (a : Int) (ha : a = 0 ∨ a = 1) : (x &&& ((2 ^ 12 - 1) <<< (12 * a).toNat ||| 2 ^ (24 + a).toNat) != 0) = anyN x a := by
  rw [Bool.eq_iff_iff, bne_iff_ne, and_ne_iff, any_iff ha]
  constructor
  · rintro ⟨j, h1, h2⟩
    rw [Nat.testBit_or, Nat.testBit_shiftLeft, Nat.testBit_two_pow_sub_one, Nat.testBit_two_pow] at h2
    simp at h2
    rcases h2 with ⟨h2, h3⟩ | h2
    · exact Or.inl ⟨j - (12 * a).toNat, h3, by rw [Nat.sub_add_cancel (by omega)]; exact h1⟩
    · exact Or.inr (by rw [h2]; exact h1)
  · rintro (⟨j, hj, hb⟩ | h)
    · refine ⟨_, hb, ?_⟩
      rw [Nat.testBit_or, Nat.testBit_shiftLeft, Nat.testBit_two_pow_sub_one]
      simp [hj]
    · refine ⟨_, h, ?_⟩
      rw [Nat.testBit_or, Nat.testBit_two_pow_self]
      simp

theorem any_mask0 (x : Nat) : (x &&& 16781311 != 0) = anyN x 0 := any_mask x 0 (Or.inl rfl)
theorem any_mask1 (x : Nat) : (x &&& 50327552 != 0) = anyN x 1 := any_mask x 1 (Or.inr rfl)

theorem any_with (x : Nat) (a b : Int) (h : okS a b = true) : anyN (withN x a b) a = true := by
  have h2 := okS_iff.1 h
  rw [any_iff h2.1]
  left
  refine ⟨b.toNat, by omega, ?_⟩
  unfold withN
  rw [if_pos h, testBit_setN, if_pos (by unfold bitAt; omega)]

theorem any_congr {x y : Nat} {a : Int} (ha : a = 0 ∨ a = 1) (h : ∀ j, (12 * a).toNat ≤ j → j < (12 * a).toNat + 12 → x.testBit j = y.testBit j) (hp : x.testBit (24 + a).toNat = y.testBit (24 + a).toNat) : anyN x a = anyN y a := by
  rw [Bool.eq_iff_iff, any_iff ha, any_iff ha, hp]
  constructor
  · rintro (⟨j, hj, hb⟩ | h')
    · exact Or.inl ⟨j, hj, by rw [← h _ (by omega) (by omega)]; exact hb⟩
    · exact Or.inr h'
  · rintro (⟨j, hj, hb⟩ | h')
    · exact Or.inl ⟨j, hj, by rw [h _ (by omega) (by omega)]; exact hb⟩
    · exact Or.inr h'

theorem any_dropAt_other (x : Nat) (a c b : Int) (p : Bool) (hc : c = 0 ∨ c = 1) (h : a ≠ c) : anyN (dropAt x a b p) c = anyN x c := by
  unfold dropAt
  by_cases hh : hasN x a b = true
  · rw [if_pos hh]
    have ha : okS a b = true := by
      unfold hasN at hh; revert hh; cases okS a b <;> simp
    have h2 := okS_iff.1 ha
    apply any_congr hc
    · intro j hj1 hj2
      have e1 : bitAt a b ≠ j := by unfold bitAt; omega
      have e2 : (24 + a).toNat ≠ j := by omega
      cases p <;> simp [testBit_setN, e1, e2]
    · have e1 : bitAt a b ≠ (24 + c).toNat := by unfold bitAt; omega
      have e2 : (24 + a).toNat ≠ (24 + c).toNat := by omega
      cases p <;> simp [testBit_setN, e1, e2]
  · rw [if_neg hh]

theorem any_dropAt_past (x : Nat) (a b : Int) (h : hasN x a b = true) : anyN (dropAt x a b true) a = true := by
  have ha : okS a b = true := by
    unfold hasN at h; revert h; cases okS a b <;> simp
  have h2 := okS_iff.1 ha
  rw [any_iff h2.1]
  right
  unfold dropAt
  rw [if_pos h]
  simp [testBit_setN]

/-- what the law of drops asks of one side -/
theorem drops_law (x : Nat) (a b : Int) (p : Bool) (ha : a = 0 ∨ a = 1) :
    (p = true → hasN x a b = true → anyN (dropN x b p) a = true) ∧ (hasN x a b = false → anyN (dropN x b p) a = anyN x a) := by
  have other : ∀ (y : Nat) (c : Int), c = 0 ∨ c = 1 → a ≠ c → anyN (dropAt y c b p) a = anyN y a := fun y c _ hne => any_dropAt_other y c a b p ha (fun h => hne h.symm)
  rcases ha with rfl | rfl
  · constructor
    · intro hp hh
      subst hp
      show anyN (dropAt (dropAt x 0 b true) 1 b true) 0 = true
      rw [other _ 1 (Or.inr rfl) (by decide)]
      exact any_dropAt_past _ _ _ hh
    · intro hh
      show anyN (dropAt (dropAt x 0 b p) 1 b p) 0 = _
      rw [other _ 1 (Or.inr rfl) (by decide), dropAt_self _ _ _ _ hh]
  · constructor
    · intro hp hh
      subst hp
      show anyN (dropAt (dropAt x 0 b true) 1 b true) 1 = true
      exact any_dropAt_past _ _ _ (by rw [hasN_dropAt_other _ _ _ _ _ (by decide)]; exact hh)
    · intro hh
      show anyN (dropAt (dropAt x 0 b p) 1 b p) 1 = _
      rw [dropAt_self (dropAt x 0 b p) 1 b p (by rw [hasN_dropAt_other _ _ _ _ _ (by decide)]; exact hh), other _ 0 (Or.inl rfl) (by decide)]

/-- what a loop over the sides has dropped behind k rounds -/
def dropTo (x : Nat) (b : Int) (p : Bool) (k : Nat) : Nat := if k = 0 then x else if k = 1 then dropAt x 0 b p else dropN x b p

theorem dropTo_word {x : Nat} (h : Word x) (b : Int) (p : Bool) (k : Nat) : Word (dropTo x b p k) := by
  unfold dropTo
  split
  · exact h
  · split
    · exact dropAt_word h _ _ _
    · exact drop_word h _ _

theorem dropTo_succ (x : Nat) (b : Int) (p : Bool) (k : Nat) (h : k < 2) : dropTo x b p (k + 1) = dropAt (dropTo x b p k) k b p := by
  have : k = 0 ∨ k = 1 := by omega
  rcases this with rfl | rfl
  · rfl
  · rfl

theorem dropTo_has (x : Nat) (b : Int) (p : Bool) (k : Nat) (h : k < 2) : hasN (dropTo x b p k) k b = hasN x k b := by
  have : k = 0 ∨ k = 1 := by omega
  rcases this with rfl | rfl
  · rfl
  · exact hasN_dropAt_other _ _ _ _ _ (by decide)

/-! ### a part of a word, put anew -/

theorem testBit_field {x y s f n : Nat} (h1 : y % 2 ^ f = x % 2 ^ f) (h2 : y / 2 ^ f % 2 ^ n = s) (h3 : y / 2 ^ (f + n) = x / 2 ^ (f + n)) (j : Nat) :
    y.testBit j = if j < f then x.testBit j else if j < f + n then s.testBit (j - f) else x.testBit j := by
  by_cases a : j < f
  · rw [if_pos a]
    have e1 : y.testBit j = (y % 2 ^ f).testBit j := by rw [Nat.testBit_mod_two_pow]; simp [a]
    have e2 : x.testBit j = (x % 2 ^ f).testBit j := by rw [Nat.testBit_mod_two_pow]; simp [a]
    rw [e1, e2, h1]
  · rw [if_neg a]
    by_cases c : j < f + n
    · rw [if_pos c, ← h2, Nat.testBit_mod_two_pow, Nat.testBit_div_two_pow]
      rw [show j - f + f = j by omega]
      simp
      omega
    · rw [if_neg c]
      have e1 : y.testBit j = (y / 2 ^ (f + n)).testBit (j - (f + n)) := by rw [Nat.testBit_div_two_pow, show j - (f + n) + (f + n) = j by omega]
      have e2 : x.testBit j = (x / 2 ^ (f + n)).testBit (j - (f + n)) := by rw [Nat.testBit_div_two_pow, show j - (f + n) + (f + n) = j by omega]
      rw [e1, e2, h3]

/-- x with the state s -/
def stateN (x s : Nat) : Nat := x - 134217728 * part x 27 3 + 134217728 * s
/-- x moved to the state s, busy or not -/
def moveN (x s : Nat) (b : Bool) : Nat := setN (stateN x s) 26 b

theorem state_eqs (x s : Nat) (hs : s < 8) : stateN x s % 2 ^ 27 = x % 2 ^ 27 ∧ stateN x s / 2 ^ 27 % 2 ^ 3 = s ∧ stateN x s / 2 ^ (27 + 3) = x / 2 ^ (27 + 3) := by
  unfold stateN part
  refine ⟨by omega, by omega, by omega⟩

theorem state_word {x s : Nat} (hx : Word x) (hs : s < 8) : Word (stateN x s) := by
  unfold Word at *
  unfold stateN part
  omega

theorem move_word {x s : Nat} {b : Bool} (hx : Word x) (hs : s < 8) : Word (moveN x s b) := (state_word hx hs).setN (by decide)

theorem move_bits {x s : Nat} {b : Bool} (hs : s < 8) (j : Nat) :
    (moveN x s b).testBit j = if j = 26 then b else if 27 ≤ j ∧ j < 30 then s.testBit (j - 27) else x.testBit j := by
  unfold moveN
  obtain ⟨h1, h2, h3⟩ := state_eqs x s hs
  rw [testBit_setN, testBit_field h1 h2 h3]
  by_cases a : 26 = j
  · rw [if_pos a, if_pos a.symm]
  · rw [if_neg a, if_neg (show ¬ j = 26 by omega)]
    by_cases c : j < 27
    · rw [if_pos c, if_neg (show ¬ (27 ≤ j ∧ j < 30) by omega)]
    · rw [if_neg c]
      by_cases d : j < 30
      · rw [if_pos (show j < 27 + 3 by omega), if_pos (show 27 ≤ j ∧ j < 30 by omega)]
      · rw [if_neg (show ¬ j < 27 + 3 by omega), if_neg (show ¬ (27 ≤ j ∧ j < 30) by omega)]

theorem move_eq (x s : Nat) (b : Bool) (hx : Word x) (hs : s < 8) :
    (x &&& (18446744073709551615 - 1006632960)) ||| b.toNat * 2 ^ 26 ||| s * 2 ^ 27 = moveN x s b := by
  apply Nat.eq_of_testBit_eq
  intro j
  rw [move_bits hs, Nat.testBit_or, Nat.testBit_or, andNot_testBit x _ j hx (word_iff.2 (by decide)), Nat.testBit_mul_two_pow, Nat.testBit_mul_two_pow]
  rw [show (1006632960 : Nat) = (2 ^ 4 - 1) * 2 ^ 26 by decide, Nat.testBit_mul_two_pow, Nat.testBit_two_pow_sub_one]
  have hb : ∀ k, b.toNat.testBit k = (b && decide (k = 0)) := by
    intro k
    cases b
    · simp
    · cases k
      · simp
      · simp [Nat.testBit_succ]
  have hs' : ∀ k, 3 ≤ k → s.testBit k = false := fun k hk => bits_of_lt (n := 3) (by omega) k hk
  rw [hb]
  by_cases a : j = 26
  · subst a; simp
  · rw [if_neg a]
    by_cases c : 27 ≤ j ∧ j < 30
    · rw [if_pos c]
      have q1 : 26 ≤ j := by omega
      have q2 : j - 26 < 4 := by omega
      have q3 : ¬ (j - 26 = 0) := by omega
      simp [q1, q2, q3, c.1]
    · rw [if_neg c]
      by_cases d : j < 26
      · have q1 : ¬ 26 ≤ j := by omega
        have q2 : ¬ 27 ≤ j := by omega
        simp [q1, q2]
      · have q1 : 26 ≤ j := by omega
        have q2 : ¬ j - 26 < 4 := by omega
        have q3 : ¬ (j - 26 = 0) := by omega
        have q4 := hs' (j - 27) (by omega)
        simp [q1, q2, q3, q4]

/-- the parts of a word that was moved -/
theorem move_parts (x s : Nat) (b : Bool) (hs : s < 8) :
    (moveN x s b).testBit 26 = b ∧ part (moveN x s b) 27 3 = s ∧ part (moveN x s b) 30 32 = part x 30 32 ∧ part (moveN x s b) 12 12 = part x 12 12 ∧ part (moveN x s b) 0 12 = part x 0 12
      ∧ (moveN x s b).testBit 25 = x.testBit 25 ∧ (moveN x s b).testBit 24 = x.testBit 24 := by
  refine ⟨by rw [move_bits hs]; simp, ?_, ?_, ?_, ?_, by rw [move_bits hs]; simp, by rw [move_bits hs]; simp⟩
  · apply Nat.eq_of_testBit_eq
    intro j
    rw [testBit_part, move_bits hs]
    by_cases h : j < 3
    · rw [if_neg (by omega), if_pos (by omega)]; simp [h]
    · rw [bits_of_lt (n := 3) (show s < 2 ^ 3 by omega) j (by omega)]; simp [h]
  all_goals
    apply Nat.eq_of_testBit_eq
    intro j
    rw [testBit_part, testBit_part, move_bits hs]
    by_cases h : j < 32
    · by_cases h' : j < 12
      · rw [if_neg (by omega), if_neg (by omega)]
      · first | (rw [if_neg (by omega), if_neg (by omega)]) | simp [h']
    · have h' : ¬ j < 12 := by omega
      simp [h, h']

/-! ### packing -/

theorem or_shift (x p k : Nat) (h : x < 2 ^ k) : x ||| p * 2 ^ k = x + p * 2 ^ k := by
  rw [Nat.or_comm, Nat.mul_comm p (2 ^ k), ← Nat.two_pow_add_eq_or_of_lt h p, Nat.add_comm]

theorem join7 {T N O I B S G x0 x1 x2 x3 x4 x5 x6 : Nat}
    (H0 : x0 = 0 ||| T % 2 ^ 12 * 2 ^ 0) (H1 : x1 = x0 ||| N % 2 ^ 12 * 2 ^ 12) (H2 : x2 = x1 ||| O % 2 ^ 1 * 2 ^ 24) (H3 : x3 = x2 ||| I % 2 ^ 1 * 2 ^ 25)
    (H4 : x4 = x3 ||| B % 2 ^ 1 * 2 ^ 26) (H5 : x5 = x4 ||| S % 2 ^ 3 * 2 ^ 27) (H6 : x6 = x5 ||| G % 2 ^ 32 * 2 ^ 30) :
    x6 = T % 4096 + 4096 * (N % 4096) + 16777216 * (O % 2) + 33554432 * (I % 2) + 67108864 * (B % 2) + 134217728 * (S % 8) + 1073741824 * (G % 4294967296) := by
  have e0 : x0 = T % 4096 := by rw [H0]; simp
  rw [or_shift _ _ _ (by rw [e0]; omega)] at H1
  rw [or_shift _ _ _ (by omega)] at H2
  rw [or_shift _ _ _ (by omega)] at H3
  rw [or_shift _ _ _ (by omega)] at H4
  rw [or_shift _ _ _ (by omega)] at H5
  rw [or_shift _ _ _ (by omega)] at H6
  omega

def packN (g st : Int) (b i o : Bool) (n t : Int) : Nat :=
  t.toNat + 4096 * n.toNat + 16777216 * o.toNat + 33554432 * i.toNat + 67108864 * b.toNat + 134217728 * st.toNat + 1073741824 * g.toNat
def okSt (g st n t : Int) : Bool := decide (0 ≤ t ∧ t ≤ 4095 ∧ 0 ≤ n ∧ n ≤ 4095 ∧ 0 ≤ st ∧ st ≤ 7 ∧ 0 ≤ g ∧ g ≤ 1073741824)

/-- the word of a status, 0 where there is none -/
def packV (g st : Int) (b i o : Bool) (n t : Int) : Nat := if okSt g st n t then packN g st b i o n t else 0

theorem packV_no {g st : Int} {b i o : Bool} {n t : Int} (h : okSt g st n t = false) : packV g st b i o n t = 0 := by unfold packV; simp [h]
theorem packV_yes {g st : Int} {b i o : Bool} {n t : Int} (h : okSt g st n t = true) : packV g st b i o n t = packN g st b i o n t := by unfold packV; simp [h]

theorem okSt_iff {g st n t : Int} : okSt g st n t = true ↔ 0 ≤ t ∧ t ≤ 4095 ∧ 0 ≤ n ∧ n ≤ 4095 ∧ 0 ≤ st ∧ st ≤ 7 ∧ 0 ≤ g ∧ g ≤ 1073741824 := by
  unfold okSt; exact decide_eq_true_iff

theorem setN_add (x i : Nat) (b : Bool) (h : x / 2 ^ i % 2 = 0) : setN x i b = x + b.toNat * 2 ^ i := by
  have hf : x.testBit i = false := by rw [testBit_eq_div]; exact decide_eq_false (by omega)
  unfold setN
  rw [hf]
  cases b
  · simp
  · simp

def baseN (g st n t : Int) : Nat := t.toNat + 4096 * n.toNat + 134217728 * st.toNat + 1073741824 * g.toNat

theorem base_put {g st : Int} {b i o : Bool} {n t : Int} (h : okSt g st n t = true) : setN (setN (setN (baseN g st n t) 24 o) 25 i) 26 b = packN g st b i o n t := by
  have hh : 0 ≤ t ∧ t ≤ 4095 ∧ 0 ≤ n ∧ n ≤ 4095 ∧ 0 ≤ st ∧ st ≤ 7 ∧ 0 ≤ g ∧ g ≤ 1073741824 := by unfold okSt at h; exact of_decide_eq_true h
  have ho : o.toNat ≤ 1 := by cases o <;> decide
  have hi : i.toNat ≤ 1 := by cases i <;> decide
  rw [setN_add (baseN g st n t) 24 o (by unfold baseN; omega)]
  rw [setN_add _ 25 i (by unfold baseN; omega)]
  rw [setN_add _ 26 b (by unfold baseN; omega)]
  unfold baseN packN
  omega

theorem base_word {g st n t : Int} (h : okSt g st n t = true) : Word (baseN g st n t) := by
  have hh : 0 ≤ t ∧ t ≤ 4095 ∧ 0 ≤ n ∧ n ≤ 4095 ∧ 0 ≤ st ∧ st ≤ 7 ∧ 0 ≤ g ∧ g ≤ 1073741824 := by unfold okSt at h; exact of_decide_eq_true h
  unfold Word baseN
  omega

theorem bool_le (b : Bool) : b.toNat ≤ 1 := by cases b <;> decide
theorem bool_bit (b : Bool) (k : Nat) (h : k = b.toNat) : decide (k = 1) = b := by subst h; cases b <;> decide

/-- the parts of a sum of parts -/
theorem parts7 {T N S G x : Nat} {o i b : Bool} (hT : T < 4096) (hN : N < 4096) (hS : S < 8) (hG : G < 4294967296)
    (hx : x = T + 4096 * N + 16777216 * o.toNat + 33554432 * i.toNat + 67108864 * b.toNat + 134217728 * S + 1073741824 * G) :
    part x 0 12 = T ∧ part x 12 12 = N ∧ x.testBit 24 = o ∧ x.testBit 25 = i ∧ x.testBit 26 = b ∧ part x 27 3 = S ∧ part x 30 32 = G := by
  have ho := bool_le o
  have hi := bool_le i
  have hb := bool_le b
  simp only [testBit_eq_div]
  unfold part
  refine ⟨by omega, by omega, bool_bit _ _ (by omega), bool_bit _ _ (by omega), bool_bit _ _ (by omega), by omega, by omega⟩

theorem pack_word {g st : Int} {b i o : Bool} {n t : Int} (h : okSt g st n t = true) : Word (packN g st b i o n t) := by
  have := okSt_iff.1 h
  have ho := bool_le o
  have hi := bool_le i
  have hb := bool_le b
  unfold packN Word
  omega

theorem pack_parts {g st : Int} {b i o : Bool} {n t : Int} (h : okSt g st n t = true) :
    part (packN g st b i o n t) 0 12 = t.toNat ∧ part (packN g st b i o n t) 12 12 = n.toNat ∧ (packN g st b i o n t).testBit 24 = o ∧ (packN g st b i o n t).testBit 25 = i ∧ (packN g st b i o n t).testBit 26 = b
      ∧ part (packN g st b i o n t) 27 3 = st.toNat ∧ part (packN g st b i o n t) 30 32 = g.toNat := by
  have := okSt_iff.1 h
  exact parts7 (by omega) (by omega) (by omega) (by omega) rfl

end Um
