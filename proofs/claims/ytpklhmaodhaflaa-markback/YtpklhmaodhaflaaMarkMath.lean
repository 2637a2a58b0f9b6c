/-
  Plain arithmetic of layer 2's words: a key's word, its slots of a kind. No Go in sight.
-/
import Derived.Test.YtpklhmaodhaflaaMath
namespace Um

theorem dropAt_ok (x : Nat) (a b : Int) (h : okS a b = true) : dropAt x a b false = setN x (bitAt a b) false := by
  unfold dropAt hasN
  rw [h]
  cases hb : x.testBit (bitAt a b)
  · simp [setN_self _ _ _ hb]
  · simp

theorem dropAt_no (x : Nat) (a b : Int) (p : Bool) (h : okS a b = false) : dropAt x a b p = x := dropAt_self _ _ _ _ (by unfold hasN; simp [h])

theorem okS_two {b : Int} : okS 0 b = okS 1 b := by unfold okS; simp

theorem drop_bad (x : Nat) (b : Int) (p : Bool) (h : okS 0 b = false) : dropN x b p = x := by
  unfold dropN
  rw [dropAt_no x 0 b p h, dropAt_no x 1 b p (okS_two ▸ h)]

theorem drop_ok (x : Nat) (b : Int) (h : okS 0 b = true) : dropN x b false = setN (setN x (bitAt 0 b) false) (bitAt 1 b) false := by
  unfold dropN
  rw [dropAt_ok x 0 b h, dropAt_ok _ 1 b (okS_two ▸ h)]

theorem andNot_slots (x : Nat) (b : Int) (hx : Word x) : x &&& (18446744073709551615 - (slotN 0 b ||| slotN 1 b)) = dropN x b false := by
  have hw : Word (slotN 0 b ||| slotN 1 b) := word_iff.2 (Nat.or_lt_two_pow (word_iff.1 (slot_word 0 b)) (word_iff.1 (slot_word 1 b)))
  apply Nat.eq_of_testBit_eq
  intro j
  rw [andNot_testBit x _ j hx hw, Nat.testBit_or]
  cases ho : okS 0 b
  · have ho' : okS 1 b = false := okS_two ▸ ho
    rw [drop_bad _ _ _ ho]
    unfold slotN
    rw [if_neg (by simp [ho]), if_neg (by simp [ho'])]
    simp
  · have ho' : okS 1 b = true := okS_two ▸ ho
    rw [drop_ok _ _ ho, testBit_setN, testBit_setN]
    unfold slotN
    rw [if_pos ho, if_pos ho', Nat.testBit_two_pow, Nat.testBit_two_pow]
    by_cases h0 : bitAt 0 b = j <;> by_cases h1 : bitAt 1 b = j <;> simp [h0, h1]

/-- the slots of a kind, below k, rising -/
def slotsTo (x : Nat) (a : Int) (k : Nat) : List Int := ((List.range k).filter (fun j : Nat => hasN x a (j : Int))).map (fun j : Nat => (j : Int))

/-- the slots of a kind -/
def slotsN (x : Nat) (a : Int) : List Int := slotsTo x a 12

/-- those but s -/
def othersN (x : Nat) (a s : Int) : List Int := (slotsN x a).filter (fun y => y != s)
def othersTo (x : Nat) (a s : Int) (k : Nat) : List Int := (slotsTo x a k).filter (fun y => y != s)

theorem slotsTo_hit {x : Nat} {a : Int} {k : Nat} (h : hasN x a (k : Int) = true) : slotsTo x a (k + 1) = slotsTo x a k ++ [(k : Int)] := by
  simp [slotsTo, List.range_succ, List.filter_append, h]

theorem slotsTo_miss {x : Nat} {a : Int} {k : Nat} (h : hasN x a (k : Int) = false) : slotsTo x a (k + 1) = slotsTo x a k := by
  simp [slotsTo, List.range_succ, List.filter_append, h]

theorem slotsTo_length (x : Nat) (a : Int) (k : Nat) : (slotsTo x a k).length ≤ k := by
  unfold slotsTo
  rw [List.length_map]
  exact Nat.le_trans (List.length_filter_le _ _) (by simp)

theorem othersTo_hit {x : Nat} {a s : Int} {k : Nat} (h : hasN x a (k : Int) = true) (hs : (k : Int) ≠ s) : othersTo x a s (k + 1) = othersTo x a s k ++ [(k : Int)] := by
  unfold othersTo
  rw [slotsTo_hit h]
  simp [List.filter_append, hs]

theorem othersTo_same {x : Nat} {a s : Int} {k : Nat} (hs : (k : Int) = s) : othersTo x a s (k + 1) = othersTo x a s k := by
  unfold othersTo
  cases h : hasN x a (k : Int)
  · rw [slotsTo_miss h]
  · rw [slotsTo_hit h]
    simp [List.filter_append, hs]

theorem othersTo_miss {x : Nat} {a s : Int} {k : Nat} (h : hasN x a (k : Int) = false) : othersTo x a s (k + 1) = othersTo x a s k := by
  unfold othersTo
  rw [slotsTo_miss h]

theorem othersTo_length (x : Nat) (a s : Int) (k : Nat) : (othersTo x a s k).length ≤ k :=
  Nat.le_trans (List.length_filter_le _ _) (slotsTo_length x a k)

theorem slots_mem {x : Nat} {a y : Int} {k : Nat} (h : y ∈ slotsTo x a k) : 0 ≤ y ∧ y < k ∧ hasN x a y = true := by
  unfold slotsTo at h
  simp at h
  obtain ⟨j, ⟨hj, hh⟩, rfl⟩ := h
  exact ⟨by omega, by omega, hh⟩

/-- all but one that is no slot are all -/
theorem others_none (x : Nat) (a s : Int) (hs : s < 0) : othersN x a s = slotsN x a := by
  unfold othersN
  apply List.filter_eq_self.2
  intro y hy
  have := slots_mem hy
  simp
  omega

theorem with_twice (x : Nat) (a b : Int) : withN (withN x a b) a b = withN x a b := by
  unfold withN
  cases h : okS a b
  · simp
  · simp [setN_setN]

theorem has_with_slot (x : Nat) (a c b d : Int) (h : b ≠ d) : hasN (withN x a b) c d = hasN x c d := by
  unfold hasN withN
  by_cases ho : okS a b = true
  · rw [if_pos ho]
    by_cases hc : okS c d = true
    · have h1 := okS_iff.1 hc
      have h2 := okS_iff.1 ho
      have hne : bitAt a b ≠ bitAt c d := by unfold bitAt; omega
      simp [testBit_setN, hne, hc]
    · simp [hc]
  · rw [if_neg ho]

theorem has_drop_slot (x : Nat) (c b d : Int) (h : b ≠ d) : hasN (dropN x b false) c d = hasN x c d := by
  cases ho : okS 0 b
  · rw [drop_bad _ _ _ ho]
  · rw [drop_ok _ _ ho]
    unfold hasN
    by_cases hc : okS c d = true
    · have h1 := okS_iff.1 hc
      have h2 := okS_iff.1 ho
      have n0 : bitAt 0 b ≠ bitAt c d := by unfold bitAt; omega
      have n1 : bitAt 1 b ≠ bitAt c d := by unfold bitAt; omega
      simp [testBit_setN, n0, n1, hc]
    · simp [hc]

/-- marks of one kind, laid one by one -/
def foldW (a : Int) (z : Nat) (l : List Int) : Nat := l.foldl (fun z y => withN z a y) z

theorem foldW_bits (a : Int) (l : List Int) (z j : Nat) (hl : ∀ y ∈ l, okS a y = true) : (foldW a z l).testBit j = (z.testBit j || decide (∃ y ∈ l, bitAt a y = j)) := by
  induction l generalizing z with
  | nil => simp [foldW]
  | cons y l ih =>
    have ho := hl y (by simp)
    rw [show foldW a z (y :: l) = foldW a (withN z a y) l from rfl, ih _ (fun u hu => hl u (by simp [hu]))]
    unfold withN
    rw [if_pos ho, testBit_setN]
    by_cases h1 : bitAt a y = j
    · simp [h1]
    · rw [if_neg h1]
      congr 1
      simp [h1]

theorem has_ok {x : Nat} {a b : Int} (h : hasN x a b = true) : okS a b = true := by
  unfold hasN at h; revert h; cases okS a b <;> simp

theorem slots_iff {x : Nat} {a y : Int} : y ∈ slotsN x a ↔ hasN x a y = true := by
  constructor
  · intro h; exact (slots_mem h).2.2
  · intro h
    have h2 := okS_iff.1 (has_ok h)
    unfold slotsN slotsTo
    simp
    refine ⟨y.toNat, ⟨by omega, ?_⟩, by omega⟩
    rw [show ((y.toNat : Nat) : Int) = y by omega]
    exact h

theorem foldW_slots (x z j : Nat) (a : Int) (ha : a = 0 ∨ a = 1) : (foldW a z (slotsN x a)).testBit j = (z.testBit j || (decide ((12 * a).toNat ≤ j ∧ j < (12 * a).toNat + 12) && x.testBit j)) := by
  rw [foldW_bits a _ z j (fun y hy => has_ok (slots_iff.1 hy))]
  congr 1
  rw [Bool.eq_iff_iff, decide_eq_true_iff, Bool.and_eq_true, decide_eq_true_iff]
  constructor
  · rintro ⟨y, hy, rfl⟩
    have hh := slots_iff.1 hy
    have ho := okS_iff.1 (has_ok hh)
    refine ⟨by unfold bitAt; omega, ?_⟩
    unfold hasN at hh
    simpa [has_ok (slots_iff.1 hy)] using hh
  · rintro ⟨h1, h2⟩
    have hb : bitAt a ((j : Int) - 12 * a) = j := by unfold bitAt; omega
    have ho : okS a ((j : Int) - 12 * a) = true := okS_iff.2 ⟨ha, by omega, by omega⟩
    refine ⟨(j : Int) - 12 * a, slots_iff.2 ?_, hb⟩
    unfold hasN
    rw [ho, hb, h2]
    rfl

/-- what is laid behind k kinds -/
def rowsTo (x k : Nat) : Nat := if k = 0 then 0 else if k = 1 then foldW 0 0 (slotsN x 0) else foldW 1 (foldW 0 0 (slotsN x 0)) (slotsN x 1)

theorem rowsTo_succ (x k : Nat) (h : k < 2) : rowsTo x (k + 1) = foldW k (rowsTo x k) (slotsN x k) := by
  have : k = 0 ∨ k = 1 := by omega
  rcases this with rfl | rfl
  · rfl
  · rfl

theorem rowsTo_all (x : Nat) : rowsTo x 2 = x % 16777216 := by
  apply Nat.eq_of_testBit_eq
  intro j
  show (foldW 1 (foldW 0 0 (slotsN x 0)) (slotsN x 1)).testBit j = _
  rw [foldW_slots _ _ _ 1 (Or.inr rfl), foldW_slots _ _ _ 0 (Or.inl rfl), show (16777216 : Nat) = 2 ^ 24 by decide, Nat.testBit_mod_two_pow, Nat.zero_testBit]
  by_cases h1 : j < 12
  · have h2 : ¬ (12 ≤ j) := by omega
    have h3 : j < 24 := by omega
    simp [h1, h2, h3]
  · by_cases h3 : j < 24
    · have h2 : 12 ≤ j := by omega
      simp [h1, h2, h3]
    · simp [h1, h3]

end Um
