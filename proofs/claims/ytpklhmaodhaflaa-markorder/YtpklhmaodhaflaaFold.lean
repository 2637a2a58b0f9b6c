/-
  Plain lists: laid one by one, in whatever order.
-/
import Derived.Test.YtpklhmaodhaflaaMath
namespace Um

def Swaps {α : Type} (f : Nat → α → Nat) : Prop := ∀ z x y, f (f z x) y = f (f z y) x

theorem fold_last {α : Type} {f : Nat → α → Nat} (h : Swaps f) (l : List α) (z : Nat) (x : α) : l.foldl f (f z x) = f (l.foldl f z) x := by
  induction l generalizing z with
  | nil => rfl
  | cons y l ih => rw [List.foldl_cons, List.foldl_cons, h z x y, ih]

theorem fold_rev {α : Type} {f : Nat → α → Nat} (h : Swaps f) (l : List α) (z : Nat) : l.reverse.foldl f z = l.foldl f z := by
  induction l generalizing z with
  | nil => rfl
  | cons y l ih => rw [List.reverse_cons, List.foldl_append, ih, List.foldl_cons, List.foldl_nil, List.foldl_cons, fold_last h]

/-- one by one, counted from 0 on -/
def run {α : Type} (f : Nat → α → Nat) (g : Nat → α) (z : Nat) : Nat → Nat
  | 0 => z
  | k + 1 => f (run f g z k) (g k)

theorem run_fold {α : Type} (f : Nat → α → Nat) (g : Nat → α) (z n : Nat) : run f g z n = ((List.range n).map g).foldl f z := by
  induction n with
  | zero => rfl
  | succ n ih => rw [List.range_succ, List.map_append, List.foldl_append, run, ih]; rfl

theorem run_rev {α : Type} {f : Nat → α → Nat} (h : Swaps f) (g : Nat → α) (z n : Nat) : run f (fun i => g (n - 1 - i)) z n = run f g z n := by
  rw [run_fold, run_fold, ← fold_rev h ((List.range n).map g)]
  congr 1
  apply List.ext_getElem
  · simp
  · intro i h1 h2
    simp

theorem with_swaps : Swaps (fun z (p : Int × Int) => withN z p.1 p.2) := by
  intro z p q
  simp only [withN]
  by_cases h1 : okS p.1 p.2 = true <;> by_cases h2 : okS q.1 q.2 = true <;> simp [h1, h2]
  exact setN_comm _ _ _ _ _ (Or.inr rfl)

theorem run_word {α : Type} {f : Nat → α → Nat} {g : Nat → α} {z : Nat} (hz : Word z) (hf : ∀ z a, Word z → Word (f z a)) (k : Nat) : Word (run f g z k) := by
  induction k with
  | zero => exact hz
  | succ k ih => exact hf _ _ ih

theorem okS_of_has {x : Nat} {a b : Int} (h : hasN x a b = true) : okS a b = true := by
  unfold hasN at h; revert h; cases okS a b <;> simp

/-- the bits of a word of which one side's slot was dropped -/
theorem dropAt_bits (x : Nat) (a b : Int) (p : Bool) (j : Nat) :
    (dropAt x a b p).testBit j = if hasN x a b && decide (bitAt a b = j) then false else if hasN x a b && p && decide ((24 + a).toNat = j) then true else x.testBit j := by
  unfold dropAt
  cases hh : hasN x a b
  · simp
  · have ha := okS_iff.1 (okS_of_has hh)
    have hne : (24 + a).toNat ≠ bitAt a b := by unfold bitAt; omega
    cases p
    · simp only [testBit_setN, Bool.false_eq_true, if_false, if_true, Bool.true_and, Bool.and_false, Bool.false_and, decide_eq_true_eq]
    · simp only [testBit_setN, if_true, Bool.true_and, Bool.and_true, decide_eq_true_eq]
      by_cases h1 : bitAt a b = j
      · have : ¬ (24 + a).toNat = j := by omega
        simp [h1, this]
      · simp [h1]

theorem has_dropAt_slot (x : Nat) (a c b d : Int) (p : Bool) (h : ¬ (a = c ∧ b = d)) : hasN (dropAt x a b p) c d = hasN x c d := by
  unfold hasN
  by_cases hc : okS c d = true
  · rw [dropAt_bits]
    cases hh : hasN x a b
    · simp
    · have h1 := okS_iff.1 (okS_of_has hh)
      have h2 := okS_iff.1 hc
      have n1 : ¬ bitAt a b = bitAt c d := by unfold bitAt; omega
      have n2 : ¬ (24 + a).toNat = bitAt c d := by unfold bitAt; omega
      simp [n1, n2]
  · simp [hc]

theorem dropAt_comm (x : Nat) (a c b d : Int) (p : Bool) : dropAt (dropAt x a b p) c d p = dropAt (dropAt x c d p) a b p := by
  by_cases hs : a = c ∧ b = d
  · obtain ⟨rfl, rfl⟩ := hs; rfl
  · have hs' : ¬ (c = a ∧ d = b) := fun h => hs ⟨h.1.symm, h.2.symm⟩
    apply Nat.eq_of_testBit_eq
    intro j
    rw [dropAt_bits, dropAt_bits, dropAt_bits, dropAt_bits, has_dropAt_slot _ _ _ _ _ _ hs, has_dropAt_slot _ _ _ _ _ _ hs']
    cases h1 : hasN x a b <;> cases h2 : hasN x c d <;> simp
    have k1 := okS_iff.1 (okS_of_has h1)
    have k2 := okS_iff.1 (okS_of_has h2)
    have n1 : ¬ (24 + a).toNat = bitAt c d := by unfold bitAt; omega
    have n2 : ¬ (24 + c).toNat = bitAt a b := by unfold bitAt; omega
    by_cases e1 : bitAt a b = j
    · subst e1
      by_cases e2 : bitAt c d = bitAt a b
      · simp [e2]
      · simp [e2, n2]
    · by_cases e2 : bitAt c d = j
      · subst e2
        simp [e1, n1]
      · simp [e1, e2]
        cases p <;> simp
        by_cases e3 : (24 + a).toNat = j <;> by_cases e4 : (24 + c).toNat = j <;> simp [e3, e4]

theorem drop_swaps (p : Bool) : Swaps (fun z (q : Int × Int) => dropN z q.2 p) := by
  intro z q r
  simp only [dropN]
  rw [dropAt_comm (dropAt z 0 q.2 p) 1 0 q.2 r.2 p, dropAt_comm z 0 0 q.2 r.2 p]
  rw [dropAt_comm _ 1 1 q.2 r.2 p, dropAt_comm (dropAt z 0 r.2 p) 0 1 q.2 r.2 p]

end Um
