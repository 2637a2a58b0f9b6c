/-
  Plain arithmetic of layer 5's cells: no Go in sight.
-/
import Derived.Test.YtjicfonpldobdaaMath
namespace Um
set_option maxRecDepth 100000

/-- The worlds that there are: so many threads, slots, keys, the greatest generation, the greatest number of a commit. -/
def rt (t s k g : Int) (q : Nat) : Bool := decide (1 ≤ t ∧ t ≤ 8 ∧ 1 ≤ s ∧ s ≤ 12 ∧ 1 ≤ k ∧ k ≤ 8 ∧ 0 ≤ g ∧ g ≤ 1073741823 ∧ q ≤ 1099511627775)

/-- What is known of the sizes of a world that there is. -/
def Rb (r : Bool) (t s k : Int) : Prop := r = true → 1 ≤ t ∧ t ≤ 8 ∧ 1 ≤ s ∧ s ≤ 12 ∧ 1 ≤ k ∧ k ≤ 8

theorem rt_rb (t s k g : Int) (q : Nat) : Rb (rt t s k g q) t s k := by
  intro h
  have := of_decide_eq_true h
  omega

/-- The five runs of cells: how many things, how many kinds of each, the first kind, how many cells; where each begins. -/
def thN (r : Bool) (t s k : Int) (j : Nat) : Int := if r then (if j < 2 then 1 else if j = 2 then t else if j = 3 then s else k) else 0
def kiN (r : Bool) (j : Nat) : Int := if r then (if j = 3 then 4 else 1) else 0
def fiN (r : Bool) (j : Nat) : Int := if r then (if j = 4 then 8 else (j : Int) + 1) else 0
def lnN (r : Bool) (t s k : Int) (j : Nat) : Int := if r then (if j < 2 then 1 else if j = 2 then t else if j = 3 then 4 * s else k) else 0
def offN (r : Bool) (t s k : Int) (j : Nat) : Int := if r then (if j < 3 then (j : Int) else if j = 3 then 2 + t else if j = 4 then 2 + t + 4 * s else 2 + t + 4 * s + k) else 0

/-- How many cells; the kind, and the thing, of each; 0, if it is none. -/
def clen (r : Bool) (t s k : Int) : Int := if r then 2 + t + 4 * s + k else 0
def atK (r : Bool) (t s k x : Int) : Int :=
  if r = true ∧ 0 ≤ x then (if x < 1 then 1 else if x < 2 then 2 else if x < 2 + t then 3 else if x < 2 + t + 4 * s then 4 + (x - 2 - t) % 4 else if x < 2 + t + 4 * s + k then 8 else 0) else 0
def atO (r : Bool) (t s k x : Int) : Int :=
  if r = true ∧ 0 ≤ x then (if x < 1 then 0 else if x < 2 then 0 else if x < 2 + t then x - 2 else if x < 2 + t + 4 * s then (x - 2 - t) / 4 else if x < 2 + t + 4 * s + k then x - 2 - t - 4 * s else 0) else 0

/-- Where a spot stands; -1, if it stands nowhere. -/
def cellN (r : Bool) (t s k a b : Int) : Int :=
  if r = true then
    (if a = 1 ∧ b = 0 then 0 else if a = 2 ∧ b = 0 then 1 else if a = 3 ∧ 0 ≤ b ∧ b < t then 2 + b
     else if 4 ≤ a ∧ a ≤ 7 ∧ 0 ≤ b ∧ b < s then 2 + t + 4 * b + a - 4 else if a = 8 ∧ 0 ≤ b ∧ b < k then 2 + t + 4 * s + b else -1)
  else -1

/-- An integer of 64 bits. -/
def wr (x : Int) : Int := (x + 9223372036854775808) % 18446744073709551616 - 9223372036854775808

/-- Where a spot would stand. -/
def plc (r : Bool) (t s a b : Int) : Int :=
  if r = true then
    (if a = 1 then wr b else if a = 2 then wr (1 + b) else if a = 3 then wr (2 + b)
     else if 4 ≤ a ∧ a ≤ 7 then wr (2 + t + 4 * b + a - 4) else if a = 8 then wr (2 + t + 4 * s + b) else -1)
  else -1

theorem below5 {j : Nat} (h : j < 5) : j = 0 ∨ j = 1 ∨ j = 2 ∨ j = 3 ∨ j = 4 := by omega

theorem off_zero (r : Bool) (t s k : Int) : offN r t s k 0 = 0 := by cases r <;> simp [offN]
theorem off_five (r : Bool) (t s k : Int) : offN r t s k 5 = clen r t s k := by cases r <;> simp [offN, clen]

theorem off_succ (r : Bool) (t s k : Int) {j : Nat} (h : j < 5) : offN r t s k j + lnN r t s k j = offN r t s k (j + 1) := by
  cases r
  · simp [offN, lnN]
  · rcases below5 h with rfl | rfl | rfl | rfl | rfl <;> simp [offN, lnN]

theorem ln_eq (r : Bool) (t s k : Int) {j : Nat} (h : j < 5) : thN r t s k j * kiN r j = lnN r t s k j := by
  cases r
  · simp [thN, kiN, lnN]
  · rcases below5 h with rfl | rfl | rfl | rfl | rfl <;> simp [thN, kiN, lnN]
    omega

theorem ln_bd {r : Bool} {t s k : Int} (hr : Rb r t s k) (j : Nat) : 0 ≤ lnN r t s k j ∧ lnN r t s k j ≤ 48 := by
  cases r
  · simp [lnN]
  · have := hr rfl
    simp only [lnN, if_true]
    (repeat' split) <;> omega

theorem off_bd {r : Bool} {t s k : Int} (hr : Rb r t s k) (j : Nat) : 0 ≤ offN r t s k j ∧ offN r t s k j ≤ 66 := by
  cases r
  · simp [offN]
  · have := hr rfl
    simp only [offN, if_true]
    (repeat' split) <;> omega

theorem clen_bd {r : Bool} {t s k : Int} (hr : Rb r t s k) : 0 ≤ clen r t s k ∧ clen r t s k ≤ 66 := by
  rw [← off_five]
  exact off_bd hr 5

theorem ki_bd (r : Bool) (j : Nat) : 0 ≤ kiN r j ∧ kiN r j ≤ 4 := by
  cases r <;> simp only [kiN] <;> (repeat' split) <;> simp_all

theorem fi_bd (r : Bool) {j : Nat} (h : j < 5) : 0 ≤ fiN r j ∧ fiN r j ≤ 8 := by
  cases r <;> simp only [fiN] <;> (repeat' split) <;> simp_all <;> omega

theorem ki_pos {r : Bool} {t s k : Int} {j : Nat} (h : 0 < lnN r t s k j) : 1 ≤ kiN r j := by
  cases r
  · simp [lnN] at h
  · simp only [kiN, if_true]
    split <;> decide

/-- The spot of a cell of a run. -/
theorem at_run {r : Bool} {t s k : Int} (hr : Rb r t s k) {j : Nat} (hj : j < 5) {x : Int} (h0 : offN r t s k j ≤ x) (h1 : x - offN r t s k j < lnN r t s k j) :
    fiN r j + (x - offN r t s k j) % kiN r j = atK r t s k x ∧ (x - offN r t s k j) / kiN r j = atO r t s k x := by
  cases r
  · simp [offN, lnN] at h0 h1
    omega
  · have hb := hr rfl
    rcases below5 hj with rfl | rfl | rfl | rfl | rfl <;> simp [offN, lnN] at h0 h1 <;> simp [offN, kiN, fiN, atK, atO]
    all_goals
      refine ⟨?_, ?_⟩ <;> (repeat' split) <;> omega

theorem at_out {r : Bool} {t s k : Int} (hr : Rb r t s k) {x : Int} (h : clen r t s k ≤ x) : atK r t s k x = 0 ∧ atO r t s k x = 0 := by
  cases r
  · simp [atK, atO]
  · have hb := hr rfl
    simp [clen] at h
    simp only [atK, atO, true_and]
    refine ⟨?_, ?_⟩ <;> (repeat' split) <;> omega

theorem at_neg {r : Bool} {t s k x : Int} (h : x < 0) : atK r t s k x = 0 ∧ atO r t s k x = 0 := by
  simp only [atK, atO]
  refine ⟨?_, ?_⟩ <;> (repeat' split) <;> omega

theorem at_pos {r : Bool} {t s k x : Int} (hr : Rb r t s k) (h0 : 0 ≤ x) (h1 : x < clen r t s k) : 1 ≤ atK r t s k x ∧ atK r t s k x ≤ 8 ∧ 0 ≤ atO r t s k x ∧ atO r t s k x ≤ 11 := by
  cases r
  · simp [clen] at h1
    omega
  · have hb := hr rfl
    simp [clen] at h1
    simp only [atK, atO, true_and]
    refine ⟨?_, ?_, ?_, ?_⟩ <;> (repeat' split) <;> omega

/-- the place of a spot of a run -/
theorem plc_hit {r : Bool} {t s k a b : Int} {j : Nat} (hj : j < 5) (h0 : fiN r j ≤ a) (h1 : a ≤ fiN r j + kiN r j - 1) : wr (offN r t s k j + b * kiN r j + a - fiN r j) = plc r t s a b := by
  cases r
  · simp [fiN, kiN] at h0 h1
    omega
  · rcases below5 hj with rfl | rfl | rfl | rfl | rfl <;> simp [fiN, kiN] at h0 h1 <;> simp only [offN, fiN, kiN, plc, if_true]
    all_goals
      simp
      (repeat' split) <;> first | omega | (congr 1; omega)

theorem plc_miss {r : Bool} {t s a b : Int} (h : ∀ j, j < 5 → ¬ (fiN r j ≤ a ∧ a ≤ fiN r j + kiN r j - 1)) : plc r t s a b = -1 := by
  cases r
  · simp [plc]
  · have h0 := h 0 (by omega)
    have h1 := h 1 (by omega)
    have h2 := h 2 (by omega)
    have h3 := h 3 (by omega)
    have h4 := h 4 (by omega)
    simp [fiN, kiN] at h0 h1 h2 h3 h4
    simp only [plc, if_true]
    (repeat' split) <;> omega

theorem at_eqs {t s k x : Int} (hb : 1 ≤ t ∧ t ≤ 8 ∧ 1 ≤ s ∧ s ≤ 12 ∧ 1 ≤ k ∧ k ≤ 8) :
    (x < 0 ∧ atK true t s k x = 0 ∧ atO true t s k x = 0) ∨ (x = 0 ∧ atK true t s k x = 1 ∧ atO true t s k x = 0) ∨ (x = 1 ∧ atK true t s k x = 2 ∧ atO true t s k x = 0) ∨
    (2 ≤ x ∧ x < 2 + t ∧ atK true t s k x = 3 ∧ atO true t s k x = x - 2) ∨
    (2 + t ≤ x ∧ x < 2 + t + 4 * s ∧ atK true t s k x = 4 + (x - 2 - t) % 4 ∧ atO true t s k x = (x - 2 - t) / 4) ∨
    (2 + t + 4 * s ≤ x ∧ x < 2 + t + 4 * s + k ∧ atK true t s k x = 8 ∧ atO true t s k x = x - 2 - t - 4 * s) ∨
    (2 + t + 4 * s + k ≤ x ∧ atK true t s k x = 0 ∧ atO true t s k x = 0) := by
  simp only [atK, atO, true_and]
  (repeat' split) <;> omega

theorem cell_eqs (t s k a b : Int) :
    (a = 1 ∧ b = 0 ∧ cellN true t s k a b = 0) ∨ (a = 2 ∧ b = 0 ∧ cellN true t s k a b = 1) ∨ (a = 3 ∧ 0 ≤ b ∧ b < t ∧ cellN true t s k a b = 2 + b) ∨
    (4 ≤ a ∧ a ≤ 7 ∧ 0 ≤ b ∧ b < s ∧ cellN true t s k a b = 2 + t + 4 * b + a - 4) ∨ (a = 8 ∧ 0 ≤ b ∧ b < k ∧ cellN true t s k a b = 2 + t + 4 * s + b) ∨
    (cellN true t s k a b = -1 ∧ ¬ (a = 1 ∧ b = 0) ∧ ¬ (a = 2 ∧ b = 0) ∧ ¬ (a = 3 ∧ 0 ≤ b ∧ b < t) ∧ ¬ (4 ≤ a ∧ a ≤ 7 ∧ 0 ≤ b ∧ b < s) ∧ ¬ (a = 8 ∧ 0 ≤ b ∧ b < k)) := by
  simp only [cellN, if_true]
  (repeat' split) <;> omega

theorem plc_eqs (t s a b : Int) :
    (a = 1 ∧ plc true t s a b = wr b) ∨ (a = 2 ∧ plc true t s a b = wr (1 + b)) ∨ (a = 3 ∧ plc true t s a b = wr (2 + b)) ∨
    (4 ≤ a ∧ a ≤ 7 ∧ plc true t s a b = wr (2 + t + 4 * b + a - 4)) ∨ (a = 8 ∧ plc true t s a b = wr (2 + t + 4 * s + b)) ∨
    (plc true t s a b = -1 ∧ ¬ (1 ≤ a ∧ a ≤ 8)) := by
  simp only [plc, if_true]
  (repeat' split) <;> omega

/-- the spot that stands at the place of a spot is that one just if it stands somewhere -/
theorem plc_cell {r : Bool} {t s k a b : Int} (hr : Rb r t s k) (hb0 : -9223372036854775808 ≤ b) (hb1 : b ≤ 9223372036854775807) :
    (atK r t s k (plc r t s a b) = a ∧ atO r t s k (plc r t s a b) = b → plc r t s a b = cellN r t s k a b) ∧
    (¬ (atK r t s k (plc r t s a b) = a ∧ atO r t s k (plc r t s a b) = b) → cellN r t s k a b = -1) := by
  cases r
  · simp [plc, cellN]
  · have hb := hr rfl
    have hc := cell_eqs t s k a b
    have hp := plc_eqs t s a b
    have ha := at_eqs (x := plc true t s a b) hb
    generalize cellN true t s k a b = c at *
    generalize plc true t s a b = p at *
    generalize atK true t s k p = u at *
    generalize atO true t s k p = v at *
    simp only [wr] at hp
    rcases hp with hp | hp | hp | hp | hp | hp <;> rcases ha with ha | ha | ha | ha | ha | ha | ha <;> rcases hc with hc | hc | hc | hc | hc | hc <;> omega

theorem cell_bd {r : Bool} {t s k : Int} (hr : Rb r t s k) (a b : Int) : -1 ≤ cellN r t s k a b ∧ cellN r t s k a b < clen r t s k + (if r then 0 else 1) := by
  cases r
  · simp [cellN, clen]
  · have hb := hr rfl
    simp only [cellN, clen, if_true]
    (repeat' split) <;> omega

/-- the spot that stands in a cell stands there -/
theorem at_cell {r : Bool} {t s k x : Int} (hr : Rb r t s k) (h0 : 0 ≤ x) (h1 : x < clen r t s k) : cellN r t s k (atK r t s k x) (atO r t s k x) = x := by
  cases r
  · simp [clen] at h1
    omega
  · have hb := hr rfl
    simp [clen] at h1
    have hc := cell_eqs t s k (atK true t s k x) (atO true t s k x)
    have ha := at_eqs (x := x) hb
    generalize cellN true t s k _ _ = c at *
    generalize atK true t s k x = u at *
    generalize atO true t s k x = v at *
    rcases ha with ha | ha | ha | ha | ha | ha | ha <;> rcases hc with hc | hc | hc | hc | hc | hc <;> omega

/-- where a spot stands is that spot -/
theorem cell_at {r : Bool} {t s k a b : Int} (hr : Rb r t s k) (h : 0 ≤ cellN r t s k a b) : cellN r t s k a b < clen r t s k ∧ atK r t s k (cellN r t s k a b) = a ∧ atO r t s k (cellN r t s k a b) = b := by
  cases r
  · simp [cellN] at h
  · have hb := hr rfl
    simp only [clen, if_true]
    have hc := cell_eqs t s k a b
    have ha := at_eqs (x := cellN true t s k a b) hb
    generalize cellN true t s k a b = c at *
    generalize atK true t s k c = u at *
    generalize atO true t s k c = v at *
    rcases hc with hc | hc | hc | hc | hc | hc <;> rcases ha with ha | ha | ha | ha | ha | ha | ha <;> omega

theorem cell_inj {r : Bool} {t s k a b a' b' : Int} (hr : Rb r t s k) (h : 0 ≤ cellN r t s k a b) (h' : 0 ≤ cellN r t s k a' b') (e : cellN r t s k a b = cellN r t s k a' b') : a = a' ∧ b = b' := by
  have p := cell_at hr h
  have p' := cell_at hr h'
  rw [e] at p
  exact ⟨p.2.1.symm.trans p'.2.1, p.2.2.symm.trans p'.2.2⟩

/-- one key more, one thread more -/
theorem cell_key {t s k a b : Int} (hr : Rb true t s (k + 1)) (h : 0 ≤ cellN true t s k a b) : cellN true t s (k + 1) a b = cellN true t s k a b := by
  have hb := hr rfl
  revert h
  simp only [cellN]
  (repeat' split) <;> omega

theorem cell_thread {t s k a b : Int} (hr : Rb true (t + 1) s k) (h : 0 ≤ cellN true t s k a b) : cellN true (t + 1) s k a b = cellN true t s k a b + (if 3 < a then 1 else 0) := by
  have hb := hr rfl
  revert h
  simp only [cellN]
  (repeat' split) <;> omega

end Um
