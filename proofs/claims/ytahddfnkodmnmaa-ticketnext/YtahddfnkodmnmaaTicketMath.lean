/-
  Plain arithmetic of layer 4's words: no Go in sight.
-/
import Derived.Test.YtahddfnkodmnmaaMath
namespace Um

/-- The slot, and the generation, that a ticket may have and that is nearest to any. -/
def nearS (a : Int) : Int := min (max a 0) 11
def nearG (a : Int) : Int := min (max a 0) 1073741823

/-- The parts of a word. -/
def tsN (x : Nat) : Int := (x % 16 : Nat) - 1
def tgN (x : Nat) : Int := (min (x / 16) 1073741824 : Nat)

/-- A slot and a generation that have a ticket, and that ticket; 0, if there is none. -/
def mok (s g : Int) : Bool := decide (0 ≤ s ∧ s ≤ 11 ∧ 0 ≤ g ∧ g ≤ 1073741823)
def mkN (s g : Int) : Nat := if mok s g then (16 * g + s + 1).toNat else 0

/-- A word that has a slot, and that slot; 0, if there is none. -/
def sok (x : Nat) : Bool := decide (0 ≤ tsN x ∧ tsN x ≤ 11)
def svN (x : Nat) : Int := if sok x then tsN x else 0

/-- A word that names one of n slots, and what it names; zeros, if it names none. -/
def ook (x : Nat) (n : Int) : Bool := decide (0 ≤ tsN x ∧ tsN x ≤ 11 ∧ tgN x ≤ 1073741823 ∧ tsN x < n)
def osN (x : Nat) (n : Int) : Int := if ook x n then tsN x else 0
def ogN (x : Nat) (n : Int) : Int := if ook x n then tgN x else 0

theorem ts_bd (x : Nat) : -1 ≤ tsN x ∧ tsN x ≤ 14 := by unfold tsN; omega
theorem tg_bd (x : Nat) : 0 ≤ tgN x ∧ tgN x ≤ 1073741824 := by unfold tgN; omega

theorem mok_iff {s g : Int} : mok s g = true ↔ 0 ≤ s ∧ s ≤ 11 ∧ 0 ≤ g ∧ g ≤ 1073741823 := by unfold mok; simp
theorem mok_no {s g : Int} : mok s g = false ↔ ¬ (0 ≤ s ∧ s ≤ 11 ∧ 0 ≤ g ∧ g ≤ 1073741823) := by unfold mok; simp
theorem mk_yes {s g : Int} (h : mok s g = true) : mkN s g = (16 * g + s + 1).toNat := by unfold mkN; rw [if_pos h]
theorem mk_no {s g : Int} (h : mok s g = false) : mkN s g = 0 := by unfold mkN; rw [h]; rfl
theorem sok_iff {x : Nat} : sok x = true ↔ 0 ≤ tsN x ∧ tsN x ≤ 11 := by unfold sok; simp
theorem sok_no {x : Nat} : sok x = false ↔ ¬ (0 ≤ tsN x ∧ tsN x ≤ 11) := by unfold sok; simp
theorem sv_yes {x : Nat} (h : sok x = true) : svN x = tsN x := by unfold svN; rw [if_pos h]
theorem sv_no {x : Nat} (h : sok x = false) : svN x = 0 := by unfold svN; rw [h]; rfl
theorem ook_iff {x : Nat} {n : Int} : ook x n = true ↔ 0 ≤ tsN x ∧ tsN x ≤ 11 ∧ tgN x ≤ 1073741823 ∧ tsN x < n := by unfold ook; simp
theorem ook_no {x : Nat} {n : Int} : ook x n = false ↔ ¬ (0 ≤ tsN x ∧ tsN x ≤ 11 ∧ tgN x ≤ 1073741823 ∧ tsN x < n) := by unfold ook; simp
theorem os_yes {x : Nat} {n : Int} (h : ook x n = true) : osN x n = tsN x := by unfold osN; rw [if_pos h]
theorem os_no {x : Nat} {n : Int} (h : ook x n = false) : osN x n = 0 := by unfold osN; rw [h]; rfl
theorem og_yes {x : Nat} {n : Int} (h : ook x n = true) : ogN x n = tgN x := by unfold ogN; rw [if_pos h]
theorem og_no {x : Nat} {n : Int} (h : ook x n = false) : ogN x n = 0 := by unfold ogN; rw [h]; rfl

theorem near_mok {s g : Int} : decide (s = nearS s ∧ g = nearG g) = mok s g := by
  unfold mok nearS nearG
  rw [Bool.eq_iff_iff, decide_eq_true_iff, decide_eq_true_iff]
  omega

theorem near_sok {x : Nat} : decide (tsN x = nearS (tsN x) ∧ (0 : Int) = nearG 0) = sok x := by
  unfold sok nearS nearG
  rw [Bool.eq_iff_iff, decide_eq_true_iff, decide_eq_true_iff]
  omega

theorem near_ook {x : Nat} : decide (tsN x = nearS (tsN x) ∧ tgN x = nearG (tgN x)) = decide (0 ≤ tsN x ∧ tsN x ≤ 11 ∧ tgN x ≤ 1073741823) := by
  have := tg_bd x
  unfold nearS nearG
  rw [Bool.eq_iff_iff, decide_eq_true_iff, decide_eq_true_iff]
  omega

theorem mk_word (s g : Int) : Word (mkN s g) := by
  unfold Word
  cases h : mok s g
  · rw [mk_no h]; omega
  · rw [mk_yes h]; have := mok_iff.1 h; omega

theorem mk_ts {s g : Int} (h : mok s g = true) : tsN (mkN s g) = s := by
  unfold tsN; rw [mk_yes h]; have := mok_iff.1 h; omega

theorem mk_tg {s g : Int} (h : mok s g = true) : tgN (mkN s g) = g := by
  unfold tgN; rw [mk_yes h]; have := mok_iff.1 h; omega

theorem mk_sok {s g : Int} (h : mok s g = true) : sok (mkN s g) = true := by
  rw [sok_iff, mk_ts h]; have := mok_iff.1 h; omega

theorem mk_inj {s t g r : Int} (h : mok s g = true) (h' : mok t r = true) : mkN s g = mkN t r ↔ s = t ∧ g = r := by
  rw [mk_yes h, mk_yes h']
  have := mok_iff.1 h
  have := mok_iff.1 h'
  omega

/-- What a word names is its ticket. -/
theorem ook_mk {x : Nat} {n : Int} (h : ook x n = true) : mok (tsN x) (tgN x) = true ∧ mkN (tsN x) (tgN x) = x := by
  have h1 := ook_iff.1 h
  have h2 := tg_bd x
  have h3 : mok (tsN x) (tgN x) = true := mok_iff.2 (by omega)
  refine ⟨h3, ?_⟩
  rw [mk_yes h3]
  unfold tsN tgN at *
  omega

/-- A multiple of 16 and four bits more: or is plus. -/
theorem or_sixteen (s k : Nat) (h : k < 16) : k ||| (16 * s) = 16 * s + k := by
  have := Nat.two_pow_add_eq_or_of_lt (i := 4) (b := k) (by omega) s
  rw [show (2 : Nat) ^ 4 = 16 by decide] at this
  rw [Nat.or_comm]
  exact this.symm

/-- The ticket of the next generation is 16 more. -/
theorem mk_next {s g : Int} (h : mok s g = true) (h' : g < 1073741823) : mok s (g + 1) = true ∧ mkN s (g + 1) = mkN s g + 16 := by
  have h1 := mok_iff.1 h
  have h2 : mok s (g + 1) = true := mok_iff.2 (by omega)
  refine ⟨h2, ?_⟩
  rw [mk_yes h, mk_yes h2]
  omega

theorem greater_cases (x : Nat) {lo hi : Int} (h : lo ≤ hi) :
    (ook x lo = false ∧ ook x hi = false ∧ True) ∨ (ook x lo = true ∧ ook x hi = true ∧ tsN x < lo) ∨ (ook x lo = false ∧ ook x hi = true ∧ lo ≤ tsN x) := by
  cases h1 : ook x lo
  · cases h2 : ook x hi
    · exact .inl ⟨rfl, rfl, trivial⟩
    · have := ook_iff.1 h2
      have := ook_no.1 h1
      exact .inr (.inr ⟨rfl, rfl, by omega⟩)
  · have h3 := ook_iff.1 h1
    have h2 : ook x hi = true := ook_iff.2 (by omega)
    exact .inr (.inl ⟨rfl, h2, by omega⟩)

end Um
