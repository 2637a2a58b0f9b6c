/-
  Plain arithmetic of layer 3's words: no Go in sight.
-/
import Derived.Test.YtiokbicbooeonaaMath
namespace Um

/-- A tally that has a word. -/
def tok (s : Nat) (p : Int) : Bool := decide (s ≤ 1099511627775 ∧ -1 ≤ p ∧ p ≤ 11)

/-- Its word; 0, if there is none. -/
def tpack (s : Nat) (p : Int) : Nat := if tok s p then 16 * s + (p + 1).toNat else 0

/-- The parts of a word, and the word of which nothing is pending. -/
def seqN (x : Nat) : Nat := x / 16
def penN (x : Nat) : Int := (x % 16 : Nat) - 1
def setlN (x : Nat) : Nat := x - x % 16

theorem setl_word {x : Nat} (h : Word x) : Word (setlN x) := Nat.lt_of_le_of_lt (Nat.sub_le _ _) h
theorem seq_setl (x : Nat) : seqN (setlN x) = seqN x := by unfold seqN setlN; omega
theorem pen_setl (x : Nat) : penN (setlN x) = -1 := by unfold penN setlN; omega
theorem setl_setl (x : Nat) : setlN (setlN x) = setlN x := by unfold setlN; omega
theorem pen_none (x : Nat) : penN x = -1 ↔ x % 16 = 0 := by unfold penN; omega
theorem seq_word {x : Nat} (h : Word x) : seqN x + 1 < 1152921504606846977 := by unfold seqN; unfold Word at h; omega

/-- A commit more may be behind x. -/
def nok (x : Nat) (p : Int) : Bool := decide (penN x = -1 ∧ 0 ≤ p) && tok (seqN x + 1) p

/-- The word behind x; 0, if there is none. -/
def tnext (x : Nat) (p : Int) : Nat := if nok x p then tpack (seqN x + 1) p else 0

def past (n s : Nat) : Bool := decide (0 < n ∧ n ≤ s)

theorem tok_iff {s : Nat} {p : Int} : tok s p = true ↔ s ≤ 1099511627775 ∧ -1 ≤ p ∧ p ≤ 11 := by unfold tok; simp

theorem tok_no {s : Nat} {p : Int} : tok s p = false ↔ ¬ (s ≤ 1099511627775 ∧ -1 ≤ p ∧ p ≤ 11) := by unfold tok; simp

theorem tpack_yes {s : Nat} {p : Int} (h : tok s p = true) : tpack s p = 16 * s + (p + 1).toNat := by unfold tpack; rw [if_pos h]

theorem tpack_no {s : Nat} {p : Int} (h : tok s p = false) : tpack s p = 0 := by unfold tpack; rw [h]; rfl

theorem tpack_word (s : Nat) (p : Int) : Word (tpack s p) := by
  unfold Word
  cases h : tok s p
  · rw [tpack_no h]; omega
  · rw [tpack_yes h]; have := tok_iff.1 h; omega

theorem tpack_seq {s : Nat} {p : Int} (h : tok s p = true) : seqN (tpack s p) = s := by
  unfold seqN; rw [tpack_yes h]; have := tok_iff.1 h; omega

theorem tpack_pending {s : Nat} {p : Int} (h : tok s p = true) : penN (tpack s p) = p := by
  unfold penN; rw [tpack_yes h]; have := tok_iff.1 h; omega

theorem nok_iff {x : Nat} {p : Int} : nok x p = true ↔ penN x = -1 ∧ 0 ≤ p ∧ p ≤ 11 ∧ seqN x + 1 ≤ 1099511627775 := by
  unfold nok
  rw [Bool.and_eq_true, decide_eq_true_iff, tok_iff]
  omega

theorem tnext_yes {x : Nat} {p : Int} (h : nok x p = true) : tnext x p = tpack (seqN x + 1) p := by unfold tnext; rw [if_pos h]

theorem tnext_no {x : Nat} {p : Int} (h : nok x p = false) : tnext x p = 0 := by unfold tnext; rw [h]; rfl

theorem nok_tok {x : Nat} {p : Int} (h : nok x p = true) : tok (seqN x + 1) p = true := by
  unfold nok at h
  exact (Bool.and_eq_true _ _ ▸ h).2

theorem tnext_word (x : Nat) (p : Int) : Word (tnext x p) := by
  cases h : nok x p
  · rw [tnext_no h]; unfold Word; omega
  · rw [tnext_yes h]; exact tpack_word _ _

theorem tpack_inj {s t : Nat} {p q : Int} (h : tok s p = true) (h' : tok t q = true) : tpack s p = tpack t q ↔ s = t ∧ p = q := by
  rw [tpack_yes h, tpack_yes h']
  have := tok_iff.1 h
  have := tok_iff.1 h'
  omega

theorem nok_settled {s : Nat} {q : Int} (h : tok s (-1) = true) : nok (tpack s (-1)) q = true ↔ 0 ≤ q ∧ q < 12 ∧ s < 1099511627775 := by
  rw [nok_iff, tpack_seq h, tpack_pending h]
  omega

theorem nok_settled_no {s : Nat} {q : Int} (h : tok s (-1) = true) (h' : ¬ (0 ≤ q ∧ q < 12 ∧ s < 1099511627775)) : nok (tpack s (-1)) q = false := by
  cases hh : nok (tpack s (-1)) q
  · rfl
  · exact absurd ((nok_settled h).1 hh) h'

theorem tnext_settled {s : Nat} {q : Int} (h : tok s (-1) = true) (h' : 0 ≤ q ∧ q < 12 ∧ s < 1099511627775) : tnext (tpack s (-1)) q = tpack (s + 1) q := by
  rw [tnext_yes ((nok_settled h).2 h'), tpack_seq h]

theorem nok_pending {s : Nat} {q r : Int} (h : tok s q = true) (h0 : 0 ≤ q) : nok (tpack s q) r = false := by
  cases hh : nok (tpack s q) r
  · rfl
  · have := (nok_iff.1 hh).1
    rw [tpack_pending h] at this
    omega

theorem setl_tpack {s : Nat} {q : Int} (h : tok s q = true) : setlN (tpack s q) = tpack s (-1) := by
  have h1 := tok_iff.1 h
  have h2 : tok s (-1) = true := tok_iff.2 (by omega)
  unfold setlN
  rw [tpack_yes h, tpack_yes h2]
  omega

/-- A multiple of 16 and four bits more: or is plus. -/
theorem or_low (s k : Nat) (h : k < 16) : (16 * s) ||| k = 16 * s + k := by
  have := Nat.two_pow_add_eq_or_of_lt (i := 4) (b := k) (by omega) s
  rw [show (2 : Nat) ^ 4 = 16 by decide] at this
  exact this.symm

end Um
