/-
  Plain arithmetic of layer 6's memory: words by cell, and what an access makes of them. No Go in sight.
-/
import Derived.Test.YtjicfonpldobdaaChartMath
namespace Um
set_option maxRecDepth 100000

/-- how great a world is -/
structure Cf where
  t : Int
  s : Int
  k : Int
  g : Int
  q : Nat

/-- an access: its kind, the spot that was asked, the word ahead and behind, was it done -/
structure Tch where
  kind : Int
  a : Int
  b : Int
  old : Nat
  new : Nat
  done : Bool

/-- words by cell, how many accesses there were, the last one -/
structure Mm where
  ws : Nat → Nat
  cnt : Int
  l : Tch

def Cf.r (c : Cf) : Bool := rt c.t c.s c.k c.g c.q

/-- how many cells -/
def Cf.n (c : Cf) : Nat := (clen c.r c.t c.s c.k).toNat

/-- the cell of a spot, or -1 -/
def Cf.cl (c : Cf) (a b : Int) : Int := cellN c.r c.t c.s c.k a b

def addW (x y : Nat) : Nat := (x + y) % 18446744073709551616

def nextI (x : Int) : Int := (x + 1 + 9223372036854775808) % 18446744073709551616 - 9223372036854775808

/-- the word behind an access of a kind -/
def trn (kind : Int) (old v x : Nat) : Nat := if kind = 2 then v else if kind = 3 then (if x = old then v else x) else if kind = 4 then addW x v else x

/-- was it done -/
def trd (kind : Int) (old x : Nat) : Bool := if kind = 3 then x == old else true

def putW (ws : Nat → Nat) (j v : Nat) : Nat → Nat := fun i => if i = j then v else ws i

def noT : Tch := ⟨0, 0, 0, 0, 0, false⟩

def mhit (m : Mm) (p : Nat) (kind a b : Int) (old v : Nat) : Mm :=
  ⟨putW m.ws p (trn kind old v (m.ws p)), nextI m.cnt, ⟨kind, a, b, m.ws p, trn kind old v (m.ws p), trd kind old (m.ws p)⟩⟩

def mmiss (m : Mm) (kind a b : Int) : Mm := ⟨m.ws, nextI m.cnt, ⟨kind, a, b, 0, 0, false⟩⟩

/-- a memory behind an access -/
def mtouch (c : Cf) (m : Mm) (kind a b : Int) (old v : Nat) : Mm :=
  if 0 ≤ c.cl a b then mhit m (c.cl a b).toNat kind a b old v else mmiss m kind a b

theorem word_addW (x y : Nat) : Word (addW x y) := Nat.mod_lt _ (by decide)

theorem word_trn {kind : Int} {old v x : Nat} (hv : Word v) (hx : Word x) : Word (trn kind old v x) := by
  unfold trn
  (repeat' split) <;> first | exact hv | exact hx | exact word_addW _ _

theorem Cf.rb (c : Cf) : Rb c.r c.t c.s c.k := rt_rb _ _ _ _ _

theorem Cf.n_eq {c : Cf} : ((c.n : Nat) : Int) = clen c.r c.t c.s c.k := by
  have := (clen_bd c.rb).1
  unfold Cf.n
  omega

theorem Cf.n_le (c : Cf) : c.n ≤ 66 := by
  have := (clen_bd c.rb).2
  have := c.n_eq
  omega

theorem Cf.n_pos {c : Cf} (h : c.r = true) : 8 ≤ c.n := by
  have h1 := c.rb h
  have h2 := c.n_eq
  rw [h] at h2
  simp [clen] at h2
  omega

theorem Cf.cl_lt {c : Cf} {a b : Int} (h : 0 ≤ c.cl a b) : (c.cl a b).toNat < c.n := by
  have h1 := (cell_at c.rb h).1
  have h2 := c.n_eq
  unfold Cf.cl at *
  omega

theorem Cf.cl_ge (c : Cf) (a b : Int) : -1 ≤ c.cl a b := (cell_bd c.rb a b).1

theorem putW_same (ws : Nat → Nat) (j v : Nat) : putW ws j v j = v := by simp [putW]
theorem putW_other {ws : Nat → Nat} {i j v : Nat} (h : i ≠ j) : putW ws j v i = ws i := by simp [putW, h]
theorem putW_id {ws : Nat → Nat} {j v : Nat} (h : v = ws j) : putW ws j v = ws := by
  funext i
  by_cases e : i = j
  · subst e; rw [putW_same, h]
  · exact putW_other e

theorem word_putW {ws : Nat → Nat} {n j v : Nat} (h : ∀ i, i < n → Word (ws i)) (hv : Word v) : ∀ i, i < n → Word (putW ws j v i) := by
  intro i hi
  by_cases e : i = j
  · subst e; rw [putW_same]; exact hv
  · rw [putW_other e]; exact h i hi

theorem word_touch {c : Cf} {m : Mm} {kind a b : Int} {old v : Nat} (h : ∀ i, i < c.n → Word (m.ws i)) (hv : Word v) : ∀ i, i < c.n → Word ((mtouch c m kind a b old v).ws i) := by
  unfold mtouch
  split
  · rename_i hp
    exact word_putW h (word_trn hv (h _ (Cf.cl_lt hp)))
  · exact h

end Um
