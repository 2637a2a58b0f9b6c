/-
  Plain arithmetic of layer 7: pins and graces over a memory. No Go in sight.
-/
import Derived.Test.YtjicfonpldobdaaStoreMath
namespace Um
set_option maxRecDepth 100000

/-- the next thread but one's own -/
def goTo (own t : Int) : Int := if t = own then t + 1 else t

/-- does a pin hold what was retired -/
def holdsW (p ret : Nat) : Bool := p != 0 && decide (p - 1 ≤ ret)

/-- a grace over a memory: the memory, the thread that is asked next, did one hold -/
structure Gs where
  m : Mm
  oth : Int
  later : Bool

def gdone (c : Cf) (oth : Int) (later : Bool) : Bool := later || decide (c.t ≤ oth)

/-- a grace's step -/
def gask (c : Cf) (own : Int) (ret : Nat) (s : Gs) : Gs :=
  if gdone c s.oth s.later = true then s else if holdsW (mtouch c s.m 1 3 s.oth 0 0).l.old ret = true then ⟨mtouch c s.m 1 3 s.oth 0 0, s.oth, true⟩ else ⟨mtouch c s.m 1 3 s.oth 0 0, goTo own (s.oth + 1), false⟩

/-- a pin over a memory: the memory, what was loaded, how many steps there were -/
structure Ps where
  m : Mm
  ep : Nat
  st : Nat

/-- a pin's step -/
def pstep (c : Cf) (t : Int) (s : Ps) : Ps :=
  if s.st = 0 then ⟨mtouch c s.m 1 2 0 0 0, (mtouch c s.m 1 2 0 0 0).l.old, 1⟩ else if s.st = 1 then ⟨mtouch c s.m 2 3 t 0 (addW s.ep 1), s.ep, 2⟩ else s

theorem old_word {c : Cf} {m : Mm} {kind a b : Int} {old v : Nat} (h : ∀ i, i < c.n → Word (m.ws i)) : Word (mtouch c m kind a b old v).l.old := by
  unfold mtouch
  split
  · rename_i hp
    exact h _ (Cf.cl_lt hp)
  · show Word 0
    unfold Word
    omega

end Um
