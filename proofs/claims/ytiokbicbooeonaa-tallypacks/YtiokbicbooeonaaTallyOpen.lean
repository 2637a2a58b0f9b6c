/-
  A tally that was handed in: what its reading says of its cells.
-/
import Derived.Test.YtiokbicbooeonaaTallyAlive
import Derived.WalkKit
import Derived.ProofKit
import Derived.OpenShut
import Derived.ShutString
namespace Go.Proofs.Ytiokbicbooeonaa
open Go.ChangeShapes Go.WideShapes Go.ChangeAt Go.RowKit Go.Sort

theorem cellsT : Try.prog.cellsOf 24 = 2 := by kernel_rfl
theorem cellsI : Try.prog.cellsOf 3 = 1 := by kernel_rfl
theorem cellsU : Try.prog.cellsOf 22 = 1 := by kernel_rfl

theorem array2 {α : Type} {cs : Array α} (h : cs.size = 2) : ∃ c0 c1, cs = #[c0, c1] := by
  obtain ⟨l⟩ := cs
  match l, h with
  | [c0, c1], _ => exact ⟨c0, c1, rfl⟩

theorem list2 {α : Type} {cs : List α} (h : cs.length = 2) : ∃ c0 c1, cs = [c0, c1] := by
  match cs, h with
  | [c0, c1], _ => exact ⟨c0, c1, rfl⟩

theorem open_tally {H : Type} {enc : TypeId × Value → H} {W : World} {base : Nat} {v : Value} {d : DataW H} {p : List MemPlace}
    (hv : Value.okWide Try.prog W .any base 24 v) (h : DataW.Trod enc Try.prog W 0 (fun _ => true) true 24 v d p) :
    ∃ (s : Nat) (q : Int), v = .agg #[.int .u64 s, .int .i64 q] := by
  obtain ⟨cs, rfl, hsz⟩ := okWide_struct Try.underlying24 hv
  obtain ⟨c0, c1, rfl⟩ := array2 (hsz.trans cellsT)
  obtain ⟨fuel, hf⟩ := h
  obtain ⟨xs, n, _, _, hl, hlen, hx⟩ := DataW.trod_struct Try.underlying24 hf
  obtain ⟨y0, y1, rfl⟩ := list2 hlen
  obtain ⟨g, e0, _, k0⟩ := DataW.trod_int Try.underlying22 (hx 0 _ rfl)
  obtain ⟨t, rfl, _⟩ := word_of k0
  obtain ⟨st, e1, _, _⟩ := DataW.trod_int Try.underlying3 (hx 1 _ rfl)
  simp [Value.cells, cellsI, cellsU] at e0 e1
  subst e0 e1
  exact ⟨t, st, rfl⟩

end Go.Proofs.Ytiokbicbooeonaa
