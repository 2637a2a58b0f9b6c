/-
  A pair of integers that was handed in: what its reading says of its cells.
-/
import Derived.Test.YtahddfnkodmnmaaWords
import Derived.WalkKit
import Derived.ProofKit
import Derived.OpenShut
import Derived.ShutString
namespace Go.Proofs.Ytahddfnkodmnmaa
open Go.ChangeShapes Go.WideShapes Go.ChangeAt Go.RowKit

theorem cellsPair : Try.prog.cellsOf 34 = 2 := by kernel_rfl
theorem cellsPairI : Try.prog.cellsOf 3 = 1 := by kernel_rfl

theorem arrayTwo {α : Type} {cs : Array α} (h : cs.size = 2) : ∃ c0 c1, cs = #[c0, c1] := by
  obtain ⟨l⟩ := cs
  match l, h with
  | [c0, c1], _ => exact ⟨c0, c1, rfl⟩

theorem listTwo {α : Type} {cs : List α} (h : cs.length = 2) : ∃ c0 c1, cs = [c0, c1] := by
  match cs, h with
  | [c0, c1], _ => exact ⟨c0, c1, rfl⟩

theorem okWide_array {P : Program} {w : World} {r : Reach} {base : Nat} {t : TypeId} {v : Value} {n : Nat} {e : TypeId} (ht : P.underlying t = some (.array n e)) (h : Value.okWide P w r base t v) : ∃ cs, v = .agg cs ∧ cs.size = P.cellsOf t := by
  simp only [Value.okWide, ht] at h
  obtain ⟨cs, h1, h2, _⟩ := h
  exact ⟨cs, h1, h2⟩

theorem open_pairB {H : Type} {enc : TypeId × Value → H} {W : World} {base : Nat} {v : Value} {d : DataW H} {p : List MemPlace}
    (hv : Value.okWide Try.prog W .any base 34 v) (h : DataW.Trod enc Try.prog W 0 (fun _ => true) true 34 v d p) :
    ∃ (x y : Int), v = .agg #[.int .i64 x, .int .i64 y] ∧ (-9223372036854775808 ≤ x ∧ x ≤ 9223372036854775807) ∧ (-9223372036854775808 ≤ y ∧ y ≤ 9223372036854775807) := by
  obtain ⟨cs, rfl, hsz⟩ := okWide_array Try.underlying34 hv
  obtain ⟨c0, c1, rfl⟩ := arrayTwo (hsz.trans cellsPair)
  obtain ⟨fuel, hf⟩ := h
  obtain ⟨xs, k, hk, hxy, _, hxl, hfx⟩ := DataW.trod_array Try.underlying34 hf
  obtain ⟨y0, y1, rfl⟩ := listTwo hxl
  have g0 := hfx 0 (by omega)
  have g1 := hfx 1 (by omega)
  simp [cellsPairI, Value.cells] at g0 g1
  obtain ⟨q0, z0, _, b0⟩ := DataW.trod_int Try.underlying3 g0
  obtain ⟨q1, z1, _, b1⟩ := DataW.trod_int Try.underlying3 g1
  simp at z0 z1
  subst z0 z1
  exact ⟨q0, q1, rfl, int_of b0, int_of b1⟩

theorem open_pair {H : Type} {enc : TypeId × Value → H} {W : World} {base : Nat} {v : Value} {d : DataW H} {p : List MemPlace}
    (hv : Value.okWide Try.prog W .any base 34 v) (h : DataW.Trod enc Try.prog W 0 (fun _ => true) true 34 v d p) :
    ∃ (x y : Int), v = .agg #[.int .i64 x, .int .i64 y] :=
  let ⟨x, y, h, _⟩ := open_pairB hv h
  ⟨x, y, h⟩

end Go.Proofs.Ytahddfnkodmnmaa
