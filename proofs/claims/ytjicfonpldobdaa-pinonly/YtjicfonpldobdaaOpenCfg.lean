/-
  A world's size that was handed in: what its reading says of its cells.
-/
import Derived.Test.YtjicfonpldobdaaWords
import Derived.WalkKit
import Derived.ProofKit
import Derived.OpenShut
import Derived.ShutString
namespace Go.Proofs.Ytjicfonpldobdaa
set_option maxRecDepth 100000
open Go.ChangeShapes Go.WideShapes Go.ChangeAt Go.RowKit

theorem cellsCfg : Try.prog.cellsOf 24 = 5 := by kernel_rfl
theorem cellsCfgI : Try.prog.cellsOf 3 = 1 := by kernel_rfl
theorem cellsCfgU : Try.prog.cellsOf 22 = 1 := by kernel_rfl

theorem array5 {α : Type} {cs : Array α} (h : cs.size = 5) : ∃ c0 c1 c2 c3 c4, cs = #[c0, c1, c2, c3, c4] := by
  obtain ⟨l⟩ := cs
  match l, h with
  | [c0, c1, c2, c3, c4], _ => exact ⟨c0, c1, c2, c3, c4, rfl⟩

theorem list5 {α : Type} {cs : List α} (h : cs.length = 5) : ∃ c0 c1 c2 c3 c4, cs = [c0, c1, c2, c3, c4] := by
  match cs, h with
  | [c0, c1, c2, c3, c4], _ => exact ⟨c0, c1, c2, c3, c4, rfl⟩

set_option maxRecDepth 100000 in
theorem open_cfg {H : Type} {enc : TypeId × Value → H} {W : World} {base : Nat} {v : Value} {d : DataW H} {p : List MemPlace}
    (hv : Value.okWide Try.prog W .any base 24 v) (h : DataW.Trod enc Try.prog W 0 (fun _ => true) true 24 v d p) :
    ∃ (t s k g : Int) (q : Nat), v = .agg #[.int .i64 t, .int .i64 s, .int .i64 k, .int .i64 g, .int .u64 q] ∧ (-9223372036854775808 ≤ t ∧ t ≤ 9223372036854775807) ∧ (-9223372036854775808 ≤ s ∧ s ≤ 9223372036854775807) ∧ (-9223372036854775808 ≤ k ∧ k ≤ 9223372036854775807) := by
  obtain ⟨cs, rfl, hsz⟩ := okWide_struct Try.underlying24 hv
  obtain ⟨c0, c1, c2, c3, c4, rfl⟩ := array5 (hsz.trans cellsCfg)
  obtain ⟨fuel, hf⟩ := h
  obtain ⟨xs, n, _, _, hl, hlen, hx⟩ := DataW.trod_struct Try.underlying24 hf
  obtain ⟨y0, y1, y2, y3, y4, rfl⟩ := list5 hlen
  obtain ⟨t, e0, _, k0⟩ := DataW.trod_int Try.underlying3 (hx 0 _ rfl)
  obtain ⟨s, e1, _, k1⟩ := DataW.trod_int Try.underlying3 (hx 1 _ rfl)
  obtain ⟨k, e2, _, k2⟩ := DataW.trod_int Try.underlying3 (hx 2 _ rfl)
  obtain ⟨g, e3, _, _⟩ := DataW.trod_int Try.underlying3 (hx 3 _ rfl)
  obtain ⟨q, e4, _, k4⟩ := DataW.trod_int Try.underlying22 (hx 4 _ rfl)
  obtain ⟨q', rfl, _⟩ := word_of k4
  simp [Value.cells, cellsCfgI, cellsCfgU] at e0 e1 e2 e3 e4
  subst e0 e1 e2 e3 e4
  exact ⟨t, s, k, g, q', rfl, int_of k0, int_of k1, int_of k2⟩

end Go.Proofs.Ytjicfonpldobdaa
