/-
  Accesses that were handed in: what their reading says of their cells.
-/
import Derived.Test.YtjicfonpldobdaaOpenWords
import Derived.WalkKit
import Derived.ProofKit
import Derived.OpenShut
import Derived.ShutString
import Derived.Deep.Slices
namespace Go.Proofs.Ytjicfonpldobdaa
set_option maxRecDepth 100000
open Go.ChangeShapes Go.WideShapes Go.ChangeAt Go.RowKit

set_option maxRecDepth 100000 in
theorem open_ops {H : Type} {enc : TypeId × Value → H} {W : World} {base : Nat} {v : Value} {d : DataW H} {p : List MemPlace}
    (hv : Value.okWide Try.prog W .any base 26 v) (h : DataW.Trod enc Try.prog W 0 (fun _ => true) true 26 v d p) :
    (∃ a cap, v = .slice a 0 cap) ∨ ∃ (b off len cap : Nat) (Z : Nat → (Int × Int × Int) × (Nat × Nat)), v = .slice (some ⟨b, off, none⟩) len cap ∧ 0 < len ∧ len ≤ cap ∧ cap ≤ maxLen ∧ b < W.heap.size ∧
      ∀ i, i < len → (W.cell? ⟨b, off + i * 5, none⟩ = some (.int .i64 (Z i).1.1) ∧ W.cell? ⟨b, off + (i * 5 + 1), none⟩ = some (.int .i64 (Z i).1.2.1) ∧ W.cell? ⟨b, off + (i * 5 + 2), none⟩ = some (.int .i64 (Z i).1.2.2) ∧ W.cell? ⟨b, off + (i * 5 + 3), none⟩ = some (.int .u64 ((Z i).2.1 : Nat)) ∧ W.cell? ⟨b, off + (i * 5 + 4), none⟩ = some (.int .u64 ((Z i).2.2 : Nat))) ∧
        (-9223372036854775808 ≤ (Z i).1.2.2 ∧ (Z i).1.2.2 ≤ 9223372036854775807) ∧ Um.Word (Z i).2.1 ∧ Um.Word (Z i).2.2 := by
  obtain ⟨a0, len0, cap0, rfl⟩ := okWide_slice Try.underlying26 hv
  obtain ⟨fuel, hf⟩ := h
  rcases Deep.open_slice Try.underlying26 hf with ⟨hcs, _⟩ | ⟨a, len, cap, m, n, D, Pl, hcs, _, hl, hm, hmm, _, hx⟩
  · simp [Value.cells] at hcs
    obtain ⟨rfl, rfl, rfl⟩ := hcs
    exact Or.inl ⟨_, _, rfl⟩
  · simp [Value.cells] at hcs
    obtain ⟨rfl, rfl, rfl⟩ := hcs
    by_cases h0 : len0 = 0
    · subst h0
      exact Or.inl ⟨_, _, rfl⟩
    right
    have hmc : m = cap0 := by rw [hmm]; rfl
    subst hmc
    have each : ∀ i, i < len0 → ∃ q : (Int × Int × Int) × (Nat × Nat), (W.cell? (a.add (i * 5)) = some (.int .i64 q.1.1) ∧ W.cell? (a.add (i * 5 + 1)) = some (.int .i64 q.1.2.1) ∧ W.cell? (a.add (i * 5 + 2)) = some (.int .i64 q.1.2.2) ∧ W.cell? (a.add (i * 5 + 3)) = some (.int .u64 (q.2.1 : Nat)) ∧ W.cell? (a.add (i * 5 + 4)) = some (.int .u64 (q.2.2 : Nat))) ∧
        (-9223372036854775808 ≤ q.1.2.2 ∧ q.1.2.2 ≤ 9223372036854775807) ∧ Um.Word q.2.1 ∧ Um.Word q.2.2 := by
      intro i hi
      obtain ⟨cs', h1, h2⟩ := hx i (by omega)
      rw [cellsOp] at h1
      obtain ⟨_, hlen, hcell⟩ := World.cells?_some h1
      obtain ⟨v0, v1, v2, v3, v4, rfl⟩ := lst5 hlen
      obtain ⟨xs, n, _, _, hl, hxl, hfx⟩ := DataW.trod_struct Try.underlying38 h2
      obtain ⟨y0, y1, y2, y3, y4, rfl⟩ := lst5 hxl
      obtain ⟨q0, e0, _, _⟩ := DataW.trod_int Try.underlying3 (hfx 0 _ rfl)
      obtain ⟨q1, e1, _, _⟩ := DataW.trod_int Try.underlying3 (hfx 1 _ rfl)
      obtain ⟨q2, e2, _, k2⟩ := DataW.trod_int Try.underlying3 (hfx 2 _ rfl)
      obtain ⟨q3, e3, _, k3⟩ := DataW.trod_int Try.underlying22 (hfx 3 _ rfl)
      obtain ⟨q4, e4, _, k4⟩ := DataW.trod_int Try.underlying22 (hfx 4 _ rfl)
      obtain ⟨o', rfl, w3⟩ := word_of k3
      obtain ⟨x', rfl, w4⟩ := word_of k4
      simp [cellsWI, cellsWU] at e0 e1 e2 e3 e4
      subst e0 e1 e2 e3 e4
      have c0 := hcell 0 (by omega)
      have c1 := hcell 1 (by omega)
      have c2 := hcell 2 (by omega)
      have c3 := hcell 3 (by omega)
      have c4 := hcell 4 (by omega)
      rw [Deep.add_add] at c0 c1 c2 c3 c4
      exact ⟨((q0, q1, q2), (o', x')), ⟨by simpa using c0, by simpa using c1, by simpa using c2, by simpa using c3, by simpa using c4⟩, int_of k2, w3, w4⟩
    obtain ⟨q, hq⟩ := Deep.choose_lt each
    obtain ⟨b, off, spot⟩ := a
    have hspot : spot = none := by simpa [Addr.add] using World.cell?_spot (hq 0 (by omega)).1.1
    subst hspot
    refine ⟨b, off, len0, m, q, rfl, by omega, hl, hm, ?_, fun i hi => ?_⟩
    · have := (hq 0 (by omega)).1.1
      rw [Go.WideShapes.add_plain] at this
      exact World.block_lt_of_cell? W _ this
    · have := hq i hi
      simp only [Go.WideShapes.add_plain] at this
      exact this

end Go.Proofs.Ytjicfonpldobdaa
