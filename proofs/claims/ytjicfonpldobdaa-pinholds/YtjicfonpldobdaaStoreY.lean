/-
  Small facts for the walks of the document's own accesses.
-/
import Derived.Test.YtjicfonpldobdaaStoreW
namespace Go.Proofs.Ytjicfonpldobdaa
set_option maxRecDepth 100000
open Go.RowKit Go.Sort

theorem egSp (args : Array Value) (w : World) : (callFunc 48 args).run Try.prog w = .ok (.enter 48 args) w := by go_simp
theorem egTo (args : Array Value) (w : World) : (callFunc 47 args).run Try.prog w = .ok (.enter 47 args) w := by go_simp

set_option maxHeartbeats 400000 in
theorem rSpot_any (a b : Int) (w : World) : Calls Try.prog 48 #[.int .i64 a, .int .i64 b] w fun e w' => e = .returned (.agg #[.int .i64 a, .int .i64 b]) ∧ Below w.heap.size w w' := by
  go_enter Try.func48, Try.ntmps48
  go_wp2
  exact bodyPost_ret (v := (.agg #[.int .i64 a, .int .i64 b])) (by simp [results, Try.results48, go_sem]) rfl ⟨rfl, (Below.refl _ _).alloc (Nat.le_refl _) _⟩

/-- words of an elder slice: what they are behind one call they are behind another that turns nothing elder -/
theorem words_back {w w4 wf : World} {v : Value} {n : Nat} {xs ys : Nat → Nat} (h0 : IsWords w v n xs) (h4 : IsWords w4 v n ys) (b4 : Below w.heap.size w w4) (bf : Below w.heap.size w wf) : IsWords wf v n ys := by
  rcases h4 with h | ⟨g, off, cap, rfl, k0, k1, k2, k3, k4⟩
  · exact .inl h
  · have hg : g < w.heap.size := by
      rcases h0 with ⟨_, _, _, e⟩ | ⟨g', off', cap', e, _, _, _, e3, _⟩
      · omega
      · cases e; exact e3
    exact .inr ⟨g, off, cap, rfl, k0, k1, k2, Nat.lt_of_lt_of_le hg bf.size, fun j hj => ⟨((bf.cell (p := ⟨g, off + j, none⟩) hg).trans (b4.cell (p := ⟨g, off + j, none⟩) hg).symm).trans (k4 j hj).1, (k4 j hj).2⟩⟩

end Go.Proofs.Ytjicfonpldobdaa
