/-
  The walks of the document's own answers for layer 5: what is told by the list of spots.
-/
import Derived.Test.YtafnoloamfdanaaChartC
namespace Go.Proofs.Ytafnoloamfdanaa
set_option maxRecDepth 100000
open Go.RowKit Go.Sort

/-- the slice v holds all spots, n of them -/
def IsSpots (r : Bool) (t s k : Int) (W : World) (v : Value) (n : Nat) : Prop :=
  (n : Int) = Um.clen r t s k ∧ ((v = .slice none 0 0 ∧ n = 0) ∨ ∃ b cap, v = .slice (some ⟨b, 0, none⟩) n cap ∧ n ≤ cap ∧ cap ≤ maxLen ∧ b < W.heap.size ∧
    ∀ j, j < n → W.cell? ⟨b, j * 2, none⟩ = some (.int .i64 (Um.atK r t s k j)) ∧ W.cell? ⟨b, j * 2 + 1, none⟩ = some (.int .i64 (Um.atO r t s k j)))

theorem IsSpots.below {r : Bool} {t s k : Int} {n₀ n : Nat} {A B : World} {v : Value} (h : IsSpots r t s k A v n) (b : Below n₀ A B) (hn : A.heap.size ≤ n₀) : IsSpots r t s k B v n := by
  refine ⟨h.1, ?_⟩
  rcases h.2 with h | ⟨g, cap, rfl, h1, h2, h3, h4⟩
  · exact .inl h
  · exact .inr ⟨g, cap, rfl, h1, h2, Nat.lt_of_lt_of_le h3 b.size, fun j hj => ⟨(b.cell (p := ⟨g, j * 2, none⟩) (by show g < n₀; omega)).trans (h4 j hj).1, (b.cell (p := ⟨g, j * 2 + 1, none⟩) (by show g < n₀; omega)).trans (h4 j hj).2⟩⟩

theorem isSpots_of_owns {r : Bool} {t s k : Int} {W : World} {base : Nat} {e : TypeId} {v : Value} {n : Nat} (h : W.ownsRow base e 2 v n (flatN r t s k n)) (hn : (n : Int) = Um.clen r t s k) : IsSpots r t s k W v n := by
  refine ⟨hn, ?_⟩
  rcases h.2 with ⟨rfl, h0⟩ | ⟨g, cap, cur, rfl, hg, hb, h1, h2, h3, h4⟩
  · exact .inl ⟨rfl, h0⟩
  · refine .inr ⟨g, cap, rfl, h1, h2, (Array.getElem?_eq_some_iff.1 hb).1, fun j hj => ?_⟩
    have hk := flat_get r t s k n j hj
    exact ⟨(h.cellAt (j * 2) (by omega)).trans hk.1, (h.cellAt (j * 2 + 1) (by omega)).trans hk.2⟩

set_option maxHeartbeats 1000000 in
theorem rSpots_any (t s k g : Int) (q : Nat) (w : World) :
    Calls Try.prog 30 #[(.agg #[.int .i64 t, .int .i64 s, .int .i64 k, .int .i64 g, .int .u64 (q : Int)])] w fun e W' => ∃ v n, e = .returned v ∧ IsSpots (Um.rt t s k g q) t s k W' v n ∧ Below w.heap.size w W' := by
  cases h : Um.rt t s k g q
  · have hR := rRight_any t s k g q
    rw [h] at hR
    clear h
    go_enter Try.func30, Try.ntmps30
    go_wp2_with fail
    refine (hR _).mono ?_
    rintro e w1 ⟨rfl, hb1⟩
    have hB1 : Below w.heap.size w w1 := ((Below.refl w.heap.size w).alloc (Nat.le_refl _) _).trans (hb1.mono (by simp))
    clear hb1
    go_wp2
    go_ret
    exact ⟨_, 0, rfl, ⟨by simp [Um.clen], .inl ⟨rfl, rfl⟩⟩, hB1⟩
  · have hb := Um.rt_rb t s k g q h
    obtain ⟨t', rfl⟩ := Int.eq_ofNat_of_zero_le (a := t) (by omega)
    obtain ⟨s', rfl⟩ := Int.eq_ofNat_of_zero_le (a := s) (by omega)
    obtain ⟨k', rfl⟩ := Int.eq_ofNat_of_zero_le (a := k) (by omega)
    refine (rSpots_yes t' s' k' g q w h).mono ?_
    rintro e W' ⟨v, rfl, hrow, hB⟩
    exact ⟨v, _, rfl, isSpots_of_owns hrow (by simp [Um.clen]), hB⟩

set_option maxHeartbeats 1000000 in
theorem rLen_any (t s k g : Int) (q : Nat) (w : World) :
    Calls Try.prog 15 #[(.agg #[.int .i64 t, .int .i64 s, .int .i64 k, .int .i64 g, .int .u64 (q : Int)])] w fun e w' => e = .returned (.int .i64 (Um.clen (Um.rt t s k g q) t s k)) ∧ Below w.heap.size w w' := by
  have hR := rSpots_any t s k g q
  have hb := Um.clen_bd (Um.rt_rb t s k g q)
  generalize Um.rt t s k g q = r at *
  go_enter Try.func15, Try.ntmps15
  go_wp2_with fail
  refine (hR _).mono ?_
  rintro e w1 ⟨v, n, rfl, ⟨hn, hv⟩, hb1⟩
  have hB1 : Below w.heap.size w w1 := ((Below.refl w.heap.size w).alloc (Nat.le_refl _) _).trans (hb1.mono (by simp))
  have HN := hide hn
  clear hb1 hR hn hb
  rcases hv with ⟨rfl, rfl⟩ | ⟨b, cap, rfl, h1, h2, h3, h4⟩
  · go_wp2
    go_ret
    exact ⟨ret_i64 (unhide HN), hB1⟩
  · clear h4
    go_wp2
    go_ret
    exact ⟨ret_i64 (unhide HN), hB1⟩

end Go.Proofs.Ytafnoloamfdanaa
