/-
  The walks of the document's own answers for layer 5: what is told by the list of spots.
-/
import Derived.Test.YtjicfonpldobdaaChartC
namespace Go.Proofs.Ytjicfonpldobdaa
set_option maxRecDepth 100000
open Go.RowKit Go.Sort

/-- the slice v holds all spots, n of them -/
def IsSpots (r : Bool) (t s k : Int) (W : World) (v : Value) (n : Nat) : Prop :=
  (n : Int) = Um.clen r t s k ∧ ((v = .slice none 0 0 ∧ n = 0) ∨ ∃ b cap, v = .slice (some ⟨b, 0, none⟩) n cap ∧ n ≤ cap ∧ cap ≤ maxLen ∧ b < W.heap.size ∧
    ∀ j, j < n → W.cell? ⟨b, j * 2, none⟩ = some (.int .i64 (Um.atK r t s k j)) ∧ W.cell? ⟨b, j * 2 + 1, none⟩ = some (.int .i64 (Um.atO r t s k j)))

theorem IsSpots.below {r : Bool} {t s k : Int} {n₀ n : Nat} {A B : World} {v : Value} (h : IsSpots r t s k A v n) (b : Below n₀ A B) (hn : A.heap.size ≤ n₀) : IsSpots r t s k B v n := by
  refine ⟨h.1, ?_⟩
  rcases h.2 with h | ⟨g, cap, rfl, h1, h2, h3, h4⟩
  · exact .inl h
  · exact .inr ⟨g, cap, rfl, h1, h2, Nat.lt_of_lt_of_le h3 b.size, fun j hj => ⟨(b.cell (p := ⟨g, j * 2, none⟩) (by show g < n₀; omega)).trans (h4 j hj).1, (b.cell (p := ⟨g, j * 2 + 1, none⟩) (by show g < n₀; omega)).trans (h4 j hj).2⟩⟩

theorem isSpots_of_owns {r : Bool} {t s k : Int} {W : World} {base : Nat} {e : TypeId} {v : Value} {n : Nat} (h : W.ownsRow base e 2 v n (flatN r t s k n)) (hn : (n : Int) = Um.clen r t s k) : IsSpots r t s k W v n := by
  refine ⟨hn, ?_⟩
  rcases h.2 with ⟨rfl, h0⟩ | ⟨g, cap, cur, rfl, hg, hb, h1, h2, h3, h4⟩
  · exact .inl ⟨rfl, h0⟩
  · refine .inr ⟨g, cap, rfl, h1, h2, (Array.getElem?_eq_some_iff.1 hb).1, fun j hj => ?_⟩
    have hk := flat_get r t s k n j hj
    exact ⟨(h.cellAt (j * 2) (by omega)).trans hk.1, (h.cellAt (j * 2 + 1) (by omega)).trans hk.2⟩

set_option maxHeartbeats 1000000 in
theorem rSpots_any (t s k g : Int) (q : Nat) (w : World) :
    Calls Try.prog 63 #[(.agg #[.int .i64 t, .int .i64 s, .int .i64 k, .int .i64 g, .int .u64 (q : Int)])] w fun e W' => ∃ v n, e = .returned v ∧ IsSpots (Um.rt t s k g q) t s k W' v n ∧ Below w.heap.size w W' := by
  cases h : Um.rt t s k g q
  · have hR := rRight_any t s k g q
    rw [h] at hR
    clear h
    go_enter Try.func63, Try.ntmps63
    go_wp2_with fail
    refine (hR _).mono ?_
    rintro e w1 ⟨rfl, hb1⟩
    have hB1 : Below w.heap.size w w1 := ((Below.refl w.heap.size w).alloc (Nat.le_refl _) _).trans (hb1.mono (by simp))
    clear hb1
    go_wp2
    go_ret
    exact ⟨_, 0, rfl, ⟨by simp [Um.clen], .inl ⟨rfl, rfl⟩⟩, hB1⟩
  · have hb := Um.rt_rb t s k g q h
    obtain ⟨t', rfl⟩ := Int.eq_ofNat_of_zero_le (a := t) (by omega)
    obtain ⟨s', rfl⟩ := Int.eq_ofNat_of_zero_le (a := s) (by omega)
    obtain ⟨k', rfl⟩ := Int.eq_ofNat_of_zero_le (a := k) (by omega)
    refine (rSpots_yes t' s' k' g q w h).mono ?_
    rintro e W' ⟨v, rfl, hrow, hB⟩
    exact ⟨v, _, rfl, isSpots_of_owns hrow (by simp [Um.clen]), hB⟩

set_option maxHeartbeats 1000000 in
theorem rLen_any (t s k g : Int) (q : Nat) (w : World) :
    Calls Try.prog 40 #[(.agg #[.int .i64 t, .int .i64 s, .int .i64 k, .int .i64 g, .int .u64 (q : Int)])] w fun e w' => e = .returned (.int .i64 (Um.clen (Um.rt t s k g q) t s k)) ∧ Below w.heap.size w w' := by
  have hR := rSpots_any t s k g q
  have hb := Um.clen_bd (Um.rt_rb t s k g q)
  generalize Um.rt t s k g q = r at *
  go_enter Try.func40, Try.ntmps40
  go_wp2_with fail
  refine (hR _).mono ?_
  rintro e w1 ⟨v, n, rfl, ⟨hn, hv⟩, hb1⟩
  have hB1 : Below w.heap.size w w1 := ((Below.refl w.heap.size w).alloc (Nat.le_refl _) _).trans (hb1.mono (by simp))
  have HN := hide hn
  clear hb1 hR hn hb
  rcases hv with ⟨rfl, rfl⟩ | ⟨b, cap, rfl, h1, h2, h3, h4⟩
  · go_wp2
    go_ret
    exact ⟨ret_i64 (unhide HN), hB1⟩
  · clear h4
    go_wp2
    go_ret
    exact ⟨ret_i64 (unhide HN), hB1⟩

set_option maxHeartbeats 2000000 in
theorem rCell_any (t s k g : Int) (q : Nat) (a b : Int) (w : World) :
    Calls Try.prog 66 #[(.agg #[.int .i64 t, .int .i64 s, .int .i64 k, .int .i64 g, .int .u64 (q : Int)]), .int .i64 a, .int .i64 b] w fun e w' => e = .returned (.int .i64 (Um.cellN (Um.rt t s k g q) t s k a b)) ∧ Below w.heap.size w w' := by
  have hR := rSpots_any t s k g q
  have hb := Um.rt_rb t s k g q
  generalize Um.rt t s k g q = r at *
  go_enter Try.func66, Try.ntmps66
  go_wp2_with fail
  refine (hR _).mono ?_
  rintro e w1 ⟨v, n, rfl, ⟨hn, hv⟩, hb1⟩
  have hB1 : Below w.heap.size w w1 := ((Below.refl w.heap.size w).alloc (Nat.le_refl _) _).trans (hb1.mono (by simp))
  have hnb : n ≤ 66 := by have := Um.clen_bd hb; omega
  have HN := hide hn
  have HB := hide hb
  clear hb1 hR hn hb
  rcases hv with ⟨rfl, rfl⟩ | ⟨g', cap, rfl, h1, h2, h3, h4⟩
  · go_wp2_with fail
    go_loopw [8] (fun i wr => i = .int .i64 0 ∧ wr = w1) (fun _ _ => 0)
    case atStart => exact ⟨rfl, rfl⟩
    case round =>
      obtain ⟨rfl, rfl⟩ := hrel
      go_wp2
      go_ret
      refine ⟨ret_i64 ?_, hB1⟩
      have h0 := unhide HN
      by_cases hc : 0 ≤ Um.cellN r t s k a b
      · have := (Um.cell_at (unhide HB) hc).1
        omega
      · have := (Um.cell_bd (unhide HB) a b).1
        omega
  · have H4 := hide h4
    clear h4
    go_wp2_with fail
    go_loopw [8] (fun i wr => ∃ j : Nat, j ≤ n ∧ i = .int .i64 j ∧ wr = w1 ∧ Hid (∀ i, i < j → ¬ (Um.atK r t s k i = a ∧ Um.atO r t s k i = b))) (fun i _ => n - (intOf i).toNat)
    case atStart => exact ⟨0, by omega, rfl, rfl, fun i hi => absurd hi (Nat.not_lt_zero i)⟩
    case round =>
      obtain ⟨j, hj, rfl, rfl, hmiss⟩ := hrel
      by_cases hlt : j < n
      · obtain ⟨d0, d1⟩ := (unhide H4) j hlt
        have hlti : (j : Int) < (n : Int) := by omega
        by_cases hk : Um.atK r t s k j = a
        · by_cases ho : Um.atO r t s k j = b
          · have hat := hide (Um.at_cell (unhide HB) (x := (j : Int)) (by omega) (by rw [← unhide HN]; omega))
            rw [hk, ho] at hat
            rw [hk] at d0
            rw [ho] at d1
            clear hk ho hmiss
            go_wp2
            go_ret
            exact ⟨ret_i64 (unhide hat).symm, hB1⟩
          · have hmiss' : Hid (∀ i, i < j + 1 → ¬ (Um.atK r t s k i = a ∧ Um.atO r t s k i = b)) := by
              intro i hi'
              by_cases e : i = j
              · subst e; exact fun h => ho h.2
              · exact (unhide hmiss) i (by omega)
            have hne : (Um.atO r t s k j == b) = false := by simp [ho]
            rw [hk] at d0
            clear hk ho hmiss
            generalize Um.atO r t s k j = y at *
            go_wp2
            exact ⟨⟨j + 1, by omega, by go_num, by trivial, hmiss'⟩, by simp [intOf]; omega⟩
        · have hmiss' : Hid (∀ i, i < j + 1 → ¬ (Um.atK r t s k i = a ∧ Um.atO r t s k i = b)) := by
            intro i hi'
            by_cases e : i = j
            · subst e; exact fun h => hk h.1
            · exact (unhide hmiss) i (by omega)
          have hne : (Um.atK r t s k j == a) = false := by simp [hk]
          clear hk hmiss
          generalize Um.atK r t s k j = x at *
          generalize Um.atO r t s k j = y at *
          go_wp2
          exact ⟨⟨j + 1, by omega, by go_num, by trivial, hmiss'⟩, by simp [intOf]; omega⟩
      · obtain rfl : j = n := by omega
        go_wp2
        go_ret
        refine ⟨ret_i64 ?_, hB1⟩
        by_cases hc : 0 ≤ Um.cellN r t s k a b
        · have h5 := Um.cell_at (unhide HB) hc
          obtain ⟨i, hi⟩ := Int.eq_ofNat_of_zero_le hc
          rw [hi] at h5
          exact absurd h5.2 ((unhide hmiss) i (by have := unhide HN; omega))
        · have := (Um.cell_bd (unhide HB) a b).1
          omega

end Go.Proofs.Ytjicfonpldobdaa
