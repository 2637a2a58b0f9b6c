/-
  The walks of the document's own answers for layer 5.
-/
import Derived.Test.YtjicfonpldobdaaChartA
import Derived.Test.YtjicfonpldobdaaOwn
import Derived.LoopTactic
namespace Go.Proofs.Ytjicfonpldobdaa
set_option maxRecDepth 100000
open Go.RowKit Go.Sort

set_option maxHeartbeats 2000000 in
theorem rRight_any (t s k g : Int) (q : Nat) (w : World) :
    Calls Try.prog 39 #[(.agg #[.int .i64 t, .int .i64 s, .int .i64 k, .int .i64 g, .int .u64 (q : Int)])] w fun e w' => e = .returned (.bool (Um.rt t s k g q)) ∧ Below w.heap.size w w' := by
  go_enter Try.func39, Try.ntmps39
  go_wp2
  all_goals go_ret
  all_goals refine ⟨ret_bool ?_, (Below.refl _ _).alloc (Nat.le_refl _) _⟩
  all_goals unfold Um.rt
  all_goals rw [Bool.eq_iff_iff]
  all_goals simp
  all_goals omega

/-- the cells of all spots up to one -/
def flatN (r : Bool) (t s k : Int) : Nat → List Value
  | 0 => []
  | n + 1 => flatN r t s k n ++ [.int .i64 (Um.atK r t s k n), .int .i64 (Um.atO r t s k n)]

theorem flat_len (r : Bool) (t s k : Int) (n : Nat) : (flatN r t s k n).length = n * 2 := by
  induction n with
  | zero => rfl
  | succ n ih => simp [flatN, ih]; omega

theorem flat_get (r : Bool) (t s k : Int) (n j : Nat) (h : j < n) : (flatN r t s k n)[j * 2]? = some (.int .i64 (Um.atK r t s k j)) ∧ (flatN r t s k n)[j * 2 + 1]? = some (.int .i64 (Um.atO r t s k j)) := by
  induction n with
  | zero => omega
  | succ n ih =>
    by_cases e : j = n
    · subst e
      constructor
      · rw [flatN, List.getElem?_append_right (by rw [flat_len]; omega), flat_len, show j * 2 - j * 2 = 0 by omega]
        rfl
      · rw [flatN, List.getElem?_append_right (by rw [flat_len]; omega), flat_len, show j * 2 + 1 - j * 2 = 1 by omega]
        rfl
    · obtain ⟨h1, h2⟩ := ih (by omega)
      constructor
      · rw [flatN, List.getElem?_append_left (by rw [flat_len]; omega), h1]
      · rw [flatN, List.getElem?_append_left (by rw [flat_len]; omega), h2]

theorem flat_two (t s k : Nat) (ht : 1 ≤ t) : flatN true t s k 2 = [.int .i64 1, .int .i64 0, .int .i64 2, .int .i64 0] := by
  have h : (1 : Int) ≤ t := by omega
  simp [flatN, Um.atK, Um.atO]

theorem flat_pin (t s k j : Nat) (h : j < t) : flatN true t s k (2 + j) ++ [.int .i64 3, .int .i64 j] = flatN true t s k (2 + j + 1) := by
  rw [flatN]
  congr 3
  · simp only [Um.atK, true_and]; (repeat' split) <;> omega
  · congr 2
    simp only [Um.atO, true_and]; (repeat' split) <;> omega

theorem flat_slot (t s k j : Nat) (h : j < s) : flatN true t s k (2 + t + 4 * j) ++ [.int .i64 4, .int .i64 j, .int .i64 5, .int .i64 j, .int .i64 6, .int .i64 j, .int .i64 7, .int .i64 j] = flatN true t s k (2 + t + 4 * j + 4) := by
  have e0 : Um.atK true t s k ((2 + t + 4 * j : Nat) : Int) = 4 ∧ Um.atO true t s k ((2 + t + 4 * j : Nat) : Int) = j := by simp only [Um.atK, Um.atO, true_and]; (repeat' split) <;> omega
  have e1 : Um.atK true t s k ((2 + t + 4 * j + 1 : Nat) : Int) = 5 ∧ Um.atO true t s k ((2 + t + 4 * j + 1 : Nat) : Int) = j := by simp only [Um.atK, Um.atO, true_and]; (repeat' split) <;> omega
  have e2 : Um.atK true t s k ((2 + t + 4 * j + 2 : Nat) : Int) = 6 ∧ Um.atO true t s k ((2 + t + 4 * j + 2 : Nat) : Int) = j := by simp only [Um.atK, Um.atO, true_and]; (repeat' split) <;> omega
  have e3 : Um.atK true t s k ((2 + t + 4 * j + 3 : Nat) : Int) = 7 ∧ Um.atO true t s k ((2 + t + 4 * j + 3 : Nat) : Int) = j := by simp only [Um.atK, Um.atO, true_and]; (repeat' split) <;> omega
  rw [flatN, flatN, flatN, flatN, e0.1, e0.2, e1.1, e1.2, e2.1, e2.2, e3.1, e3.2]
  simp

theorem flat_key (t s k j : Nat) (h : j < k) : flatN true t s k (2 + t + 4 * s + j) ++ [.int .i64 8, .int .i64 j] = flatN true t s k (2 + t + 4 * s + j + 1) := by
  have e0 : Um.atK true t s k ((2 + t + 4 * s + j : Nat) : Int) = 8 ∧ Um.atO true t s k ((2 + t + 4 * s + j : Nat) : Int) = j := by simp only [Um.atK, Um.atO, true_and]; (repeat' split) <;> omega
  rw [flatN, e0.1, e0.2]

theorem infoSpot : (Try.prog.info? 29).map (fun i => (i.zero, i.size, i.bytes)) = some (some (.agg #[.int .i64 0, .int .i64 0]), 2, 16) := by kernel_rfl

set_option maxRecDepth 100000 in
set_option maxHeartbeats 4000000 in
theorem rSpots_yes (t s k : Nat) (g : Int) (q : Nat) (w : World) (h : Um.rt t s k g q = true) :
    Calls Try.prog 63 #[(.agg #[.int .i64 (t : Int), .int .i64 (s : Int), .int .i64 (k : Int), .int .i64 g, .int .u64 (q : Int)])] w fun e W' => ∃ v, e = .returned v ∧ W'.ownsRow w.heap.size 29 2 v (2 + t + 4 * s + k) (flatN true t s k (2 + t + 4 * s + k)) ∧ Below w.heap.size w W' := by
  obtain ⟨i0, hi, hz0, hz1, hz2⟩ := info_parts infoSpot
  have hb := Um.rt_rb t s k g q h
  have hR := rRight_any t s k g q
  rw [h] at hR
  clear h
  go_enter Try.func63, Try.ntmps63
  go_wp2_with fail
  refine (hR _).mono ?_
  rintro e w1 ⟨rfl, hb1⟩
  obtain ⟨hc1, hf1⟩ := bcell hb1
  have hB1 : Below w.heap.size w w1 := ((Below.refl w.heap.size w).alloc (Nat.le_refl _) _).trans (hb1.mono (by simp))
  have hs1 : w.heap.size < w1.heap.size := by have := hb1.size; simp at this; omega
  have c0 : w1.cell? ⟨w.heap.size, 0, none⟩ = some (.int .i64 t) := by go_simp
  have c1 : w1.cell? ⟨w.heap.size, 1, none⟩ = some (.int .i64 s) := by go_simp
  have c2 : w1.cell? ⟨w.heap.size, 2, none⟩ = some (.int .i64 k) := by go_simp
  clear hb1 hR hc1 hf1
  have hb' : 1 ≤ t ∧ t ≤ 8 ∧ 1 ≤ s ∧ s ≤ 12 ∧ 1 ≤ k ∧ k ≤ 8 := by omega
  clear hb
  obtain ⟨ht1, ht2, hs2, hs3, hk1, hk2⟩ := hb'
  go_wp2_with fail
  go_loopw [3, 4] (fun u i wr => ∃ j : Nat, j ≤ t ∧ i = .int .i64 j ∧ wr.ownsRow (w.heap.size + 1) 29 2 u (2 + j) (flatN true t s k (2 + j)) ∧ Below w.heap.size w wr ∧ w.heap.size < wr.heap.size ∧
    wr.cell? ⟨w.heap.size, 0, none⟩ = some (.int .i64 t) ∧ wr.cell? ⟨w.heap.size, 1, none⟩ = some (.int .i64 s) ∧ wr.cell? ⟨w.heap.size, 2, none⟩ = some (.int .i64 k)) (fun _ i _ => t - (intOf i).toNat)
  case atStart =>
    refine ⟨0, by omega, rfl, ?_, hB1.alloc (by omega) _, by simp; omega, by go_simp, by go_simp, by go_simp⟩
    rw [flat_two t s k ht1]
    exact World.ownsRow_lit w1 #[.int .i64 1, .int .i64 0, .int .i64 2, .int .i64 0] 2 (by omega) (by unfold maxLen; omega) rfl
  case round =>
    clear hB1 hs1 c0 c1 c2
    rename_i wr
    obtain ⟨j, hj, rfl, hrow, hB, hsz, c0, c1, c2⟩ := hrel
    by_cases hlt : j < t
    · have hfl := hide (flat_pin t s k j hlt)
      go_wp2_with (at_builtin; refine wpList_append_own _ rfl _ _ 114 rfl (w.heap.size + 1) 29 i0 (.agg #[.int .i64 0, .int .i64 0]) 2 16 Try.underlying114 hi hz0 hz1 hz2 rfl (by decide) _ _ _ rfl (hrow.alloc _) ⟨_, 0, none⟩ 1 1 [.int .i64 3, .int .i64 j] rfl rfl (World.news_of_block (heap_alloc_new _ _)) (by simp [Value.oneCell']) (by unfold maxLen; omega) (by omega) (by simp; omega) ?_; intro v' w2 hown' hgrow _)
      have hK := own_append hrow (Nat.le_refl _) (by omega) hgrow
      refine ⟨⟨j + 1, by omega, by go_num, by rw [unhide hfl] at hown'; exact hown', hB.trans (hK.mono (by omega)), Nat.lt_of_lt_of_le hsz hK.size, (hK.cell (p := ⟨w.heap.size, 0, none⟩) (Nat.lt_succ_self _)).trans c0, (hK.cell (p := ⟨w.heap.size, 1, none⟩) (Nat.lt_succ_self _)).trans c1, (hK.cell (p := ⟨w.heap.size, 2, none⟩) (Nat.lt_succ_self _)).trans c2⟩, by simp [intOf]; omega⟩
    · obtain rfl : j = t := by omega
      go_wp2_with fail
      go_loopw [3, 5] (fun u i wr => ∃ j' : Nat, j' ≤ s ∧ i = .int .i64 j' ∧ wr.ownsRow (w.heap.size + 1) 29 2 u (2 + j + 4 * j') (flatN true j s k (2 + j + 4 * j')) ∧ Below w.heap.size w wr ∧ w.heap.size < wr.heap.size ∧
        wr.cell? ⟨w.heap.size, 0, none⟩ = some (.int .i64 j) ∧ wr.cell? ⟨w.heap.size, 1, none⟩ = some (.int .i64 s) ∧ wr.cell? ⟨w.heap.size, 2, none⟩ = some (.int .i64 k)) (fun _ i _ => s - (intOf i).toNat)
      case atStart => exact ⟨0, by omega, rfl, hrow, hB, hsz, c0, c1, c2⟩
      case round =>
        clear hB hsz c0 c1 c2 hrow
        rename_i wr2
        obtain ⟨j', hj', rfl, hrow, hB, hsz, c0, c1, c2⟩ := hrel
        by_cases hlt' : j' < s
        · have hfl := hide (flat_slot j s k j' hlt')
          go_wp2_with (at_builtin; refine wpList_append_own _ rfl _ _ 114 rfl (w.heap.size + 1) 29 i0 (.agg #[.int .i64 0, .int .i64 0]) 2 16 Try.underlying114 hi hz0 hz1 hz2 rfl (by decide) _ _ _ rfl (hrow.alloc _) ⟨_, 0, none⟩ 4 4 [.int .i64 4, .int .i64 j', .int .i64 5, .int .i64 j', .int .i64 6, .int .i64 j', .int .i64 7, .int .i64 j'] rfl rfl (World.news_of_block (heap_alloc_new _ _)) (by simp [Value.oneCell']) (by unfold maxLen; omega) (by omega) (by simp; omega) ?_; intro v' w2 hown' hgrow _)
          have hK := own_append hrow (Nat.le_refl _) (by omega) hgrow
          refine ⟨⟨j' + 1, by omega, by go_num, by rw [unhide hfl] at hown'; exact hown', hB.trans (hK.mono (by omega)), Nat.lt_of_lt_of_le hsz hK.size, (hK.cell (p := ⟨w.heap.size, 0, none⟩) (Nat.lt_succ_self _)).trans c0, (hK.cell (p := ⟨w.heap.size, 1, none⟩) (Nat.lt_succ_self _)).trans c1, (hK.cell (p := ⟨w.heap.size, 2, none⟩) (Nat.lt_succ_self _)).trans c2⟩, by simp [intOf]; omega⟩
        · obtain rfl : j' = s := by omega
          go_wp2_with fail
          go_loopw [3, 6] (fun u i wr => ∃ i' : Nat, i' ≤ k ∧ i = .int .i64 i' ∧ wr.ownsRow (w.heap.size + 1) 29 2 u (2 + j + 4 * j' + i') (flatN true j j' k (2 + j + 4 * j' + i')) ∧ Below w.heap.size w wr ∧ w.heap.size < wr.heap.size ∧
            wr.cell? ⟨w.heap.size, 0, none⟩ = some (.int .i64 j) ∧ wr.cell? ⟨w.heap.size, 1, none⟩ = some (.int .i64 j') ∧ wr.cell? ⟨w.heap.size, 2, none⟩ = some (.int .i64 k)) (fun _ i _ => k - (intOf i).toNat)
          case atStart => exact ⟨0, by omega, rfl, hrow, hB, hsz, c0, c1, c2⟩
          case round =>
            clear hB hsz c0 c1 c2 hrow
            rename_i wr3
            obtain ⟨i', hi', rfl, hrow, hB, hsz, c0, c1, c2⟩ := hrel
            by_cases hlt'' : i' < k
            · have hfl := hide (flat_key j j' k i' hlt'')
              go_wp2_with (at_builtin; refine wpList_append_own _ rfl _ _ 114 rfl (w.heap.size + 1) 29 i0 (.agg #[.int .i64 0, .int .i64 0]) 2 16 Try.underlying114 hi hz0 hz1 hz2 rfl (by decide) _ _ _ rfl (hrow.alloc _) ⟨_, 0, none⟩ 1 1 [.int .i64 8, .int .i64 i'] rfl rfl (World.news_of_block (heap_alloc_new _ _)) (by simp [Value.oneCell']) (by unfold maxLen; omega) (by omega) (by simp; omega) ?_; intro v' w2 hown' hgrow _)
              have hK := own_append hrow (Nat.le_refl _) (by omega) hgrow
              refine ⟨⟨i' + 1, by omega, by go_num, by rw [unhide hfl] at hown'; exact hown', hB.trans (hK.mono (by omega)), Nat.lt_of_lt_of_le hsz hK.size, (hK.cell (p := ⟨w.heap.size, 0, none⟩) (Nat.lt_succ_self _)).trans c0, (hK.cell (p := ⟨w.heap.size, 1, none⟩) (Nat.lt_succ_self _)).trans c1, (hK.cell (p := ⟨w.heap.size, 2, none⟩) (Nat.lt_succ_self _)).trans c2⟩, by simp [intOf]; omega⟩
            · obtain rfl : i' = k := by omega
              go_wp2
              go_ret
              exact ⟨_, rfl, own_base hrow (by omega), hB⟩

end Go.Proofs.Ytjicfonpldobdaa
