/-
  The walks of the document's own list of slots, and of what holds two rows of numbers against one another.
-/
import Derived.Test.YtpklhmaodhaflaaMarkC
import Derived.OwnWalk
import Derived.Lib.QuietBelow
import Derived.RegionTactic
import Derived.BigRegion
import Derived.BigQuiet
namespace Go.Proofs.Ytpklhmaodhaflaa
open Go.RowKit Go.Shelf Go.Sort

/-- the slice v holds the numbers xs -/
def IsRow (W : World) (v : Value) (xs : List Int) : Prop :=
  (v = .slice none 0 0 ∧ xs = []) ∨ ∃ b off cap, v = .slice (some ⟨b, off, none⟩) xs.length cap ∧ xs.length ≤ cap ∧ cap ≤ maxLen ∧ b < W.heap.size ∧ ∀ j, j < xs.length → W.cell? ⟨b, off + j, none⟩ = some (.int .i64 (xs[j]?.getD 0))

theorem IsRow.below {n₀ : Nat} {A B : World} {v : Value} {xs : List Int} (h : IsRow A v xs) (k : Below n₀ A B) (hn : A.heap.size ≤ n₀) : IsRow B v xs := by
  rcases h with h | ⟨b, off, cap, rfl, h1, h2, h3, h4⟩
  · exact .inl h
  · exact .inr ⟨b, off, cap, rfl, h1, h2, Nat.lt_of_lt_of_le h3 k.size, fun j hj => (k.cell (p := ⟨b, off + j, none⟩) (by show b < n₀; omega)).trans (h4 j hj)⟩

theorem isRow_of_owns {W : World} {base : Nat} {e : TypeId} {v : Value} {xs : List Int} (h : W.ownsRow base e 1 v xs.length (xs.map (Value.int .i64))) : IsRow W v xs := by
  rcases h.2 with ⟨rfl, h0⟩ | ⟨g, cap, cur, rfl, hg, hb, h1, h2, h3, h4⟩
  · exact .inl ⟨rfl, List.length_eq_zero_iff.1 h0⟩
  · refine .inr ⟨g, 0, cap, rfl, h1, h2, (Array.getElem?_eq_some_iff.1 hb).1, fun j hj => ?_⟩
    rw [Nat.mul_one] at h4
    have e1 : cur.toList[j]? = some (.int .i64 (xs[j]?.getD 0)) := by
      have : (cur.toList.take xs.length)[j]? = (xs.map (Value.int .i64))[j]? := by rw [h4]
      rw [List.getElem?_take, if_pos hj] at this
      rw [this]
      simp [hj]
    have e2 : cur[j]? = some (.int .i64 (xs[j]?.getD 0)) := by rw [← e1, Array.getElem?_toList]
    simp [World.cell?, hb, e2]

/-- behind an append to a slice of the call's own -/
theorem below_append {W w1 : World} {n₀ base : Nat} {e : TypeId} {size : Nat} {v : Value} {k : Nat} {xs : List Value} {tmp : Obj}
    (hrow : W.ownsRow base e size v k xs) (hb : n₀ ≤ base) (hbs : n₀ ≤ W.heap.size) (hgrow : (W.alloc tmp).grownBy w1 v.ownBlock) : Below n₀ W w1 := by
  refine ((Below.refl n₀ W).alloc hbs tmp).grown hgrow (by simp; omega) fun j ej => ?_
  rcases hrow.2 with ⟨rfl, _⟩ | ⟨g, cap, cur, rfl, hg, _, _⟩
  · simp [Value.ownBlock] at ej
  · obtain rfl : g = j := by simpa [Value.ownBlock] using ej
    omega

set_option maxRecDepth 100000 in
set_option maxHeartbeats 2000000 in
theorem mrOthers_any (x : Nat) (a s : Int) (w : World) (hx : Um.Word x) :
    Calls Try.prog 19 #[.int .u64 x, .int .i64 a, .int .i64 s] w fun e W' => ∃ v, e = .returned v ∧ W'.ownsRow w.heap.size 3 1 v (Um.othersN x a s).length ((Um.othersN x a s).map (Value.int .i64)) ∧ Below w.heap.size w W' := by
  obtain ⟨i0, hi, hz0, hz1, hz2⟩ := info_parts infoInt
  go_enter Try.func19, Try.ntmps19
  go_wp2
  go_loopw [7, 8] (fun u7 i wr => ∃ k : Nat, k ≤ 12 ∧ i = .int .i64 k ∧ wr.ownsRow w.heap.size 3 1 u7 (Um.othersTo x a s k).length ((Um.othersTo x a s k).map (Value.int .i64)) ∧ Below w.heap.size w wr) (fun _ i _ => 12 - (intOf i).toNat)
  case atStart => exact ⟨0, by omega, rfl, World.ownsRow_nil _ _ _ _, Below.refl _ _⟩
  case round =>
    obtain ⟨k, hk, rfl, hrow, hB⟩ := hrel
    by_cases hlt : k < 12
    · cases hh : Um.hasN x a (k : Int)
      · have hs := hide (Um.othersTo_miss (s := s) hh)
        go_wp2_with (go_at_call 13; refine (mrHas_any _ _ _ _ hx).mono ?_; rintro e w' ⟨rfl, rfl⟩)
        refine ⟨⟨k + 1, by omega, by go_num, by rw [unhide hs]; exact hrow, hB⟩, by simp [intOf]; omega⟩
      · by_cases hks : (k : Int) = s
        · have hs := hide (Um.othersTo_same (x := x) (a := a) hks)
          have hks' : ((k : Int) != s) = false := by simp [hks]
          clear hks
          go_wp2_with (go_at_call 13; refine (mrHas_any _ _ _ _ hx).mono ?_; rintro e w' ⟨rfl, rfl⟩)
          refine ⟨⟨k + 1, by omega, by go_num, by rw [unhide hs]; exact hrow, hB⟩, by simp [intOf]; omega⟩
        · have hs := hide (Um.othersTo_hit hh hks)
          have hks' : ((k : Int) != s) = true := by simp [hks]
          clear hks
          have hpl := Um.othersTo_length x a s k
          go_wp2_with (first
            | (go_at_call 13; refine (mrHas_any _ _ _ _ hx).mono ?_; rintro e w' ⟨rfl, rfl⟩)
            | (at_builtin; refine wpList_append_own _ rfl _ _ 29 rfl w.heap.size 3 i0 (.int .i64 0) 1 8 Try.underlying29 hi hz0 hz1 hz2 rfl (by decide) _ _ _ rfl (hrow.alloc _) ⟨_, 0, none⟩ 1 1 [.int .i64 k] rfl rfl (cell_one_new _ _ _) (by simp [Value.oneCell']) (by unfold maxLen; omega) (by omega) (by have := hB.size; simp; omega) ?_; intro v' w1 hown' hgrow _))
          refine ⟨⟨k + 1, by omega, by go_num, by rw [unhide hs]; simpa using hown', hB.trans (below_append hrow (Nat.le_refl _) hB.size hgrow)⟩, by simp [intOf]; omega⟩
    · obtain rfl : k = 12 := by omega
      go_wp2
      go_ret
      exact ⟨_, rfl, hrow, hB⟩

set_option maxHeartbeats 2000000 in
theorem mrSame_nil (w : World) (p q : Option Addr) (c d : Nat) :
    Calls Try.prog 17 #[.slice p 0 c, .slice q 0 d] w fun e w' => e = .returned (.bool true) ∧ Below w.heap.size w w' := by
  go_enter Try.func17, Try.ntmps17
  go_wp2
  go_loopw [5] (fun i wr => i = .int .i64 0 ∧ wr = w) (fun _ _ => 0)
  case atStart => exact ⟨rfl, rfl⟩
  case round =>
    obtain ⟨rfl, rfl⟩ := hrel
    go_wp2
    go_ret
    exact ⟨rfl, Below.refl _ _⟩

set_option maxHeartbeats 2000000 in
theorem mrSame_cells (w : World) (xs : List Int) (hl : xs.length ≤ 1000) (b off c b' off' c' : Nat) (hc : xs.length ≤ c) (hc' : xs.length ≤ c') (hb : b < w.heap.size) (hb' : b' < w.heap.size)
    (h : ∀ j, j < xs.length → w.cell? ⟨b, off + j, none⟩ = some (.int .i64 (xs[j]?.getD 0))) (h' : ∀ j, j < xs.length → w.cell? ⟨b', off' + j, none⟩ = some (.int .i64 (xs[j]?.getD 0))) :
    Calls Try.prog 17 #[.slice (some ⟨b, off, none⟩) xs.length c, .slice (some ⟨b', off', none⟩) xs.length c'] w fun e w' => e = .returned (.bool true) ∧ Below w.heap.size w w' := by
  have H := hide h
  have H' := hide h'
  clear h h'
  generalize hL : xs.length = len at *
  go_enter Try.func17, Try.ntmps17
  go_wp2
  go_loopw [5] (fun i wr => ∃ k : Nat, k ≤ len ∧ i = .int .i64 k ∧ Below w.heap.size w wr) (fun i _ => len - (intOf i).toNat)
  case atStart => exact ⟨0, by omega, rfl, Below.refl _ _⟩
  case round =>
    obtain ⟨k, hk, rfl, hB⟩ := hrel
    by_cases hlt : k < len
    · have d0 := (hB.cell (p := ⟨b, off + k, none⟩) hb).trans ((unhide H) k hlt)
      have d1 := (hB.cell (p := ⟨b', off' + k, none⟩) hb').trans ((unhide H') k hlt)
      have hkl : (k : Int) < (len : Int) := by omega
      generalize xs[k]?.getD 0 = y at *
      go_wp2_with fail
      go_region
      all_goals
        go_wp2
        refine ⟨⟨k + 1, by omega, by go_num, ?_⟩, by simp [intOf]; omega⟩
        repeat (first | exact hB | apply below_drewN | apply Below.drew)
    · obtain rfl : k = len := by omega
      go_wp2
      go_ret
      exact ⟨rfl, hB⟩

theorem mrSame_any (w : World) (xs : List Int) (hl : xs.length ≤ 1000) (va vb : Value) (ha : IsRow w va xs) (hb : IsRow w vb xs) :
    Calls Try.prog 17 #[va, vb] w fun e w' => e = .returned (.bool true) ∧ Below w.heap.size w w' := by
  rcases ha with ⟨rfl, rfl⟩ | ⟨b, off, c, rfl, h1, _, h3, h4⟩
  · rcases hb with ⟨rfl, _⟩ | ⟨b', off', c', rfl, _⟩
    · exact mrSame_nil _ _ _ _ _
    · exact mrSame_nil _ _ _ _ _
  · rcases hb with ⟨rfl, rfl⟩ | ⟨b', off', c', rfl, k1, _, k3, k4⟩
    · exact mrSame_nil _ _ _ _ _
    · exact mrSame_cells w xs hl b off c b' off' c' h1 k1 h3 k3 h4 k4

end Go.Proofs.Ytpklhmaodhaflaa
