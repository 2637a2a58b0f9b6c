/-
  The walk of the document's own new memory.
-/
import Derived.Test.YtafnoloamfdanaaStoreR
namespace Go.Proofs.Ytafnoloamfdanaa
set_option maxRecDepth 100000
open Go.RowKit Go.Sort

theorem zero_wordsR (w : World) (m : Nat) (hp : 0 < m) (hn : m ≤ 1000) : IsWords (w.alloc (.cells (rowW (fun _ => 0) m).toArray 22)) (.slice (some ⟨w.heap.size, 0, none⟩) m m) m (fun _ => 0) :=
  (LowWords.of_row hp hn (heap_alloc_new w _) (fun _ _ => by unfold Um.Word; omega)).is (by simp)

set_option maxHeartbeats 1000000 in
theorem rNew_right (c : Um.Cf) (w : World) (h : c.r = true) :
    Calls Try.prog 14 #[(.agg #[.int .i64 (c.t), .int .i64 (c.s), .int .i64 (c.k), .int .i64 (c.g), .int .u64 (c.q : Int)])] w fun e W' => ∃ v', e = .returned (.agg #[.int .i64 (c.t), .int .i64 (c.s), .int .i64 (c.k), .int .i64 (c.g), .int .u64 (c.q : Int), v', .int .i64 0, .int .i64 0, .int .i64 0, .int .i64 0, .int .u64 0, .int .u64 0, .bool false]) ∧ IsWords W' v' c.n (fun _ => 0) ∧ Fresh w v' ∧ Below w.heap.size w W' := by
  have hL := rLen_any c.t c.s c.k c.g c.q
  rw [Cf_len] at hL
  have hp := Um.Cf.n_pos h
  have hn := c.n_le
  have hk := run_makeW c.n (by omega)
  clear h
  generalize c.n = m at *
  go_enter Try.func14, Try.ntmps14
  go_wp2_with fail
  generalize hW : (w.alloc (.cells #[.int .i64 c.t, .int .i64 c.s, .int .i64 c.k, .int .i64 c.g, .int .u64 c.q] 24)).alloc (.cells #[.int .i64 0, .int .i64 0, .int .i64 0, .int .i64 0, .int .u64 0, .slice none 0 0, .int .i64 0, .int .i64 0, .int .i64 0, .int .i64 0, .int .u64 0, .int .u64 0, .bool false] 40) = W
  obtain ⟨K, Z, hB⟩ : CfAt W w.heap.size c ∧ BlkAt W (w.heap.size + 1) [.int .i64 0, .int .i64 0, .int .i64 0, .int .i64 0, .int .u64 0, .slice none 0 0, .int .i64 0, .int .i64 0, .int .i64 0, .int .i64 0, .int .u64 0, .int .u64 0, .bool false] ∧ Below w.heap.size w W := by
    subst hW
    obtain ⟨_, h2⟩ := alloc2_at w (.cells #[.int .i64 c.t, .int .i64 c.s, .int .i64 c.k, .int .i64 c.g, .int .u64 c.q] 24) (.cells #[.int .i64 0, .int .i64 0, .int .i64 0, .int .i64 0, .int .u64 0, .slice none 0 0, .int .i64 0, .int .i64 0, .int .i64 0, .int .i64 0, .int .u64 0, .int .u64 0, .bool false] 40)
    exact ⟨(cfAt_alloc w c 24).below ((Below.refl _ _).alloc (Nat.le_refl _) _), blkAt_new h2, ((Below.refl _ _).alloc (Nat.le_refl _) _).alloc (by simp) _⟩
  clear hW
  obtain ⟨hkk, a0, a1, a2, a3, a4⟩ := id K
  have hR1 : w.heap.size ≤ w.heap.size + 1 := by omega
  generalize w.heap.size + 1 = R at *
  go_region_with (go_at_call 15; refine (hL _).mono ?_; rintro e w3 ⟨rfl, hb3⟩; have hb' := below_undrew hb3; clear hb3; obtain ⟨_, b0, b1, b2, b3, b4⟩ := K.below hb'; have Z2 := Z.below hb'; have zlt := Z2.lt; have z0 := Z2.cell 0 _ rfl; have y0 := Z2.fz 0 ; have z1 := Z2.cell 1 _ rfl; have y1 := Z2.fz 1 ; have z2 := Z2.cell 2 _ rfl; have y2 := Z2.fz 2 ; have z3 := Z2.cell 3 _ rfl; have y3 := Z2.fz 3 ; have z4 := Z2.cell 4 _ rfl; have y4 := Z2.fz 4 ; have z5 := Z2.cell 5 _ rfl; have y5 := Z2.fz 5 ; have z6 := Z2.cell 6 _ rfl; have y6 := Z2.fz 6 ; have z7 := Z2.cell 7 _ rfl; have y7 := Z2.fz 7 ; have z8 := Z2.cell 8 _ rfl; have y8 := Z2.fz 8 ; have z9 := Z2.cell 9 _ rfl; have y9 := Z2.fz 9 ; have z10 := Z2.cell 10 _ rfl; have y10 := Z2.fz 10 ; have z11 := Z2.cell 11 _ rfl; have y11 := Z2.fz 11 ; have z12 := Z2.cell 12 _ rfl; have y12 := Z2.fz 12)
  all_goals
    have hB3 := hB.trans (hb'.mono (Nat.le_of_lt hkk))
    have hZ := (((((((((((((Z2.put 0 (.int .i64 c.t)).put 1 (.int .i64 c.s)).put 2 (.int .i64 c.k)).put 3 (.int .i64 c.g)).put 4 (.int .u64 c.q)).put 5 (.slice (some ⟨w3.heap.size, 0, none⟩) m m)).put 6 (.int .i64 0)).put 7 (.int .i64 0)).put 8 (.int .i64 0)).put 9 (.int .i64 0)).put 10 (.int .u64 0)).put 11 (.int .u64 0)).put 12 (.bool false))
    have hO := ((((((((((((((Off.refl R R w3).set (p := ⟨R, 0, none⟩) (.inl rfl) (.int .i64 c.t)).set (p := ⟨R, 1, none⟩) (.inl rfl) (.int .i64 c.s)).set (p := ⟨R, 2, none⟩) (.inl rfl) (.int .i64 c.k)).set (p := ⟨R, 3, none⟩) (.inl rfl) (.int .i64 c.g)).set (p := ⟨R, 4, none⟩) (.inl rfl) (.int .u64 c.q)).set (p := ⟨R, 5, none⟩) (.inl rfl) (.slice (some ⟨w3.heap.size, 0, none⟩) m m)).set (p := ⟨R, 6, none⟩) (.inl rfl) (.int .i64 0)).set (p := ⟨R, 7, none⟩) (.inl rfl) (.int .i64 0)).set (p := ⟨R, 8, none⟩) (.inl rfl) (.int .i64 0)).set (p := ⟨R, 9, none⟩) (.inl rfl) (.int .i64 0)).set (p := ⟨R, 10, none⟩) (.inl rfl) (.int .u64 0)).set (p := ⟨R, 11, none⟩) (.inl rfl) (.int .u64 0)).set (p := ⟨R, 12, none⟩) (.inl rfl) (.bool false))
    have hX : (((((((((((((w3.setCell ⟨R, 0, none⟩ (.int .i64 c.t)).setCell ⟨R, 1, none⟩ (.int .i64 c.s)).setCell ⟨R, 2, none⟩ (.int .i64 c.k)).setCell ⟨R, 3, none⟩ (.int .i64 c.g)).setCell ⟨R, 4, none⟩ (.int .u64 c.q)).setCell ⟨R, 5, none⟩ (.slice (some ⟨w3.heap.size, 0, none⟩) m m)).setCell ⟨R, 6, none⟩ (.int .i64 0)).setCell ⟨R, 7, none⟩ (.int .i64 0)).setCell ⟨R, 8, none⟩ (.int .i64 0)).setCell ⟨R, 9, none⟩ (.int .i64 0)).setCell ⟨R, 10, none⟩ (.int .u64 0)).setCell ⟨R, 11, none⟩ (.int .u64 0)).setCell ⟨R, 12, none⟩ (.bool false)).heap.size = w3.heap.size := by simp only [size_set]
    have HZ := hide hZ
    have HO := hide hO
    have HX := hide hX
    have hRl := Z2.lt
    clear hZ hO hX z0 y0 z1 y1 z2 y2 z3 y3 z4 y4 z5 y5 z6 y6 z7 y7 z8 y8 z9 y9 z10 y10 z11 y11 z12 y12 a0 a1 a2 a3 a4 b0 b1 b2 b3 b4 Z Z2 K hk hL
    go_wp2
    have hZ := unhide HZ
    have hO := unhide HO
    have hX := unhide HX
    simp only [List.set] at hZ
    generalize World.setCell _ _ _ = X at hZ hO hX ⊢
    have hW := zero_wordsR X m (by omega) (by omega)
    rw [hX] at hW
    have hZ2 := hZ.below ((Below.refl X.heap.size X).alloc (Nat.le_refl _) (.cells (rowW (fun _ => 0) m).toArray 22))
    have hO2 := hO.alloc (.cells (rowW (fun _ => 0) m).toArray 22)
    generalize X.alloc _ = Wf at hW hZ2 hO2 ⊢
    refine bodyPost_ret (v := (.agg #[.int .i64 (c.t), .int .i64 (c.s), .int .i64 (c.k), .int .i64 (c.g), .int .u64 (c.q : Int), .slice (some ⟨w3.heap.size, 0, none⟩) m m, .int .i64 0, .int .i64 0, .int .i64 0, .int .i64 0, .int .u64 0, .int .u64 0, .bool false])) (by simp [results, Try.results14, go_sem, hZ2.cell 0 _ rfl, hZ2.cell 1 _ rfl, hZ2.cell 2 _ rfl, hZ2.cell 3 _ rfl, hZ2.cell 4 _ rfl, hZ2.cell 5 _ rfl, hZ2.cell 6 _ rfl, hZ2.cell 7 _ rfl, hZ2.cell 8 _ rfl, hZ2.cell 9 _ rfl, hZ2.cell 10 _ rfl, hZ2.cell 11 _ rfl, hZ2.cell 12 _ rfl]) rfl ⟨_, rfl, hW, ⟨_, _, _, rfl, hB3.size⟩, ?_⟩
    exact hB3.trans (hO2.below hB3.size hR1 hR1)

end Go.Proofs.Ytafnoloamfdanaa
