/-
  The walk of the document's own memory of words: its words lie in a block of their own.
-/
import Derived.Test.YtjicfonpldobdaaStoreR
import Derived.Test.YtjicfonpldobdaaBlkClone
namespace Go.Proofs.Ytjicfonpldobdaa
set_option maxRecDepth 100000
open Go.RowKit Go.Sort

theorem own_cap {W : World} {base n : Nat} {e : TypeId} {g cap : Nat} {xs : List Value} (h : W.ownsRow base e 1 (.slice (some ⟨g, 0, none⟩) n cap) n xs) : n ≤ cap ∧ cap ≤ maxLen := by
  rcases h.2 with ⟨h, _⟩ | ⟨g', cap', cur, hv, _, _, h1, h2, _, _⟩
  · cases h
  · simp only [Value.slice.injEq, Option.some.injEq, Addr.mk.injEq] at hv
    obtain ⟨_, _, rfl⟩ := hv
    exact ⟨h1, h2⟩

set_option maxHeartbeats 1000000 in
theorem rOf_own (c : Um.Cf) (v : Value) (ws : Nat → Nat) (w : World) (h : c.r = true) (hv : IsWords w v c.n ws) :
    Calls Try.prog 42 #[(.agg #[.int .i64 (c.t), .int .i64 (c.s), .int .i64 (c.k), .int .i64 (c.g), .int .u64 (c.q : Int)]), v] w fun e W' => ∃ v', e = .returned (.agg #[.int .i64 (c.t), .int .i64 (c.s), .int .i64 (c.k), .int .i64 (c.g), .int .u64 (c.q : Int), v', .int .i64 0, .int .i64 0, .int .i64 0, .int .i64 0, .int .u64 0, .int .u64 0, .bool false]) ∧ (∃ g cap, v' = .slice (some ⟨g, 0, none⟩) c.n cap ∧ w.heap.size ≤ g ∧ c.n ≤ cap ∧ cap ≤ maxLen ∧ BlkAt W' g (rowW ws c.n)) ∧ Below w.heap.size w W' := by
  obtain ⟨i0, hi, hz0, hz1, hz2⟩ := info_parts infoU
  have hp := Um.Cf.n_pos h
  have hn := c.n_le
  clear h
  rcases hv with ⟨_, _, _, h0⟩ | ⟨b, off, cap, rfl, h0, h1, h2, h3, h4⟩
  · omega
  have HR : Hid (∀ (W : World), Below w.heap.size w W → ∀ j u, (rowW ws c.n)[j]? = some u → W.cell? ((⟨b, off, none⟩ : Addr).add j) = some u) := by
    intro W hB j u hu
    have hj : j < c.n := by have := (List.getElem?_eq_some_iff.1 hu).1; rwa [rowW_len] at this
    rw [rowW_get ws c.n j hj] at hu
    rw [← hu, Addr.add_lit, hB.cell (p := ⟨b, off + j, none⟩) h3]
    exact (h4 j hj).1
  clear h4
  go_enter Try.func42, Try.ntmps42
  go_wp2_with fail
  generalize hW : (w.alloc (.cells #[.int .i64 c.t, .int .i64 c.s, .int .i64 c.k, .int .i64 c.g, .int .u64 c.q] 24)).alloc (.cells #[.int .i64 0, .int .i64 0, .int .i64 0, .int .i64 0, .int .u64 0, .slice none 0 0, .int .i64 0, .int .i64 0, .int .i64 0, .int .i64 0, .int .u64 0, .int .u64 0, .bool false] 33) = W
  obtain ⟨K, Z, hB⟩ : CfAt W w.heap.size c ∧ BlkAt W (w.heap.size + 1) [.int .i64 0, .int .i64 0, .int .i64 0, .int .i64 0, .int .u64 0, .slice none 0 0, .int .i64 0, .int .i64 0, .int .i64 0, .int .i64 0, .int .u64 0, .int .u64 0, .bool false] ∧ Below w.heap.size w W := by
    subst hW
    obtain ⟨_, h2⟩ := alloc2_at w (.cells #[.int .i64 c.t, .int .i64 c.s, .int .i64 c.k, .int .i64 c.g, .int .u64 c.q] 24) (.cells #[.int .i64 0, .int .i64 0, .int .i64 0, .int .i64 0, .int .u64 0, .slice none 0 0, .int .i64 0, .int .i64 0, .int .i64 0, .int .i64 0, .int .u64 0, .int .u64 0, .bool false] 33)
    exact ⟨(cfAt_alloc w c 24).below ((Below.refl _ _).alloc (Nat.le_refl _) _), blkAt_new h2, ((Below.refl _ _).alloc (Nat.le_refl _) _).alloc (by simp) _⟩
  clear hW
  obtain ⟨hk, a0, a1, a2, a3, a4⟩ := id K
  have hR1 : w.heap.size ≤ w.heap.size + 1 := by omega
  generalize w.heap.size + 1 = R at *
  go_region_law (refine step_append_grows rfl (.tmp 6) (.tmp 7) 25 rfl 22 i0 (.int .u64 0) 1 8 Try.underlying25 hi hz0 hz1 hz2 rfl (by decide) (some ⟨_, 0, none⟩) 0 0 [] (by simp [Act.eval]; rfl) (fun e => by cases e) rfl (fun _ _ j u e => by cases e) ⟨b, off, none⟩ c.n cap (rowW ws c.n) (by simp [Act.eval]) (by rw [rowW_len, Nat.mul_one]) ((unhide HR) _ ((hB.drew).alloc (Nat.le_of_lt hk) _)) rowW_mem (by omega) (by unfold maxLen; omega) (by omega) ?_; intro v' w' hown hgrow; obtain ⟨g, cap2, rfl, hg1, hg2⟩ := hown.form (by omega); have hb' : Below W.heap.size W w' := below_undrew (((Below.refl _ _).alloc (Nat.le_refl _) _).grown hgrow (by simp) (fun k e => by cases e)); obtain ⟨_, b0, b1, b2, b3, b4⟩ := K.below hb'; have Z2 := Z.below hb'; have z0 := Z2.cell 0 _ rfl; have y0 := Z2.fz 0; have z1 := Z2.cell 1 _ rfl; have y1 := Z2.fz 1; have z2 := Z2.cell 2 _ rfl; have y2 := Z2.fz 2; have z3 := Z2.cell 3 _ rfl; have y3 := Z2.fz 3; have z4 := Z2.cell 4 _ rfl; have y4 := Z2.fz 4; have z5 := Z2.cell 5 _ rfl; have y5 := Z2.fz 5; have z6 := Z2.cell 6 _ rfl; have y6 := Z2.fz 6; have z7 := Z2.cell 7 _ rfl; have y7 := Z2.fz 7; have z8 := Z2.cell 8 _ rfl; have y8 := Z2.fz 8; have z9 := Z2.cell 9 _ rfl; have y9 := Z2.fz 9; have z10 := Z2.cell 10 _ rfl; have y10 := Z2.fz 10; have z11 := Z2.cell 11 _ rfl; have y11 := Z2.fz 11; have z12 := Z2.cell 12 _ rfl; have y12 := Z2.fz 12)
  all_goals
    have hZ := (((((((((((((Z2.put 0 (.int .i64 c.t)).put 1 (.int .i64 c.s)).put 2 (.int .i64 c.k)).put 3 (.int .i64 c.g)).put 4 (.int .u64 c.q)).put 5 (.slice (some ⟨g, 0, none⟩) c.n cap2)).put 6 (.int .i64 0)).put 7 (.int .i64 0)).put 8 (.int .i64 0)).put 9 (.int .i64 0)).put 10 (.int .u64 0)).put 11 (.int .u64 0)).put 12 (.bool false))
    have hO := ((((((((((((((Off.refl R R w').set (p := ⟨R, 0, none⟩) (.inl rfl) (.int .i64 c.t)).set (p := ⟨R, 1, none⟩) (.inl rfl) (.int .i64 c.s)).set (p := ⟨R, 2, none⟩) (.inl rfl) (.int .i64 c.k)).set (p := ⟨R, 3, none⟩) (.inl rfl) (.int .i64 c.g)).set (p := ⟨R, 4, none⟩) (.inl rfl) (.int .u64 c.q)).set (p := ⟨R, 5, none⟩) (.inl rfl) (.slice (some ⟨g, 0, none⟩) c.n cap2)).set (p := ⟨R, 6, none⟩) (.inl rfl) (.int .i64 0)).set (p := ⟨R, 7, none⟩) (.inl rfl) (.int .i64 0)).set (p := ⟨R, 8, none⟩) (.inl rfl) (.int .i64 0)).set (p := ⟨R, 9, none⟩) (.inl rfl) (.int .i64 0)).set (p := ⟨R, 10, none⟩) (.inl rfl) (.int .u64 0)).set (p := ⟨R, 11, none⟩) (.inl rfl) (.int .u64 0)).set (p := ⟨R, 12, none⟩) (.inl rfl) (.bool false))
    have hg1' : W.heap.size ≤ g := by simp at hg1; omega
    have hB2 := hB.trans (hb'.mono (Nat.le_of_lt hk))
    have hWo : BlkAt w' g (rowW ws c.n) := blk_of_own (by simpa using hown)
    have hcp := own_cap (by simpa using hown)
    have HZ := hide hZ
    have HO := hide hO
    have HW := hide hWo
    have hRW := Z.lt
    have hgl : g < w'.heap.size := hg2
    have hsz := hb'.size
    clear hZ hO hWo z0 y0 z1 y1 z2 y2 z3 y3 z4 y4 z5 y5 z6 y6 z7 y7 z8 y8 z9 y9 z10 y10 z11 y11 z12 y12 a0 a1 a2 a3 a4 b0 b1 b2 b3 b4 Z Z2 K hown hgrow
    go_wp2
    have hZ := unhide HZ
    have hO := unhide HO
    simp only [List.set] at hZ
    generalize World.setCell _ _ _ = Wf at hZ hO ⊢
    refine bodyPost_ret (v := (.agg #[.int .i64 (c.t), .int .i64 (c.s), .int .i64 (c.k), .int .i64 (c.g), .int .u64 (c.q : Int), .slice (some ⟨g, 0, none⟩) c.n cap2, .int .i64 0, .int .i64 0, .int .i64 0, .int .i64 0, .int .u64 0, .int .u64 0, .bool false])) (by simp [results, Try.results42, go_sem, hZ.cell 0 _ rfl, hZ.cell 1 _ rfl, hZ.cell 2 _ rfl, hZ.cell 3 _ rfl, hZ.cell 4 _ rfl, hZ.cell 5 _ rfl, hZ.cell 6 _ rfl, hZ.cell 7 _ rfl, hZ.cell 8 _ rfl, hZ.cell 9 _ rfl, hZ.cell 10 _ rfl, hZ.cell 11 _ rfl, hZ.cell 12 _ rfl]) rfl ⟨_, rfl, ⟨g, _, rfl, by omega, hcp.1, hcp.2, ?_⟩, ?_⟩
    · exact (unhide HW).off hO (by omega) (by omega)
    · exact hB2.trans (hO.below hB2.size (by omega) (by omega))

end Go.Proofs.Ytjicfonpldobdaa
