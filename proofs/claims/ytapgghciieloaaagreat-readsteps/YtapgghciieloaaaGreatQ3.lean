/-
  Texts that the laws stand on, merged (StoreC, StoreD, StoreS, Blk, BlkT, BlkAny, BlkX, BlkT2, BlkY).
-/
import Derived.Test.YtapgghciieloaaaGreatQ2
import Derived.Deep.MidRow
import Derived.Deep.RegionHeld

namespace Go.Proofs.YtapgghciieloaaaGreat
section
set_option maxRecDepth 100000
open Go.RowKit Go.Sort
set_option maxHeartbeats 1000000 in
theorem copied_any {W : World} {v : Value} {n : Nat} {ws : Nat → Nat} (h : IsWords W v n ws) (hp : 0 < n) (hn : n ≤ 1000) :
    Calls Tryz.prog 70 #[v] W fun e W' => e = .returned (.slice (some ⟨W.heap.size, 0, none⟩) n n) ∧ W'.heap[W.heap.size]? = some (.cells (rowW ws n).toArray 22 (0, 0)) ∧ Below W.heap.size W W' := by
  obtain ⟨i0, hi, hz0, hz1, hz2⟩ := info_parts infoU
  have hm : i0.bytes * n ≤ 281474976710656 := by rw [hz2]; omega
  have hm2 : n ≤ maxLen := by unfold maxLen; omega
  have key : ∀ w1 : World, w1.ownsRow W.heap.size 22 1 (.slice (some ⟨W.heap.size, 0, none⟩) n n) n (madeCells (Value.int .u64 0).cells (n * 1)).toList → w1.heap[W.heap.size]? = some (.cells (rowW (fun _ => 0) n).toArray 22 (0, 0)) := by
    intro w1 h1
    rcases h1.2 with ⟨h, _⟩ | ⟨g, cap, cur, hv, _, hg, _, _, hsz, hcur⟩
    · cases h
    · have e1 := hv
      simp only [Value.slice.injEq, Option.some.injEq, Addr.mk.injEq] at e1
      obtain ⟨⟨rfl, _, _⟩, _, rfl⟩ := e1
      rw [made_zero] at hcur
      rw [hg]
      have : cur.toList = rowW (fun _ => 0) n := by rw [← hcur, List.take_of_length_le (by simp [hsz])]
      rw [← this]
  rcases h with ⟨a, cap, rfl, rfl⟩ | ⟨b, off, cap, rfl, h0, h1, h2, h3, h4⟩
  · omega
  · have HK := hide key
    have H4 := hide h4
    clear key h4
    go_enter Tryz.func70, Tryz.ntmps70
    go_wp2_with (first | (at_make; refine wpList_make_full _ rfl _ _ 25 rfl W.heap.size 22 i0 (.int .u64 0) 1 Tryz.underlying25 hi hz0 hz1 .i64 .i64 _ _ n rfl rfl rfl rfl hm hm2 (Nat.le_refl _) ?_; intro w1 hown hgrow))
    have HR := hide ((unhide HK) w1 hown)
    have hB : Below W.heap.size W w1 := (Below.refl _ _).grown hgrow (Nat.le_refl _) (fun k e => by cases e)
    have HC : Hid (∀ j v, (rowW ws n)[j]? = some v → w1.cell? ((⟨b, off, none⟩ : Addr).add j) = some v) := by
      intro j v hv
      have hj : j < n := by have := (List.getElem?_eq_some_iff.1 hv).1; rwa [rowW_len] at this
      rw [rowW_get ws n j hj] at hv
      rw [← hv, Addr.add_lit, hB.cell (p := ⟨b, off + j, none⟩) h3]
      exact ((unhide H4) j hj).1
    clear hown hgrow HK H4
    obtain ⟨w2, hrun, hg2, hB2⟩ : ∃ w2, (Builtin.copy_ #[25, 25] 3 #[.slice (some ⟨W.heap.size, 0, none⟩) n n, .slice (some ⟨b, off, none⟩) n cap]).run Tryz.prog w1 = .ok (.int .i64 n) w2 ∧ Hid (w2.heap[W.heap.size]? = some (.cells (rowW ws n).toArray 22 (0, 0))) ∧ Below W.heap.size W w2 := by
      have hr := run_copy_row (P := Tryz.prog) w1 25 25 3 22 W.heap.size 0 n n ⟨b, off, none⟩ n cap (rowW (fun _ => 0) n).toArray 22 (rowW ws n) Tryz.underlying25 (by rw [hi]; simp [hz1]) (unhide HR) (by rw [rowW_len]; exact (Nat.min_self n).symm) (unhide HC) (by simp [rowW_len]) rowW_mem
      have e : ((rowW (fun _ => 0) n).toArray.toList.take 0 ++ rowW ws n ++ (rowW (fun _ => 0) n).toArray.toList.drop (0 + (rowW ws n).length)) = rowW ws n := by simp [rowW_len]
      rw [e, rowW_len] at hr
      exact ⟨_, hr, setRow_heap w1 W.heap.size _ _ 22 _ (unhide HR), below_setRow hB (Nat.le_refl _) _⟩
    clear HC HR hB
    rw [hrun]
    clear hrun
    go_wp2
    go_ret
    exact ⟨rfl, unhide hg2, hB2⟩
theorem LowWords.of_row {W : World} {g n : Nat} {ws : Nat → Nat} (hp : 0 < n) (hn : n ≤ 1000) (h : W.heap[g]? = some (.cells (rowW ws n).toArray 22 (0, 0))) (hw : ∀ j, j < n → Um.Word (ws j)) : LowWords (g + 1) W (.slice (some ⟨g, 0, none⟩) n n) n ws :=
  .inr ⟨g, 0, n, rfl, hp, Nat.le_refl _, by unfold maxLen; omega, Nat.lt_succ_self _, fun j hj => ⟨by rw [Nat.zero_add]; exact row_cell h j hj, hw j hj⟩⟩
theorem MemAt.words {W : World} {B C : Nat} {c : Um.Cf} {m : Um.Mm} (h : MemAt W B C c m) : IsWords W (.slice (some ⟨C, 0, none⟩) c.n c.n) c.n m.ws :=
  .inr ⟨C, 0, c.n, rfl, by have := Um.Cf.n_pos h.rt; omega, Nat.le_refl _, by have := c.n_le; unfold maxLen; omega, h.hC, fun j hj => ⟨by rw [Nat.zero_add]; exact h.ws j hj, h.wd j hj⟩⟩
set_option maxHeartbeats 1000000 in
theorem mCells_any {W : World} {B C : Nat} {c : Um.Cf} {m : Um.Mm} (h : MemAt W B C c m) :
    Calls Tryz.prog 31 #[.pointer (some ⟨B, 0, none⟩)] W fun e W' => e = .returned (.slice (some ⟨W.heap.size, 0, none⟩) c.n c.n) ∧ W'.heap[W.heap.size]? = some (.cells (rowW m.ws c.n).toArray 22 (0, 0)) ∧ Below W.heap.size W W' := by
  have hC := copied_any h.words (by have := Um.Cf.n_pos h.rt; omega) (by have := c.n_le; omega)
  have h5 := h.sl
  have hB := h.hB
  clear h
  go_enter Tryz.func31, Tryz.ntmps31
  go_wp2_with fail
  refine hC.mono ?_
  rintro e w1 ⟨rfl, hg, hb⟩
  have HG := hide hg
  clear hg hC
  go_wp2
  go_ret
  exact ⟨rfl, unhide HG, hb⟩
end
section
set_option maxRecDepth 100000
open Go.RowKit Go.Sort
theorem Cf_len (c : Um.Cf) : Um.clen (Um.rt c.t c.s c.k c.g c.q) c.t c.s c.k = (c.n : Nat) := c.n_eq.symm
theorem below_undrew {w w' : World} (h : Below w.drew.heap.size w.drew w') : Below w.heap.size w w' := ⟨h.os, h.tape, h.output, h.size, h.block⟩
theorem run_makeW (n : Nat) (hn : n ≤ 1000) (W : World) : (Instr.makeSlice 25 (.int .i64 (n : Int)) (.int .i64 (n : Int))).run Tryz.prog W = .ok (.slice (some ⟨W.heap.size, 0, none⟩) n n) (W.alloc (.cells (rowW (fun _ => 0) n).toArray 22)) := by
  obtain ⟨i0, hi, hz0, hz1, hz2⟩ := info_parts infoU
  have hr := run_make (P := Tryz.prog) W 25 22 i0 (.int .u64 0) Tryz.underlying25 hi hz0 .i64 .i64 n n (by omega) (Int.le_refl _) (by rw [hz2]; omega) (by omega)
  rw [hr, hz1]
  simp only [Int.toNat_natCast]
  rw [show madeCells (Value.int .u64 0).cells (n * 1) = (rowW (fun _ => 0) n).toArray from by rw [← made_zero]]
theorem words_len {W : World} {v : Value} {n : Nat} {ws : Nat → Nat} (h : IsWords W v n ws) : ∃ a cap, v = .slice a n cap := by
  rcases h with ⟨a, cap, rfl, rfl⟩ | ⟨b, off, cap, rfl, _⟩
  · exact ⟨_, _, rfl⟩
  · exact ⟨_, _, rfl⟩
theorem words_word {W : World} {v : Value} {n : Nat} {ws : Nat → Nat} (h : IsWords W v n ws) : ∀ j, j < n → Um.Word (ws j) := by
  rcases h with ⟨a, cap, rfl, rfl⟩ | ⟨b, off, cap, rfl, _, _, _, _, h⟩
  · intro j hj; omega
  · exact fun j hj => (h j hj).2
theorem blk_cell {W : World} {g : Nat} {cs : Array Value} {e : TypeId} {fr : Nat × Nat} (h : W.heap[g]? = some (.cells cs e fr)) (j : Nat) : W.cell? ⟨g, j, none⟩ = cs[j]? := by
  simp [World.cell?, h]
theorem mem_new {w : World} {C : Nat} {ws : Nat → Nat} (c : Um.Cf) (hg : w.heap[C]? = some (.cells (rowW ws c.n).toArray 22 (0, 0))) (h : c.r = true) (hw : ∀ j, j < c.n → Um.Word (ws j)) :
    MemAt (w.alloc (.cells #[.int .i64 c.t, .int .i64 c.s, .int .i64 c.k, .int .i64 c.g, .int .u64 c.q, .slice (some ⟨C, 0, none⟩) c.n c.n, .int .i64 0, .int .i64 0, .int .i64 0, .int .i64 0, .int .u64 0, .int .u64 0, .bool false] 127)) w.heap.size C c ⟨ws, 0, Um.noT⟩ := by
  have hC : C < w.heap.size := (Array.getElem?_eq_some_iff.1 hg).1
  have hn := heap_alloc_new w (.cells #[.int .i64 c.t, .int .i64 c.s, .int .i64 c.k, .int .i64 c.g, .int .u64 c.q, .slice (some ⟨C, 0, none⟩) c.n c.n, .int .i64 0, .int .i64 0, .int .i64 0, .int .i64 0, .int .u64 0, .int .u64 0, .bool false] 127)
  have hg' := (Below.heap_alloc w (.cells #[.int .i64 c.t, .int .i64 c.s, .int .i64 c.k, .int .i64 c.g, .int .u64 c.q, .slice (some ⟨C, 0, none⟩) c.n c.n, .int .i64 0, .int .i64 0, .int .i64 0, .int .i64 0, .int .u64 0, .int .u64 0, .bool false] 127) C hC).trans hg
  exact ⟨by simp, by simp; omega, by omega, h, blk_cell hn 0, blk_cell hn 1, blk_cell hn 2, blk_cell hn 3, blk_cell hn 4, blk_cell hn 5, blk_cell hn 6, blk_cell hn 7, blk_cell hn 8, blk_cell hn 9, blk_cell hn 10, blk_cell hn 11, blk_cell hn 12, row_frozen hn, row_frozen hg', fun j hj => row_cell hg' j hj, hw⟩
set_option maxHeartbeats 2000000 in
theorem sOf_right (c : Um.Cf) (v : Value) (ws : Nat → Nat) (w : World) (h : c.r = true) (hv : IsWords w v c.n ws) :
    Calls Tryz.prog 41 #[(.agg #[.int .i64 (c.t), .int .i64 (c.s), .int .i64 (c.k), .int .i64 (c.g), .int .u64 (c.q : Int)]), v] w fun e w' => ∃ B C, e = .returned (.tuple #[.pointer (some ⟨B, 0, none⟩), .int .i64 0]) ∧ w.heap.size ≤ B ∧ w.heap.size ≤ C ∧ MemAt w' B C c ⟨ws, 0, Um.noT⟩ ∧ Below w.heap.size w w' := by
  have hR := cRight_any c.t c.s c.k c.g c.q
  have hL := cLen_any c.t c.s c.k c.g c.q
  rw [Cf_len] at hL
  rw [show Um.rt c.t c.s c.k c.g c.q = true from h] at hR
  have hp := Um.Cf.n_pos h
  have hn := c.n_le
  obtain ⟨a, cap, rfl⟩ := words_len hv
  have HV := hide hv
  have HR := hide h
  have hC : ∀ W, Below w.heap.size w W → Calls Tryz.prog 70 #[.slice a c.n cap] W fun e W' => e = .returned (.slice (some ⟨W.heap.size, 0, none⟩) c.n c.n) ∧ W'.heap[W.heap.size]? = some (.cells (rowW ws c.n).toArray 22 (0, 0)) ∧ Below W.heap.size W W' :=
    fun W hb => copied_any ((hv.low.below hb).is hb.size) (by omega) (by omega)
  clear h hv
  generalize hm : c.n = m at *
  have HM := hide hm
  clear hm
  go_enter Tryz.func41, Tryz.ntmps41
  go_wp2_with fail
  refine (hR _).mono ?_
  rintro e w1 ⟨rfl, hb1⟩
  have hB1 : Below w.heap.size w w1 := ((Below.refl w.heap.size w).alloc (Nat.le_refl _) _).trans (hb1.mono (by simp))
  obtain ⟨hc1, hf1⟩ := bcell hb1
  have hs1 : w.heap.size < w1.heap.size := by have := hb1.size; simp at this; omega
  have c0 : w1.cell? ⟨w.heap.size, 0, none⟩ = some (.int .i64 c.t) := by go_simp
  have c1 : w1.cell? ⟨w.heap.size, 1, none⟩ = some (.int .i64 c.s) := by go_simp
  have c2 : w1.cell? ⟨w.heap.size, 2, none⟩ = some (.int .i64 c.k) := by go_simp
  have c3 : w1.cell? ⟨w.heap.size, 3, none⟩ = some (.int .i64 c.g) := by go_simp
  have c4 : w1.cell? ⟨w.heap.size, 4, none⟩ = some (.int .u64 c.q) := by go_simp
  clear hb1 hc1 hf1 hR
  go_wp2_with fail
  refine (hL _).mono ?_
  rintro e w2 ⟨rfl, hb2⟩
  have hB2 := hB1.trans (hb2.mono hB1.size)
  have hs2 : w.heap.size < w2.heap.size := by have := hb2.size; omega
  have d0 := (hb2.cell (p := ⟨w.heap.size, 0, none⟩) hs1).trans c0
  have d1 := (hb2.cell (p := ⟨w.heap.size, 1, none⟩) hs1).trans c1
  have d2 := (hb2.cell (p := ⟨w.heap.size, 2, none⟩) hs1).trans c2
  have d3 := (hb2.cell (p := ⟨w.heap.size, 3, none⟩) hs1).trans c3
  have d4 := (hb2.cell (p := ⟨w.heap.size, 4, none⟩) hs1).trans c4
  clear hb2 hB1 hs1 c0 c1 c2 c3 c4 hL
  have HC := hide hC
  clear hC
  go_wp2_with fail
  go_region_with (go_at_call 70; refine ((unhide HC) _ (by first | exact hB2 | exact hB2.drew)).mono ?_; rintro e w3 ⟨rfl, hg3, hb3⟩; have HG3 := hide hg3; clear hg3; have e0 := (hb3.cell (p := ⟨w.heap.size, 0, none⟩) hs2).trans d0; have e1 := (hb3.cell (p := ⟨w.heap.size, 1, none⟩) hs2).trans d1; have e2 := (hb3.cell (p := ⟨w.heap.size, 2, none⟩) hs2).trans d2; have e3 := (hb3.cell (p := ⟨w.heap.size, 3, none⟩) hs2).trans d3; have e4 := (hb3.cell (p := ⟨w.heap.size, 4, none⟩) hs2).trans d4)
  all_goals
    have hB3 := hB2.trans ((below_undrew hb3).mono hB2.size)
    have hG3 : w3.heap[w2.heap.size]? = some (.cells (rowW ws m).toArray 22 (0, 0)) := unhide HG3
    have hz3 := hB2.size
    have HG := hide hG3
    clear hG3 HG3 hb3 e0 e1 e2 e3 e4 d0 d1 d2 d3 d4
    go_wp2
    go_ret2
    refine ⟨w3.heap.size, w2.heap.size, rfl, hB3.size, hz3, ?_, hB3.alloc hB3.size _⟩
    obtain rfl := unhide HM
    exact mem_new c (unhide HG) (unhide HR) (words_word (unhide HV))
end
section
set_option maxRecDepth 100000
open Go.RowKit Go.Sort
structure TchAt (W : World) (B : Nat) (x : Um.Tch) : Prop where
  lt : B < W.heap.size
  c0 : W.cell? ⟨B, 0, none⟩ = some (.int .i64 x.kind)
  c1 : W.cell? ⟨B, 1, none⟩ = some (.int .i64 x.a)
  c2 : W.cell? ⟨B, 2, none⟩ = some (.int .i64 x.b)
  c3 : W.cell? ⟨B, 3, none⟩ = some (.int .u64 x.old)
  c4 : W.cell? ⟨B, 4, none⟩ = some (.int .u64 x.new)
  c5 : W.cell? ⟨B, 5, none⟩ = some (.bool x.done)
  fz : ∀ o, W.frozen? ⟨B, o, none⟩ = false
theorem TchAt.kept {W W' : World} {B : Nat} {x : Um.Tch} (h : TchAt W B x) (hs : W.heap.size ≤ W'.heap.size) (hb : W'.heap[B]? = W.heap[B]?) : TchAt W' B x :=
  have eb : ∀ o, W'.cell? ⟨B, o, none⟩ = W.cell? ⟨B, o, none⟩ := fun _ => World.cell?_of_block (w := W) hb
  ⟨Nat.lt_of_lt_of_le h.lt hs, (eb _).trans h.c0, (eb _).trans h.c1, (eb _).trans h.c2, (eb _).trans h.c3, (eb _).trans h.c4, (eb _).trans h.c5, fun o => (World.frozen?_of_block (w := W) hb).trans (h.fz o)⟩
theorem TchAt.below {W W' : World} {B : Nat} {x : Um.Tch} (h : TchAt W B x) (b : Below W.heap.size W W') : TchAt W' B x := h.kept b.size (b.block B h.lt)
theorem TchAt.off {W W' : World} {B B' C' : Nat} {x : Um.Tch} (h : TchAt W B x) (b : Off B' C' W W') (h1 : B ≠ B') (h2 : B ≠ C') : TchAt W' B x := h.kept b.size (b.block B h.lt h1 h2)
theorem tchAt_new {W : World} {B : Nat} {e : TypeId} (x : Um.Tch) (hn : W.heap[B]? = some (.cells #[.int .i64 x.kind, .int .i64 x.a, .int .i64 x.b, .int .u64 x.old, .int .u64 x.new, .bool x.done] e (0, 0))) : TchAt W B x :=
  ⟨(Array.getElem?_eq_some_iff.1 hn).1, blk_cell hn 0, blk_cell hn 1, blk_cell hn 2, blk_cell hn 3, blk_cell hn 4, blk_cell hn 5, row_frozen hn⟩
structure SpAt (W : World) (B : Nat) (a b : Int) : Prop where
  lt : B < W.heap.size
  c0 : W.cell? ⟨B, 0, none⟩ = some (.int .i64 a)
  c1 : W.cell? ⟨B, 1, none⟩ = some (.int .i64 b)
theorem SpAt.kept {W W' : World} {B : Nat} {x y : Int} (h : SpAt W B x y) (hs : W.heap.size ≤ W'.heap.size) (hb : W'.heap[B]? = W.heap[B]?) : SpAt W' B x y :=
  have eb : ∀ o, W'.cell? ⟨B, o, none⟩ = W.cell? ⟨B, o, none⟩ := fun _ => World.cell?_of_block (w := W) hb
  ⟨Nat.lt_of_lt_of_le h.lt hs, (eb _).trans h.c0, (eb _).trans h.c1⟩
theorem SpAt.below {W W' : World} {B : Nat} {x y : Int} (h : SpAt W B x y) (b : Below W.heap.size W W') : SpAt W' B x y := h.kept b.size (b.block B h.lt)
theorem SpAt.off {W W' : World} {B B' C' : Nat} {x y : Int} (h : SpAt W B x y) (b : Off B' C' W W') (h1 : B ≠ B') (h2 : B ≠ C') : SpAt W' B x y := h.kept b.size (b.block B h.lt h1 h2)
theorem spAt_new {W : World} {B : Nat} {e : TypeId} {fr : Nat × Nat} {x y : Int} (hn : W.heap[B]? = some (.cells #[.int .i64 x, .int .i64 y] e fr)) : SpAt W B x y :=
  ⟨(Array.getElem?_eq_some_iff.1 hn).1, blk_cell hn 0, blk_cell hn 1⟩
theorem alloc2_at (W : World) (o1 o2 : Obj) : ((W.alloc o1).alloc o2).heap[W.heap.size]? = some o1 ∧ ((W.alloc o1).alloc o2).heap[W.heap.size + 1]? = some o2 := by
  have h1 : (W.alloc o1).heap.size = W.heap.size + 1 := by simp
  refine ⟨?_, ?_⟩
  · rw [Below.heap_alloc _ _ _ (by omega), heap_alloc_new]
  · have := heap_alloc_new (W.alloc o1) o2
    rwa [h1] at this
theorem alloc3_at (W : World) (o1 o2 o3 : Obj) : (((W.alloc o1).alloc o2).alloc o3).heap[W.heap.size]? = some o1 ∧ (((W.alloc o1).alloc o2).alloc o3).heap[W.heap.size + 1]? = some o2 ∧ (((W.alloc o1).alloc o2).alloc o3).heap[W.heap.size + 2]? = some o3 := by
  have h2 : ((W.alloc o1).alloc o2).heap.size = W.heap.size + 2 := by simp
  refine ⟨?_, ?_, ?_⟩
  · rw [Below.heap_alloc _ _ _ (by omega)]; exact (alloc2_at W o1 o2).1
  · rw [Below.heap_alloc _ _ _ (by omega)]; exact (alloc2_at W o1 o2).2
  · have := heap_alloc_new ((W.alloc o1).alloc o2) o3
    rwa [h2] at this
theorem size_set (W : World) (p : Addr) (u : Value) : (W.setCell p u).heap.size = W.heap.size := by simp [World.setCell]
theorem cell_other {W : World} {B o : Nat} {p : Addr} {u : Value} (h : p.block ≠ B ∨ p.off ≠ o) : (W.setCell p u).cell? ⟨B, o, none⟩ = W.cell? ⟨B, o, none⟩ :=
  World.cell?_setCell_other _ _ _ _ (fun e => by subst e; simp at h)
theorem cell_same {W : World} {p : Addr} {u v : Value} (h : W.cell? p = some u) : (W.setCell p v).cell? p = some v := World.cell?_setCell_same' W p v (by rw [h]; rfl)
theorem MemAt.set {W : World} {B C : Nat} {c : Um.Cf} {m : Um.Mm} (h : MemAt W B C c m) {p : Addr} {u : Value} (h1 : p.block ≠ B) (h2 : p.block ≠ C) : MemAt (W.setCell p u) B C c m :=
  h.kept (Nat.le_of_eq (size_set _ _ _).symm) (Below.heap_setCell _ _ _ _ (Ne.symm h1)) (Below.heap_setCell _ _ _ _ (Ne.symm h2))
theorem MemAt.setWord {W : World} {B C : Nat} {c : Um.Cf} {m : Um.Mm} (h : MemAt W B C c m) {p y : Nat} (hp : p < c.n) (hy : Um.Word y) : MemAt (W.setCell ⟨C, p, none⟩ (.int .u64 (y : Nat))) B C c ⟨Um.putW m.ws p y, m.cnt, m.l⟩ :=
  have eb : ∀ o, (W.setCell ⟨C, p, none⟩ (.int .u64 (y : Nat))).cell? ⟨B, o, none⟩ = W.cell? ⟨B, o, none⟩ := fun _ => cell_other (.inl h.ne.symm)
  ⟨by rw [size_set]; exact h.hB, by rw [size_set]; exact h.hC, h.ne, h.rt, (eb _).trans h.cf0, (eb _).trans h.cf1, (eb _).trans h.cf2, (eb _).trans h.cf3, (eb _).trans h.cf4, (eb _).trans h.sl, (eb _).trans h.ct,
    (eb _).trans h.l0, (eb _).trans h.l1, (eb _).trans h.l2, (eb _).trans h.l3, (eb _).trans h.l4, (eb _).trans h.l5, fun o => by rw [World.frozen?_setCell]; exact h.fB o, fun o => by rw [World.frozen?_setCell]; exact h.fC o,
    fun j hj => by
      by_cases e : j = p
      · subst e
        rw [cell_same (h.ws j hj)]
        simp [Um.putW]
      · rw [cell_other (.inr (Ne.symm e)), h.ws j hj]
        simp [Um.putW, e],
    Um.word_putW h.wd hy⟩
theorem MemAt.setCnt {W : World} {B C : Nat} {c : Um.Cf} {m : Um.Mm} (h : MemAt W B C c m) (z : Int) : MemAt (W.setCell ⟨B, 6, none⟩ (.int .i64 z)) B C c ⟨m.ws, z, m.l⟩ :=
  have eb : ∀ o, o ≠ 6 → (W.setCell ⟨B, 6, none⟩ (.int .i64 z)).cell? ⟨B, o, none⟩ = W.cell? ⟨B, o, none⟩ := fun _ e => cell_other (.inr (Ne.symm e))
  ⟨by rw [size_set]; exact h.hB, by rw [size_set]; exact h.hC, h.ne, h.rt, (eb _ (by decide)).trans h.cf0, (eb _ (by decide)).trans h.cf1, (eb _ (by decide)).trans h.cf2, (eb _ (by decide)).trans h.cf3, (eb _ (by decide)).trans h.cf4, (eb _ (by decide)).trans h.sl, cell_same h.ct,
    (eb _ (by decide)).trans h.l0, (eb _ (by decide)).trans h.l1, (eb _ (by decide)).trans h.l2, (eb _ (by decide)).trans h.l3, (eb _ (by decide)).trans h.l4, (eb _ (by decide)).trans h.l5, fun o => by rw [World.frozen?_setCell]; exact h.fB o, fun o => by rw [World.frozen?_setCell]; exact h.fC o,
    fun j hj => (cell_other (.inl h.ne)).trans (h.ws j hj), h.wd⟩
theorem TchAt.set0 {W : World} {B : Nat} {x : Um.Tch} (h : TchAt W B x) (z : Int) : TchAt (W.setCell ⟨B, 0, none⟩ (.int .i64 z)) B ⟨z, x.a, x.b, x.old, x.new, x.done⟩ :=
  ⟨by rw [size_set]; exact h.lt, cell_same h.c0, (cell_other (.inr (by simp))).trans h.c1, (cell_other (.inr (by simp))).trans h.c2, (cell_other (.inr (by simp))).trans h.c3, (cell_other (.inr (by simp))).trans h.c4, (cell_other (.inr (by simp))).trans h.c5, fun o => by rw [World.frozen?_setCell]; exact h.fz o⟩
theorem TchAt.set1 {W : World} {B : Nat} {x : Um.Tch} (h : TchAt W B x) (z : Int) : TchAt (W.setCell ⟨B, 1, none⟩ (.int .i64 z)) B ⟨x.kind, z, x.b, x.old, x.new, x.done⟩ :=
  ⟨by rw [size_set]; exact h.lt, (cell_other (.inr (by simp))).trans h.c0, cell_same h.c1, (cell_other (.inr (by simp))).trans h.c2, (cell_other (.inr (by simp))).trans h.c3, (cell_other (.inr (by simp))).trans h.c4, (cell_other (.inr (by simp))).trans h.c5, fun o => by rw [World.frozen?_setCell]; exact h.fz o⟩
theorem TchAt.set2 {W : World} {B : Nat} {x : Um.Tch} (h : TchAt W B x) (z : Int) : TchAt (W.setCell ⟨B, 2, none⟩ (.int .i64 z)) B ⟨x.kind, x.a, z, x.old, x.new, x.done⟩ :=
  ⟨by rw [size_set]; exact h.lt, (cell_other (.inr (by simp))).trans h.c0, (cell_other (.inr (by simp))).trans h.c1, cell_same h.c2, (cell_other (.inr (by simp))).trans h.c3, (cell_other (.inr (by simp))).trans h.c4, (cell_other (.inr (by simp))).trans h.c5, fun o => by rw [World.frozen?_setCell]; exact h.fz o⟩
theorem TchAt.set3 {W : World} {B : Nat} {x : Um.Tch} (h : TchAt W B x) (z : Nat) : TchAt (W.setCell ⟨B, 3, none⟩ (.int .u64 (z : Nat))) B ⟨x.kind, x.a, x.b, z, x.new, x.done⟩ :=
  ⟨by rw [size_set]; exact h.lt, (cell_other (.inr (by simp))).trans h.c0, (cell_other (.inr (by simp))).trans h.c1, (cell_other (.inr (by simp))).trans h.c2, cell_same h.c3, (cell_other (.inr (by simp))).trans h.c4, (cell_other (.inr (by simp))).trans h.c5, fun o => by rw [World.frozen?_setCell]; exact h.fz o⟩
theorem TchAt.set4 {W : World} {B : Nat} {x : Um.Tch} (h : TchAt W B x) (z : Nat) : TchAt (W.setCell ⟨B, 4, none⟩ (.int .u64 (z : Nat))) B ⟨x.kind, x.a, x.b, x.old, z, x.done⟩ :=
  ⟨by rw [size_set]; exact h.lt, (cell_other (.inr (by simp))).trans h.c0, (cell_other (.inr (by simp))).trans h.c1, (cell_other (.inr (by simp))).trans h.c2, (cell_other (.inr (by simp))).trans h.c3, cell_same h.c4, (cell_other (.inr (by simp))).trans h.c5, fun o => by rw [World.frozen?_setCell]; exact h.fz o⟩
theorem TchAt.set5 {W : World} {B : Nat} {x : Um.Tch} (h : TchAt W B x) (z : Bool) : TchAt (W.setCell ⟨B, 5, none⟩ (.bool z)) B ⟨x.kind, x.a, x.b, x.old, x.new, z⟩ :=
  ⟨by rw [size_set]; exact h.lt, (cell_other (.inr (by simp))).trans h.c0, (cell_other (.inr (by simp))).trans h.c1, (cell_other (.inr (by simp))).trans h.c2, (cell_other (.inr (by simp))).trans h.c3, (cell_other (.inr (by simp))).trans h.c4, cell_same h.c5, fun o => by rw [World.frozen?_setCell]; exact h.fz o⟩
theorem TchAt.drew {W : World} {B : Nat} {x : Um.Tch} (h : TchAt W B x) : TchAt W.drew B x := ⟨h.lt, h.c0, h.c1, h.c2, h.c3, h.c4, h.c5, h.fz⟩
theorem MemAt.drew {W : World} {B C : Nat} {c : Um.Cf} {m : Um.Mm} (h : MemAt W B C c m) : MemAt W.drew B C c m :=
  h.kept (Nat.le_refl _) rfl rfl
theorem TchAt.set {W : World} {B : Nat} {x : Um.Tch} (h : TchAt W B x) {p : Addr} {u : Value} (h1 : p.block ≠ B) : TchAt (W.setCell p u) B x :=
  h.kept (Nat.le_of_eq (size_set _ _ _).symm) (Below.heap_setCell _ _ _ _ (Ne.symm h1))
theorem SpAt.set {W : World} {B : Nat} {a b : Int} (h : SpAt W B a b) {p : Addr} {u : Value} (h1 : p.block ≠ B) : SpAt (W.setCell p u) B a b :=
  h.kept (Nat.le_of_eq (size_set _ _ _).symm) (Below.heap_setCell _ _ _ _ (Ne.symm h1))
theorem MemAt.setL0 {W : World} {B C : Nat} {c : Um.Cf} {m : Um.Mm} (h : MemAt W B C c m) (z : Int) : MemAt (W.setCell ⟨B, 7, none⟩ (.int .i64 z)) B C c ⟨m.ws, m.cnt, ⟨z, m.l.a, m.l.b, m.l.old, m.l.new, m.l.done⟩⟩ :=
  have eb : ∀ o, o ≠ 7 → (W.setCell ⟨B, 7, none⟩ (.int .i64 z)).cell? ⟨B, o, none⟩ = W.cell? ⟨B, o, none⟩ := fun _ e => cell_other (.inr (Ne.symm e))
  ⟨by rw [size_set]; exact h.hB, by rw [size_set]; exact h.hC, h.ne, h.rt, (eb _ (by decide)).trans h.cf0, (eb _ (by decide)).trans h.cf1, (eb _ (by decide)).trans h.cf2, (eb _ (by decide)).trans h.cf3, (eb _ (by decide)).trans h.cf4, (eb _ (by decide)).trans h.sl, (eb _ (by decide)).trans h.ct,
    cell_same h.l0, (eb _ (by decide)).trans h.l1, (eb _ (by decide)).trans h.l2, (eb _ (by decide)).trans h.l3, (eb _ (by decide)).trans h.l4, (eb _ (by decide)).trans h.l5, fun o => by rw [World.frozen?_setCell]; exact h.fB o, fun o => by rw [World.frozen?_setCell]; exact h.fC o,
    fun j hj => (cell_other (.inl h.ne)).trans (h.ws j hj), h.wd⟩
theorem MemAt.setL1 {W : World} {B C : Nat} {c : Um.Cf} {m : Um.Mm} (h : MemAt W B C c m) (z : Int) : MemAt (W.setCell ⟨B, 8, none⟩ (.int .i64 z)) B C c ⟨m.ws, m.cnt, ⟨m.l.kind, z, m.l.b, m.l.old, m.l.new, m.l.done⟩⟩ :=
  have eb : ∀ o, o ≠ 8 → (W.setCell ⟨B, 8, none⟩ (.int .i64 z)).cell? ⟨B, o, none⟩ = W.cell? ⟨B, o, none⟩ := fun _ e => cell_other (.inr (Ne.symm e))
  ⟨by rw [size_set]; exact h.hB, by rw [size_set]; exact h.hC, h.ne, h.rt, (eb _ (by decide)).trans h.cf0, (eb _ (by decide)).trans h.cf1, (eb _ (by decide)).trans h.cf2, (eb _ (by decide)).trans h.cf3, (eb _ (by decide)).trans h.cf4, (eb _ (by decide)).trans h.sl, (eb _ (by decide)).trans h.ct,
    (eb _ (by decide)).trans h.l0, cell_same h.l1, (eb _ (by decide)).trans h.l2, (eb _ (by decide)).trans h.l3, (eb _ (by decide)).trans h.l4, (eb _ (by decide)).trans h.l5, fun o => by rw [World.frozen?_setCell]; exact h.fB o, fun o => by rw [World.frozen?_setCell]; exact h.fC o,
    fun j hj => (cell_other (.inl h.ne)).trans (h.ws j hj), h.wd⟩
theorem MemAt.setL2 {W : World} {B C : Nat} {c : Um.Cf} {m : Um.Mm} (h : MemAt W B C c m) (z : Int) : MemAt (W.setCell ⟨B, 9, none⟩ (.int .i64 z)) B C c ⟨m.ws, m.cnt, ⟨m.l.kind, m.l.a, z, m.l.old, m.l.new, m.l.done⟩⟩ :=
  have eb : ∀ o, o ≠ 9 → (W.setCell ⟨B, 9, none⟩ (.int .i64 z)).cell? ⟨B, o, none⟩ = W.cell? ⟨B, o, none⟩ := fun _ e => cell_other (.inr (Ne.symm e))
  ⟨by rw [size_set]; exact h.hB, by rw [size_set]; exact h.hC, h.ne, h.rt, (eb _ (by decide)).trans h.cf0, (eb _ (by decide)).trans h.cf1, (eb _ (by decide)).trans h.cf2, (eb _ (by decide)).trans h.cf3, (eb _ (by decide)).trans h.cf4, (eb _ (by decide)).trans h.sl, (eb _ (by decide)).trans h.ct,
    (eb _ (by decide)).trans h.l0, (eb _ (by decide)).trans h.l1, cell_same h.l2, (eb _ (by decide)).trans h.l3, (eb _ (by decide)).trans h.l4, (eb _ (by decide)).trans h.l5, fun o => by rw [World.frozen?_setCell]; exact h.fB o, fun o => by rw [World.frozen?_setCell]; exact h.fC o,
    fun j hj => (cell_other (.inl h.ne)).trans (h.ws j hj), h.wd⟩
theorem MemAt.setL3 {W : World} {B C : Nat} {c : Um.Cf} {m : Um.Mm} (h : MemAt W B C c m) (z : Nat) : MemAt (W.setCell ⟨B, 10, none⟩ (.int .u64 (z : Nat))) B C c ⟨m.ws, m.cnt, ⟨m.l.kind, m.l.a, m.l.b, z, m.l.new, m.l.done⟩⟩ :=
  have eb : ∀ o, o ≠ 10 → (W.setCell ⟨B, 10, none⟩ (.int .u64 (z : Nat))).cell? ⟨B, o, none⟩ = W.cell? ⟨B, o, none⟩ := fun _ e => cell_other (.inr (Ne.symm e))
  ⟨by rw [size_set]; exact h.hB, by rw [size_set]; exact h.hC, h.ne, h.rt, (eb _ (by decide)).trans h.cf0, (eb _ (by decide)).trans h.cf1, (eb _ (by decide)).trans h.cf2, (eb _ (by decide)).trans h.cf3, (eb _ (by decide)).trans h.cf4, (eb _ (by decide)).trans h.sl, (eb _ (by decide)).trans h.ct,
    (eb _ (by decide)).trans h.l0, (eb _ (by decide)).trans h.l1, (eb _ (by decide)).trans h.l2, cell_same h.l3, (eb _ (by decide)).trans h.l4, (eb _ (by decide)).trans h.l5, fun o => by rw [World.frozen?_setCell]; exact h.fB o, fun o => by rw [World.frozen?_setCell]; exact h.fC o,
    fun j hj => (cell_other (.inl h.ne)).trans (h.ws j hj), h.wd⟩
theorem MemAt.setL4 {W : World} {B C : Nat} {c : Um.Cf} {m : Um.Mm} (h : MemAt W B C c m) (z : Nat) : MemAt (W.setCell ⟨B, 11, none⟩ (.int .u64 (z : Nat))) B C c ⟨m.ws, m.cnt, ⟨m.l.kind, m.l.a, m.l.b, m.l.old, z, m.l.done⟩⟩ :=
  have eb : ∀ o, o ≠ 11 → (W.setCell ⟨B, 11, none⟩ (.int .u64 (z : Nat))).cell? ⟨B, o, none⟩ = W.cell? ⟨B, o, none⟩ := fun _ e => cell_other (.inr (Ne.symm e))
  ⟨by rw [size_set]; exact h.hB, by rw [size_set]; exact h.hC, h.ne, h.rt, (eb _ (by decide)).trans h.cf0, (eb _ (by decide)).trans h.cf1, (eb _ (by decide)).trans h.cf2, (eb _ (by decide)).trans h.cf3, (eb _ (by decide)).trans h.cf4, (eb _ (by decide)).trans h.sl, (eb _ (by decide)).trans h.ct,
    (eb _ (by decide)).trans h.l0, (eb _ (by decide)).trans h.l1, (eb _ (by decide)).trans h.l2, (eb _ (by decide)).trans h.l3, cell_same h.l4, (eb _ (by decide)).trans h.l5, fun o => by rw [World.frozen?_setCell]; exact h.fB o, fun o => by rw [World.frozen?_setCell]; exact h.fC o,
    fun j hj => (cell_other (.inl h.ne)).trans (h.ws j hj), h.wd⟩
theorem MemAt.setL5 {W : World} {B C : Nat} {c : Um.Cf} {m : Um.Mm} (h : MemAt W B C c m) (z : Bool) : MemAt (W.setCell ⟨B, 12, none⟩ (.bool z)) B C c ⟨m.ws, m.cnt, ⟨m.l.kind, m.l.a, m.l.b, m.l.old, m.l.new, z⟩⟩ :=
  have eb : ∀ o, o ≠ 12 → (W.setCell ⟨B, 12, none⟩ (.bool z)).cell? ⟨B, o, none⟩ = W.cell? ⟨B, o, none⟩ := fun _ e => cell_other (.inr (Ne.symm e))
  ⟨by rw [size_set]; exact h.hB, by rw [size_set]; exact h.hC, h.ne, h.rt, (eb _ (by decide)).trans h.cf0, (eb _ (by decide)).trans h.cf1, (eb _ (by decide)).trans h.cf2, (eb _ (by decide)).trans h.cf3, (eb _ (by decide)).trans h.cf4, (eb _ (by decide)).trans h.sl, (eb _ (by decide)).trans h.ct,
    (eb _ (by decide)).trans h.l0, (eb _ (by decide)).trans h.l1, (eb _ (by decide)).trans h.l2, (eb _ (by decide)).trans h.l3, (eb _ (by decide)).trans h.l4, cell_same h.l5, fun o => by rw [World.frozen?_setCell]; exact h.fB o, fun o => by rw [World.frozen?_setCell]; exact h.fC o,
    fun j hj => (cell_other (.inl h.ne)).trans (h.ws j hj), h.wd⟩
theorem next_eq (z : Int) : wrap64 (z + 1) = Um.nextI z := by
  unfold wrap64 Um.nextI
  rfl
structure BlkAt (W : World) (B : Nat) (vs : List Value) : Prop where
  lt : B < W.heap.size
  cell : ∀ (j : Nat) (v : Value), vs[j]? = some v → W.cell? ⟨B, j, none⟩ = some v
  fz : ∀ o, W.frozen? ⟨B, o, none⟩ = false
theorem BlkAt.kept {W W' : World} {B : Nat} {vs : List Value} (h : BlkAt W B vs) (hs : W.heap.size ≤ W'.heap.size) (hb : W'.heap[B]? = W.heap[B]?) : BlkAt W' B vs :=
  ⟨Nat.lt_of_lt_of_le h.lt hs, fun j v e => (World.cell?_of_block (w := W) hb).trans (h.cell j v e), fun o => (World.frozen?_of_block (w := W) hb).trans (h.fz o)⟩
theorem BlkAt.below {W W' : World} {B : Nat} {vs : List Value} (h : BlkAt W B vs) (b : Below W.heap.size W W') : BlkAt W' B vs := h.kept b.size (b.block B h.lt)
theorem BlkAt.off {W W' : World} {B B' C' : Nat} {vs : List Value} (h : BlkAt W B vs) (b : Off B' C' W W') (h1 : B ≠ B') (h2 : B ≠ C') : BlkAt W' B vs := h.kept b.size (b.block B h.lt h1 h2)
theorem BlkAt.drew {W : World} {B : Nat} {vs : List Value} (h : BlkAt W B vs) : BlkAt W.drew B vs := h.kept (Nat.le_refl _) rfl
theorem BlkAt.set {W : World} {B : Nat} {vs : List Value} (h : BlkAt W B vs) {p : Addr} {u : Value} (h1 : p.block ≠ B) : BlkAt (W.setCell p u) B vs :=
  h.kept (Nat.le_of_eq (size_set _ _ _).symm) (Below.heap_setCell _ _ _ _ (Ne.symm h1))
theorem BlkAt.put {W : World} {B : Nat} {vs : List Value} (h : BlkAt W B vs) (j : Nat) (u : Value) : BlkAt (W.setCell ⟨B, j, none⟩ u) B (vs.set j u) := by
  refine ⟨by rw [size_set]; exact h.lt, fun i v e => ?_, fun o => by rw [World.frozen?_setCell]; exact h.fz o⟩
  by_cases e1 : i = j
  · subst e1
    rw [List.getElem?_set] at e
    simp at e
    obtain ⟨e2, rfl⟩ := e
    exact cell_same (h.cell i _ (List.getElem?_eq_getElem e2))
  · rw [cell_other (.inr (Ne.symm e1))]
    rw [List.getElem?_set_ne (Ne.symm e1)] at e
    exact h.cell i v e
theorem blkAt_new {W : World} {B : Nat} {e : TypeId} {cs : Array Value} (hn : W.heap[B]? = some (.cells cs e (0, 0))) : BlkAt W B cs.toList :=
  ⟨(Array.getElem?_eq_some_iff.1 hn).1, fun j v hv => (blk_cell hn j).trans (by simpa using hv), row_frozen hn⟩
theorem alloc6_at (W : World) (o1 o2 o3 o4 o5 o6 : Obj) {X : World} (hX : (((((W.alloc o1).alloc o2).alloc o3).alloc o4).alloc o5).alloc o6 = X) :
    X.heap[W.heap.size]? = some o1 ∧ X.heap[W.heap.size + 1]? = some o2 ∧ X.heap[W.heap.size + 1 + 1]? = some o3 ∧ X.heap[W.heap.size + 1 + 1 + 1]? = some o4 ∧ X.heap[W.heap.size + 1 + 1 + 1 + 1]? = some o5 ∧ X.heap[W.heap.size + 1 + 1 + 1 + 1 + 1]? = some o6 ∧ Below W.heap.size W X ∧ X.heap.size = W.heap.size + 6 := by
  subst hX
  obtain ⟨h1, h2, h3⟩ := alloc3_at W o1 o2 o3
  have hs : (((W.alloc o1).alloc o2).alloc o3).heap.size = W.heap.size + 3 := by simp
  have hb : Below W.heap.size W (((W.alloc o1).alloc o2).alloc o3) := (((Below.refl _ _).alloc (Nat.le_refl _) _).alloc (by simp) _).alloc (by simp; omega) _
  generalize ((W.alloc o1).alloc o2).alloc o3 = V at *
  obtain ⟨h4, h5, h6⟩ := alloc3_at V o4 o5 o6
  have hb2 : Below V.heap.size V (((V.alloc o4).alloc o5).alloc o6) := (((Below.refl _ _).alloc (Nat.le_refl _) _).alloc (by simp) _).alloc (by simp; omega) _
  have hs2 : (((V.alloc o4).alloc o5).alloc o6).heap.size = V.heap.size + 3 := by simp
  generalize ((V.alloc o4).alloc o5).alloc o6 = X at *
  rw [hs] at h4 h5 h6
  exact ⟨(hb2.block _ (by omega)).trans h1, (hb2.block _ (by omega)).trans h2, (hb2.block _ (by omega)).trans h3, h4, h5, h6, hb.trans (hb2.mono hb.size), by omega⟩
end
section
set_option maxRecDepth 100000
open Go.RowKit Go.Sort
def blit (cs : List Value) (o : Nat) : List Value → List Value
  | [] => cs
  | v :: r => blit (cs.set o v) (o + 1) r
def cutL (cs : List Value) (o n : Nat) : List Value := (cs.drop o).take n
theorem BlkAt.cells {B : Nat} (vs : List Value) : ∀ {cs : List Value} {W : World} (_ : BlkAt W B cs) (o : Nat), BlkAt (W.setCells B o vs) B (blit cs o vs) := by
  induction vs with
  | nil => intro cs W h o; exact h
  | cons v r ih => intro cs W h o; exact ih (h.put o v) (o + 1)
theorem Off.cells {B C : Nat} {a : World} (vs : List Value) : ∀ {w : World} (_ : Off B C a w) (o : Nat), Off B C a (w.setCells B o vs) := by
  induction vs with
  | nil => intro w h o; exact h
  | cons v r ih => intro w h o; exact ih (h.set (.inl rfl) v) (o + 1)
theorem BlkAt.range {W : World} {B : Nat} {cs : List Value} (h : BlkAt W B cs) (o n : Nat) : W.rangeAt B o (cutL cs o n) := by
  intro j v hv
  refine h.cell (o + j) v ?_
  unfold cutL at hv
  by_cases hj : j < n
  · rw [List.getElem?_take_of_lt hj, List.getElem?_drop] at hv
    exact hv
  · rw [List.getElem?_take_eq_none (by omega)] at hv
    cases hv
structure St (w0 w : World) (l : List (Nat × List Value)) : Prop where
  bel : Below w0.heap.size w0 w
  low : ∀ p ∈ l, w0.heap.size ≤ p.1
  blk : ∀ p ∈ l, BlkAt w p.1 p.2
  nd : l.Pairwise (fun p q => p.1 ≠ q.1)
theorem St.new (w : World) : St w w [] := ⟨Below.refl _ _, by simp, by simp, List.Pairwise.nil⟩
theorem St.get {w0 w : World} {l : List (Nat × List Value)} (h : St w0 w l) (k : Nat) {b : Nat} {cs : List Value} (hk : l[k]? = some (b, cs)) : BlkAt w b cs := h.blk (b, cs) (List.mem_of_getElem? hk)
theorem St.ne {w0 w : World} {l : List (Nat × List Value)} (h : St w0 w l) (i j : Nat) {b b' : Nat} {cs cs' : List Value} (hi : l[i]? = some (b, cs)) (hj : l[j]? = some (b', cs')) (hij : i ≠ j) : b ≠ b' := by
  obtain ⟨h1, e1⟩ := List.getElem?_eq_some_iff.1 hi
  obtain ⟨h2, e2⟩ := List.getElem?_eq_some_iff.1 hj
  rcases Nat.lt_or_gt_of_ne hij with hlt | hlt
  · have := List.pairwise_iff_getElem.1 h.nd i j h1 h2 hlt
    rwa [e1, e2] at this
  · have := List.pairwise_iff_getElem.1 h.nd j i h2 h1 hlt
    rw [e1, e2] at this
    exact fun e => this e.symm
theorem St.call {w0 w w' : World} {l : List (Nat × List Value)} (h : St w0 w l) (b : Below w.heap.size w w') : St w0 w' l :=
  ⟨h.bel.trans (b.mono h.bel.size), h.low, fun p hp => (h.blk p hp).below b, h.nd⟩
theorem St.drew {w0 w : World} {l : List (Nat × List Value)} (h : St w0 w l) : St w0 w.drew l := ⟨h.bel.drew, h.low, fun p hp => (h.blk p hp).drew, h.nd⟩
theorem St.undrew {w0 w w' : World} {l : List (Nat × List Value)} (h : St w0 w l) (b : Below w.drew.heap.size w.drew w') : St w0 w' l := h.call (below_undrew b)
theorem St.add {w0 w w' : World} {l : List (Nat × List Value)} (h : St w0 w l) (b : Below w.heap.size w w') {g : Nat} {cs : List Value} (hg : BlkAt w' g cs) (hl : w.heap.size ≤ g) : St w0 w' (l ++ [(g, cs)]) := by
  have h' := h.call b
  refine ⟨h'.bel, fun p hp => ?_, fun p hp => ?_, ?_⟩
  · rcases List.mem_append.1 hp with e | e
    · exact h.low p e
    · obtain rfl : p = _ := by simpa using e
      exact Nat.le_trans h.bel.size hl
  · rcases List.mem_append.1 hp with e | e
    · exact h'.blk p e
    · obtain rfl : p = _ := by simpa using e
      exact hg
  · rw [List.pairwise_append]
    refine ⟨h.nd, by simp, fun p hp q hq => ?_⟩
    obtain rfl : q = _ := by simpa using hq
    have := (h.blk p hp).lt
    intro e
    simp at e
    omega
theorem St.alloc {w0 w : World} {l : List (Nat × List Value)} (h : St w0 w l) (cs : Array Value) (t : TypeId) : St w0 (w.alloc (.cells cs t)) (l ++ [(w.heap.size, cs.toList)]) :=
  h.add ((Below.refl _ _).alloc (Nat.le_refl _) _) (blkAt_new (heap_alloc_new _ _)) (Nat.le_refl _)
theorem pairwise_set {l : List (Nat × List Value)} (h : l.Pairwise (fun p q => p.1 ≠ q.1)) {k b : Nat} {cs cs' : List Value} (hk : l[k]? = some (b, cs)) : (l.set k (b, cs')).Pairwise (fun p q => p.1 ≠ q.1) := by
  have e : (l.set k (b, cs')).map (·.1) = l.map (·.1) := by
    apply List.ext_getElem?
    intro i
    simp only [List.getElem?_map, List.getElem?_set]
    split
    · rename_i e
      subst e
      have hk' := (List.getElem?_eq_some_iff.1 hk).1
      have e := (List.getElem?_eq_some_iff.1 hk).2
      simp [hk', e]
    · rfl
  have h1 : (l.map (·.1)).Pairwise (· ≠ ·) := by rw [List.pairwise_map]; exact h
  rw [← e, List.pairwise_map] at h1
  exact h1
theorem St.turn {w0 w w' : World} {l : List (Nat × List Value)} (h : St w0 w l) (k : Nat) {b : Nat} {cs cs' : List Value} (hk : l[k]? = some (b, cs)) (ho : Off b b w w') (hb : BlkAt w' b cs') : St w0 w' (l.set k (b, cs')) := by
  have hlow := h.low (b, cs) (List.mem_of_getElem? hk)
  refine ⟨h.bel.trans (ho.below h.bel.size hlow hlow), fun p hp => ?_, fun p hp => ?_, pairwise_set h.nd hk⟩
  · rcases List.mem_or_eq_of_mem_set hp with e | e
    · exact h.low p e
    · subst e; exact hlow
  · obtain ⟨i, hi⟩ := List.mem_iff_getElem?.1 hp
    rw [List.getElem?_set] at hi
    split at hi
    · split at hi
      · cases hi; exact hb
      · cases hi
    · rename_i hne
      have hpb := h.blk p (List.mem_of_getElem? hi)
      refine hpb.off ho ?_ ?_ <;>
      · intro e
        have h1 := (List.getElem?_eq_some_iff.1 hi)
        have h2 := (List.getElem?_eq_some_iff.1 hk)
        obtain ⟨h1, e1⟩ := h1
        obtain ⟨h2, e2⟩ := h2
        rcases Nat.lt_or_gt_of_ne hne with hlt | hlt
        · have := List.pairwise_iff_getElem.1 h.nd k i h2 h1 hlt
          rw [e1, e2] at this
          exact this e.symm
        · have := List.pairwise_iff_getElem.1 h.nd i k h1 h2 hlt
          rw [e1, e2] at this
          exact this e
theorem St.store {w0 w : World} {l : List (Nat × List Value)} (h : St w0 w l) (k : Nat) {b : Nat} {cs : List Value} (hk : l[k]? = some (b, cs)) (o : Nat) (vs : List Value) : St w0 (w.setCells b o vs) (l.set k (b, blit cs o vs)) :=
  h.turn k hk ((Off.refl b b w).cells vs o) ((h.get k hk).cells vs o)
theorem run_load_st {P : Program} {w : World} {b : Nat} {cs : List Value} (h : BlkAt w b cs) (o : Nat) (ty : TypeId) (n : Nat) (hn : o + n ≤ cs.length) (d : TypeDesc) (hu : P.underlying ty = some d) (hd : d.isRow = true) (hi : (P.info? ty).map (·.size) = some n) :
    (Instr.loadAt ty (.pointer (some ⟨b, o, none⟩))).run P w = .ok (.agg (cutL cs o n).toArray) w :=
  run_loadAt_mid w b o ty (cutL cs o n) d (h.range o n) hu hd (by rw [hi]; simp [cutL]; omega)
theorem run_load1_st {P : Program} {w : World} {b : Nat} {cs : List Value} (h : BlkAt w b cs) (o : Nat) (ty : TypeId) (v : Value) (hv : cs[o]? = some v) (d : TypeDesc) (hu : P.underlying ty = some d) (hd : d.isRow = false) :
    (Instr.loadAt ty (.pointer (some ⟨b, o, none⟩))).run P w = .ok v w := by
  have hagg : (isAgg ty).run P w = .ok false w := by
    unfold isAgg
    rw [Sem.run_bind, run_underlying hu w]
    cases d <;> simp_all
  simp [Instr.loadAt, Instr.sureAddr, loadVar, Sem.run_bind, hagg, h.cell o v hv]
theorem run_store_st {P : Program} {w : World} {b : Nat} {cs : List Value} (h : BlkAt w b cs) (o : Nat) (ty : TypeId) (v : Value) (vs : List Value) (hv : v.cells.toList = vs) (hn : o + vs.length ≤ cs.length) (hi : (P.info? ty).map (·.size) = some vs.length) (h1 : vs.all (·.oneCell') = true) :
    (Instr.storeAt ty (.pointer (some ⟨b, o, none⟩)) v).run P w = .ok () (w.setCells b o vs) := by
  have hst := run_storeCells_cells (P := P) b o vs 0 w (fun j hj => by
      have hj' : o + j < cs.length := by omega
      rw [Nat.add_zero, h.cell (o + j) cs[o + j] (List.getElem?_eq_getElem hj')]; rfl) (fun j _ => h.fz _) (fun v hv => List.all_eq_true.1 h1 v hv)
  cases hq : P.info? ty with
  | none => simp [hq] at hi
  | some i =>
    have hs : v.cells.size = i.size := by
      have : vs.length = i.size := by simp [hq] at hi; omega
      rw [← this, ← hv]; simp
    simp only [Nat.add_zero] at hst
    simp [Instr.storeAt, Instr.sureAddr, storeVar, sizeOf, typeInfo, hq, hs, hv, hst]
def Row (P : Program) (ty : TypeId) (n : Nat) : Prop := ∃ d, P.underlying ty = some d ∧ d.isRow = true ∧ (P.info? ty).map (·.size) = some n
def One (P : Program) (ty : TypeId) : Prop := ∃ d, P.underlying ty = some d ∧ d.isRow = false
section
variable {P : Program} {ops : Array Oper} {rest : List Oper} {op : Oper} {a : Act} {w w0 : World} {Q : Exit → Act → World → Prop} {l : List (Nat × List Value)}
theorem wpl_box (hS : St w0 w l) (hw : Region.wanted op (yielded ops a.tmps) = true) (ty : TypeId) (x : Operand) (ho : op.op = .box ty x) (vs : List Value) (hx : a.eval x = .agg (List.toArray vs))
    (f : Nat → Act) (hf : ∀ b, a.put op.dst (.pointer (some ⟨b, 0, none⟩)) = f b) (h : ∀ b w', St w0 w' (l ++ [(b, vs)]) → wpList P ops Q rest (f b) w') : wpList P ops Q (op :: rest) a w := by
  refine BigFrame.wpList_want hw fun K hK => ?_
  have e : (execOp a.eval op).run P w = .ok (.value (.pointer (some ⟨w.heap.size, 0, none⟩))) (w.alloc (.cells (List.toArray vs) ty)) := by
    unfold execOp
    rw [ho]
    dsimp only
    rw [hx]
    simp [Instr.box, newVar, newRow, go_sem, Value.cells]
  unfold Oper.wp
  rw [e]
  exact hK _ _ (by rw [hf]; exact h _ _ (hS.alloc (List.toArray vs) ty))
theorem wpl_alloc (hS : St w0 w l) (hw : Region.wanted op (yielded ops a.tmps) = true) (ty : TypeId) (ho : op.op = .alloc ty) (z : Value) (hz : (P.info? ty).map (·.zero) = some (some z))
    (f : Nat → Act) (hf : ∀ b, a.put op.dst (.pointer (some ⟨b, 0, none⟩)) = f b) (h : ∀ b w', St w0 w' (l ++ [(b, z.cells.toList)]) → wpList P ops Q rest (f b) w') : wpList P ops Q (op :: rest) a w := by
  refine BigFrame.wpList_want hw fun K hK => ?_
  have e : (execOp a.eval op).run P w = .ok (.value (.pointer (some ⟨w.heap.size, 0, none⟩))) (w.alloc (.cells z.cells ty)) := by
    unfold execOp
    rw [ho]
    cases hq : P.info? ty with
    | none => simp [hq] at hz
    | some i =>
      have hz' : i.zero = some z := by simpa [hq] using hz
      simp [Instr.alloc, zeroValue, typeInfo, hq, hz', newVar, newRow, go_sem]
  unfold Oper.wp
  rw [e]
  exact hK _ _ (by rw [hf]; exact h _ _ (hS.alloc z.cells ty))
theorem wpl_load (hS : St w0 w l) (k : Nat) (hw : Region.wanted op (yielded ops a.tmps) = true) (ty : TypeId) (x : Operand) (ho : op.op = .load ty x) (b o : Nat) (hx : a.eval x = .pointer (some ⟨b, o, none⟩)) (cs : List Value) (hk : l[k]? = some (b, cs)) (n : Nat) (hr : Row P ty n) (hn : (o + n).ble cs.length = true) (vs : List Value) (hvs : cutL cs o n = vs)
    (a' : Act) (ha : a.put op.dst (.agg vs.toArray) = a') (h : wpList P ops Q rest a' w) : wpList P ops Q (op :: rest) a w := by
  refine BigFrame.wpList_want hw fun K hK => ?_
  obtain ⟨d, hu, hd, hi⟩ := hr
  subst hvs ha
  have e : (execOp a.eval op).run P w = .ok (.value (.agg (cutL cs o n).toArray)) w := by
    unfold execOp
    rw [ho]
    simp [hx, run_load_st (P := P) (hS.get k hk) o ty n (Nat.le_of_ble_eq_true hn) d hu hd hi]
  unfold Oper.wp
  rw [e]
  exact hK _ _ h
theorem wpl_load1 (hS : St w0 w l) (k : Nat) (hw : Region.wanted op (yielded ops a.tmps) = true) (ty : TypeId) (x : Operand) (ho : op.op = .load ty x) (b o : Nat) (hx : a.eval x = .pointer (some ⟨b, o, none⟩)) (cs : List Value) (hk : l[k]? = some (b, cs)) (hr : One P ty) (v : Value) (hv : cs[o]? = some v)
    (a' : Act) (ha : a.put op.dst v = a') (h : wpList P ops Q rest a' w) : wpList P ops Q (op :: rest) a w := by
  refine BigFrame.wpList_want hw fun K hK => ?_
  obtain ⟨d, hu, hd⟩ := hr
  subst ha
  have e : (execOp a.eval op).run P w = .ok (.value v) w := by
    unfold execOp
    rw [ho]
    simp [hx, run_load1_st (P := P) (hS.get k hk) o ty v hv d hu hd]
  unfold Oper.wp
  rw [e]
  exact hK _ _ h
theorem wpl_store (hS : St w0 w l) (k : Nat) (hw : Region.wanted op (yielded ops a.tmps) = true) (ty : TypeId) (x y : Operand) (ho : op.op = .store ty x y) (b o : Nat) (hx : a.eval x = .pointer (some ⟨b, o, none⟩)) (cs : List Value) (hk : l[k]? = some (b, cs)) (v : Value) (hy : a.eval y = v)
    (vs : List Value) (hv : v.cells.toList = vs) (n : Nat) (hi : (P.info? ty).map (·.size) = some n) (hvn : vs.length = n) (hn : (o + vs.length).ble cs.length = true) (h1 : vs.all (·.oneCell') = true)
    (a' : Act) (ha : a.put op.dst undef = a') (h : ∀ w', St w0 w' (l.set k (b, blit cs o vs)) → wpList P ops Q rest a' w') : wpList P ops Q (op :: rest) a w := by
  refine BigFrame.wpList_want hw fun K hK => ?_
  subst ha
  have e : (execOp a.eval op).run P w = .ok .skip (w.setCells b o vs) := by
    unfold execOp
    rw [ho]
    simp [hx, hy, run_store_st (P := P) (hS.get k hk) o ty v vs hv (Nat.le_of_ble_eq_true hn) (hvn ▸ hi) h1]
  unfold Oper.wp
  rw [e]
  exact hK _ _ (h _ (hS.store k hk o vs))
theorem wpl_storeO (hS : St w0 w l) (k : Nat) (hw : Region.wanted op (yielded ops a.tmps) = true) (ty : TypeId) (x y : Operand) (ho : op.op = .store ty x y) (b o : Nat) (hx : a.eval x = .pointer (some ⟨b, o, none⟩)) (cs : List Value) (hk : l[k]? = some (b, cs)) (v : Value) (hy : a.eval y = v)
    (vs : List Value) (hv : v.cells.toList = vs) (n : Nat) (hi : (P.info? ty).map (·.size) = some n) (hvn : vs.length = n) (hn : (o + vs.length).ble cs.length = true) (h1 : vs.all (·.oneCell') = true)
    (a' : Act) (ha : a.put op.dst undef = a') (h : ∀ w', St w0 w' (l.set k (b, blit cs o vs)) → Off b b w w' → wpList P ops Q rest a' w') : wpList P ops Q (op :: rest) a w := by
  refine BigFrame.wpList_want hw fun K hK => ?_
  subst ha
  have e : (execOp a.eval op).run P w = .ok .skip (w.setCells b o vs) := by
    unfold execOp
    rw [ho]
    simp [hx, hy, run_store_st (P := P) (hS.get k hk) o ty v vs hv (Nat.le_of_ble_eq_true hn) (hvn ▸ hi) h1]
  unfold Oper.wp
  rw [e]
  exact hK _ _ (h _ (hS.store k hk o vs) ((Off.refl b b w).cells vs o))
def Sh (v : Value) (vs : List Value) : Prop := v.cells.toList = vs
theorem shA {v : Value} {vs : List Value} (h : v = .agg (List.toArray vs)) : Sh v vs := by subst h; rfl
theorem shI {v : Value} {k : IntKind} {i : Int} (h : v = .int k i) : Sh v [.int k i] := by subst h; rfl
theorem shB {v : Value} {b : Bool} (h : v = .bool b) : Sh v [.bool b] := by subst h; rfl
theorem shS {v : Value} {p : Option Addr} {n c : Nat} (h : v = .slice p n c) : Sh v [.slice p n c] := by subst h; rfl
theorem shP {v : Value} {p : Option Addr} (h : v = .pointer p) : Sh v [.pointer p] := by subst h; rfl
theorem shF {v : Value} {f : Fn} {x y : Array Value} (h : v = .func f x y) : Sh v [.func f x y] := by subst h; rfl
theorem shN {v : Value} (h : v = .nilFunc) : Sh v [.nilFunc] := by subst h; rfl
theorem wpl_ld (hS : St w0 w l) (hw : Region.wanted op (yielded ops a.tmps) = true) (ty : TypeId) (x : Operand) (ho : op.op = .load ty x) (b o : Nat) (hx : a.eval x = .pointer (some ⟨b, o, none⟩))
    (h : ∃ (k : Nat) (cs : List Value), l[k]? = some (b, cs) ∧ ((∃ v, One P ty ∧ cs[o]? = some v ∧ ∃ a', a.put op.dst v = a' ∧ wpList P ops Q rest a' w) ∨ ∃ n vs, Row P ty n ∧ (o + n).ble cs.length = true ∧ cutL cs o n = vs ∧ ∃ a', a.put op.dst (.agg vs.toArray) = a' ∧ wpList P ops Q rest a' w)) : wpList P ops Q (op :: rest) a w := by
  obtain ⟨k, cs, hk, ⟨v, h1, h2, a', ha, h⟩ | ⟨n, vs, h1, h2, h3, a', ha, h⟩⟩ := h
  · exact wpl_load1 hS k hw ty x ho b o hx cs hk h1 v h2 a' ha h
  · exact wpl_load hS k hw ty x ho b o hx cs hk n h1 h2 vs h3 a' ha h
theorem wpl_st (hS : St w0 w l) (hw : Region.wanted op (yielded ops a.tmps) = true) (ty : TypeId) (x y : Operand) (ho : op.op = .store ty x y) (hd : op.dst = none) (b o : Nat) (hx : a.eval x = .pointer (some ⟨b, o, none⟩))
    (h : ∃ (k : Nat) (cs : List Value), l[k]? = some (b, cs) ∧ ∃ vs, Sh (a.eval y) vs ∧ ∃ n, (P.info? ty).map (·.size) = some n ∧ vs.length = n ∧ (o + vs.length).ble cs.length = true ∧ vs.all (·.oneCell') = true ∧ ∀ w', St w0 w' (l.set k (b, blit cs o vs)) → wpList P ops Q rest a w') : wpList P ops Q (op :: rest) a w := by
  obtain ⟨k, cs, hk, vs, h1, n, h2, h3, h4, h5, h⟩ := h
  exact wpl_store hS k hw ty x y ho b o hx cs hk _ rfl vs h1 n h2 h3 h4 h5 a (by rw [hd]; rfl) h
theorem wpl_stO (hS : St w0 w l) (hw : Region.wanted op (yielded ops a.tmps) = true) (ty : TypeId) (x y : Operand) (ho : op.op = .store ty x y) (hd : op.dst = none) (b o : Nat) (hx : a.eval x = .pointer (some ⟨b, o, none⟩))
    (h : ∃ (k : Nat) (cs : List Value), l[k]? = some (b, cs) ∧ ∃ vs, Sh (a.eval y) vs ∧ ∃ n, (P.info? ty).map (·.size) = some n ∧ vs.length = n ∧ (o + vs.length).ble cs.length = true ∧ vs.all (·.oneCell') = true ∧ ∀ w', St w0 w' (l.set k (b, blit cs o vs)) → Off b b w w' → wpList P ops Q rest a w') : wpList P ops Q (op :: rest) a w := by
  obtain ⟨k, cs, hk, vs, h1, n, h2, h3, h4, h5, h⟩ := h
  exact wpl_storeO hS k hw ty x y ho b o hx cs hk _ rfl vs h1 n h2 h3 h4 h5 a (by rw [hd]; rfl) h
end
theorem St.add2 {w0 w w' : World} {l : List (Nat × List Value)} (h : St w0 w l) (b : Below w.heap.size w w') {g h' : Nat} {cs ds : List Value} (hg : BlkAt w' g cs) (hl : w.heap.size ≤ g) (hh : BlkAt w' h' ds) (hl' : w.heap.size ≤ h') (hne : g ≠ h') : St w0 w' (l ++ [(g, cs), (h', ds)]) := by
  have k := h.call b
  refine ⟨k.bel, fun p hp => ?_, fun p hp => ?_, ?_⟩
  · rcases List.mem_append.1 hp with e | e
    · exact h.low p e
    · rcases (by simpa using e : p = (g, cs) ∨ p = (h', ds)) with rfl | rfl
      · exact Nat.le_trans h.bel.size hl
      · exact Nat.le_trans h.bel.size hl'
  · rcases List.mem_append.1 hp with e | e
    · exact k.blk p e
    · rcases (by simpa using e : p = (g, cs) ∨ p = (h', ds)) with rfl | rfl
      · exact hg
      · exact hh
  · rw [List.pairwise_append]
    refine ⟨h.nd, by simpa using hne, fun p hp q hq => ?_⟩
    have := (h.blk p hp).lt
    rcases (by simpa using hq : q = (g, cs) ∨ q = (h', ds)) with rfl | rfl <;>
    · intro e
      simp at e
      omega
def memL (c : Um.Cf) (C : Nat) (m : Um.Mm) : List Value := [.int .i64 c.t, .int .i64 c.s, .int .i64 c.k, .int .i64 c.g, .int .u64 c.q, .slice (some ⟨C, 0, none⟩) c.n c.n, .int .i64 m.cnt, .int .i64 m.l.kind, .int .i64 m.l.a, .int .i64 m.l.b, .int .u64 m.l.old, .int .u64 m.l.new, .bool m.l.done]
theorem MemAt.blkB {W : World} {B C : Nat} {c : Um.Cf} {m : Um.Mm} (h : MemAt W B C c m) : BlkAt W B (memL c C m) := by
  refine ⟨h.hB, fun j v hv => ?_, h.fB⟩
  match j, hv with
  | 0, hv => cases hv; exact h.cf0
  | 1, hv => cases hv; exact h.cf1
  | 2, hv => cases hv; exact h.cf2
  | 3, hv => cases hv; exact h.cf3
  | 4, hv => cases hv; exact h.cf4
  | 5, hv => cases hv; exact h.sl
  | 6, hv => cases hv; exact h.ct
  | 7, hv => cases hv; exact h.l0
  | 8, hv => cases hv; exact h.l1
  | 9, hv => cases hv; exact h.l2
  | 10, hv => cases hv; exact h.l3
  | 11, hv => cases hv; exact h.l4
  | 12, hv => cases hv; exact h.l5
  | j + 13, hv => simp [memL] at hv
theorem MemAt.blkC {W : World} {B C : Nat} {c : Um.Cf} {m : Um.Mm} (h : MemAt W B C c m) : BlkAt W C (rowW m.ws c.n) := by
  refine ⟨h.hC, fun j v hv => ?_, h.fC⟩
  have hj : j < c.n := by have := (List.getElem?_eq_some_iff.1 hv).1; rwa [rowW_len] at this
  rw [rowW_get m.ws c.n j hj] at hv
  cases hv
  exact h.ws j hj
theorem memAt_of {W : World} {B C : Nat} {c : Um.Cf} {m : Um.Mm} (hB : BlkAt W B (memL c C m)) (hC : BlkAt W C (rowW m.ws c.n)) (hne : B ≠ C) (hr : c.r = true) (hw : ∀ j, j < c.n → Um.Word (m.ws j)) : MemAt W B C c m :=
  ⟨hB.lt, hC.lt, hne, hr, hB.cell 0 _ rfl, hB.cell 1 _ rfl, hB.cell 2 _ rfl, hB.cell 3 _ rfl, hB.cell 4 _ rfl, hB.cell 5 _ rfl, hB.cell 6 _ rfl, hB.cell 7 _ rfl, hB.cell 8 _ rfl, hB.cell 9 _ rfl, hB.cell 10 _ rfl, hB.cell 11 _ rfl, hB.cell 12 _ rfl, hB.fz, hC.fz, fun j hj => hC.cell j _ (rowW_get m.ws c.n j hj), hw⟩
theorem St.mem {w0 w w' : World} {l : List (Nat × List Value)} (h : St w0 w l) (i j : Nat) {B C : Nat} {cs cs' ds ds' : List Value} (hi : l[i]? = some (B, cs)) (hj : l[j]? = some (C, ds)) (ho : Off B C w w') (hB : BlkAt w' B cs') (hC : BlkAt w' C ds') : St w0 w' ((l.set i (B, cs')).set j (C, ds')) := by
  have lB := h.low _ (List.mem_of_getElem? hi)
  have lC := h.low _ (List.mem_of_getElem? hj)
  have hj' : ∃ ds0, (l.set i (B, cs'))[j]? = some (C, ds0) := by
    rw [List.getElem?_set]
    split
    · rename_i e
      subst e
      rw [hi] at hj
      cases hj
      exact ⟨cs', by simp [(List.getElem?_eq_some_iff.1 hi).1]⟩
    · exact ⟨ds, hj⟩
  obtain ⟨ds0, hj'⟩ := hj'
  refine ⟨h.bel.trans (ho.below h.bel.size lB lC), fun p hp => ?_, fun p hp => ?_, pairwise_set (pairwise_set h.nd hi) hj'⟩
  · rcases List.mem_or_eq_of_mem_set hp with e | e
    · rcases List.mem_or_eq_of_mem_set e with e | e
      · exact h.low p e
      · subst e; exact lB
    · subst e; exact lC
  · obtain ⟨k, hk⟩ := List.mem_iff_getElem?.1 hp
    rw [List.getElem?_set] at hk
    split at hk
    · split at hk
      · cases hk; exact hC
      · cases hk
    rename_i hne
    rw [List.getElem?_set] at hk
    split at hk
    · split at hk
      · cases hk; exact hB
      · cases hk
    rename_i hne'
    obtain ⟨h1, e1⟩ := List.getElem?_eq_some_iff.1 hk
    have key : ∀ (q : Nat) (b : Nat) (xs : List Value), l[q]? = some (b, xs) → q ≠ k → p.1 ≠ b := by
      intro q b xs hq hqk e
      obtain ⟨h2, e2⟩ := List.getElem?_eq_some_iff.1 hq
      rcases Nat.lt_or_gt_of_ne hqk with hlt | hlt
      · have := List.pairwise_iff_getElem.1 h.nd q k h2 h1 hlt
        rw [e1, e2] at this
        exact this e.symm
      · have := List.pairwise_iff_getElem.1 h.nd k q h1 h2 hlt
        rw [e1, e2] at this
        exact this e
    exact (h.blk p (List.mem_of_getElem? hk)).off ho (key i B cs hi hne') (key j C ds hj hne)
theorem St.addMem {w0 w w' : World} {l : List (Nat × List Value)} (h : St w0 w l) (b : Below w.heap.size w w') {B C : Nat} {c : Um.Cf} {m : Um.Mm} (hM : MemAt w' B C c m) (h1 : w.heap.size ≤ B) (h2 : w.heap.size ≤ C) : St w0 w' (l ++ [(B, memL c C m), (C, rowW m.ws c.n)]) :=
  h.add2 b hM.blkB h1 hM.blkC h2 hM.ne
end
section
set_option maxRecDepth 100000
open Go.RowKit Go.Sort
theorem row_cfg : Row Tryz.prog 24 5 := ⟨_, Tryz.underlying24, rfl, by kernel_rfl⟩
theorem row_rspot : Row Tryz.prog 31 2 := ⟨_, Tryz.underlying31, rfl, by kernel_rfl⟩
theorem row_rtch : Row Tryz.prog 33 6 := ⟨_, Tryz.underlying33, rfl, by kernel_rfl⟩
theorem row_rmem : Row Tryz.prog 35 13 := ⟨_, Tryz.underlying35, rfl, by kernel_rfl⟩
theorem row_spot : Row Tryz.prog 67 2 := ⟨_, Tryz.underlying67, rfl, by kernel_rfl⟩
theorem row_tch : Row Tryz.prog 113 6 := ⟨_, Tryz.underlying113, rfl, by kernel_rfl⟩
theorem one_int : One Tryz.prog 3 := ⟨_, Tryz.underlying3, rfl⟩
theorem one_u64 : One Tryz.prog 22 := ⟨_, Tryz.underlying22, rfl⟩
theorem one_bool : One Tryz.prog 4 := ⟨_, Tryz.underlying4, rfl⟩
theorem one_words : One Tryz.prog 25 := ⟨_, Tryz.underlying25, rfl⟩
theorem siz_cfg : (Tryz.prog.info? 24).map (·.size) = some 5 := by kernel_rfl
theorem siz_rspot : (Tryz.prog.info? 31).map (·.size) = some 2 := by kernel_rfl
theorem siz_rtch : (Tryz.prog.info? 33).map (·.size) = some 6 := by kernel_rfl
theorem siz_rmem : (Tryz.prog.info? 35).map (·.size) = some 13 := by kernel_rfl
theorem siz_spot : (Tryz.prog.info? 67).map (·.size) = some 2 := by kernel_rfl
theorem siz_tch : (Tryz.prog.info? 113).map (·.size) = some 6 := by kernel_rfl
theorem siz_int : (Tryz.prog.info? 3).map (·.size) = some 1 := by kernel_rfl
theorem siz_u64 : (Tryz.prog.info? 22).map (·.size) = some 1 := by kernel_rfl
theorem siz_bool : (Tryz.prog.info? 4).map (·.size) = some 1 := by kernel_rfl
theorem siz_words : (Tryz.prog.info? 25).map (·.size) = some 1 := by kernel_rfl
theorem zer_rspot : (Tryz.prog.info? 31).map (·.zero) = some (some (.agg #[.int .i64 0, .int .i64 0])) := by kernel_rfl
theorem zer_spot : (Tryz.prog.info? 67).map (·.zero) = some (some (.agg #[.int .i64 0, .int .i64 0])) := by kernel_rfl
theorem zer_cfg : (Tryz.prog.info? 24).map (·.zero) = some (some (.agg #[.int .i64 0, .int .i64 0, .int .i64 0, .int .i64 0, .int .u64 0])) := by kernel_rfl
theorem zer_rtch : (Tryz.prog.info? 33).map (·.zero) = some (some (.agg #[.int .i64 0, .int .i64 0, .int .i64 0, .int .u64 0, .int .u64 0, .bool false])) := by kernel_rfl
theorem zer_tch : (Tryz.prog.info? 113).map (·.zero) = some (some (.agg #[.int .i64 0, .int .i64 0, .int .i64 0, .int .u64 0, .int .u64 0, .bool false])) := by kernel_rfl
theorem zer_rmem : (Tryz.prog.info? 35).map (·.zero) = some (some (.agg #[.int .i64 0, .int .i64 0, .int .i64 0, .int .i64 0, .int .u64 0, .slice none 0 0, .int .i64 0, .int .i64 0, .int .i64 0, .int .i64 0, .int .u64 0, .int .u64 0, .bool false])) := by kernel_rfl
theorem look_mem {β : Type} {l : List (Nat × β)} {k : Nat} {v : β} (h : l.lookup k = some v) : (k, v) ∈ l := by
  induction l with
  | nil => cases h
  | cons x r ih =>
    obtain ⟨a, b⟩ := x
    simp only [List.lookup] at h
    split at h
    · rename_i e
      cases h
      rw [eq_of_beq e]
      exact List.mem_cons_self
    · exact List.mem_cons_of_mem _ (ih h)
def rowT : List (Nat × Nat) := [(35, 13), (33, 6), (31, 2), (24, 5), (67, 2), (113, 6)]
theorem row_all : ∀ p ∈ rowT, Row Tryz.prog p.1 p.2 := by
  intro p hp
  simp only [rowT, List.mem_cons, List.not_mem_nil, or_false] at hp
  rcases hp with rfl | rfl | rfl | rfl | rfl | rfl
  · exact row_rmem
  · exact row_rtch
  · exact row_rspot
  · exact row_cfg
  · exact row_spot
  · exact row_tch
theorem row_any {ty : Nat} {v : Nat} (h : rowT.lookup ty = some v) : Row Tryz.prog ty v := row_all (ty, v) (look_mem h)
def onuT : List (Nat × Unit) := [(3, ()), (22, ()), (4, ()), (25, ())]
theorem onu_all : ∀ p ∈ onuT, One Tryz.prog p.1 := by
  intro p hp
  simp only [onuT, List.mem_cons, List.not_mem_nil, or_false] at hp
  rcases hp with rfl | rfl | rfl | rfl
  · exact one_int
  · exact one_u64
  · exact one_bool
  · exact one_words
theorem onu_any {ty : Nat} {v : Unit} (h : onuT.lookup ty = some v) : One Tryz.prog ty := onu_all (ty, v) (look_mem h)
theorem one_any {ty : Nat} (h : onuT.lookup ty = some ()) : One Tryz.prog ty := onu_any h
def sizT : List (Nat × Nat) := [(35, 13), (33, 6), (31, 2), (24, 5), (67, 2), (113, 6), (3, 1), (22, 1), (4, 1), (25, 1)]
theorem siz_all : ∀ p ∈ sizT, (Tryz.prog.info? p.1).map (·.size) = some p.2 := by
  intro p hp
  simp only [sizT, List.mem_cons, List.not_mem_nil, or_false] at hp
  rcases hp with rfl | rfl | rfl | rfl | rfl | rfl | rfl | rfl | rfl | rfl
  · exact siz_rmem
  · exact siz_rtch
  · exact siz_rspot
  · exact siz_cfg
  · exact siz_spot
  · exact siz_tch
  · exact siz_int
  · exact siz_u64
  · exact siz_bool
  · exact siz_words
theorem siz_any {ty : Nat} {v : Nat} (h : sizT.lookup ty = some v) : (Tryz.prog.info? ty).map (·.size) = some v := siz_all (ty, v) (look_mem h)
def zerT : List (Nat × Value) := [(35, (.agg #[.int .i64 0, .int .i64 0, .int .i64 0, .int .i64 0, .int .u64 0, .slice none 0 0, .int .i64 0, .int .i64 0, .int .i64 0, .int .i64 0, .int .u64 0, .int .u64 0, .bool false])), (33, (.agg #[.int .i64 0, .int .i64 0, .int .i64 0, .int .u64 0, .int .u64 0, .bool false])), (31, (.agg #[.int .i64 0, .int .i64 0])), (24, (.agg #[.int .i64 0, .int .i64 0, .int .i64 0, .int .i64 0, .int .u64 0])), (67, (.agg #[.int .i64 0, .int .i64 0])), (113, (.agg #[.int .i64 0, .int .i64 0, .int .i64 0, .int .u64 0, .int .u64 0, .bool false]))]
theorem zer_all : ∀ p ∈ zerT, (Tryz.prog.info? p.1).map (·.zero) = some (some p.2) := by
  intro p hp
  simp only [zerT, List.mem_cons, List.not_mem_nil, or_false] at hp
  rcases hp with rfl | rfl | rfl | rfl | rfl | rfl
  · exact zer_rmem
  · exact zer_rtch
  · exact zer_rspot
  · exact zer_cfg
  · exact zer_spot
  · exact zer_tch
theorem zer_any {ty : Nat} {v : Value} (h : zerT.lookup ty = some v) : (Tryz.prog.info? ty).map (·.zero) = some (some v) := zer_all (ty, v) (look_mem h)
end
section
set_option maxRecDepth 100000
open Go.RowKit Go.Sort
theorem St.perm {w0 w : World} {l l' : List (Nat × List Value)} (h : St w0 w l) (e : List.Perm l l') : St w0 w l' :=
  ⟨h.bel, fun p hp => h.low p (e.mem_iff.2 hp), fun p hp => h.blk p (e.mem_iff.2 hp), (e.pairwise_iff (fun hab hba => hab hba.symm)).1 h.nd⟩
theorem perm_last {b x y : List (Nat × List Value)} (g : Nat × List Value) : List.Perm (b ++ [] ++ x ++ y ++ [g]) (b ++ [g] ++ x ++ y) := by
  simp only [List.append_nil, List.append_assoc]
  refine List.Perm.append_left b ?_
  rw [← List.append_assoc]
  exact List.perm_append_comm
theorem perm_mid {b x y : List (Nat × List Value)} (g : Nat × List Value) : List.Perm (b ++ x ++ [] ++ y ++ [g]) (b ++ x ++ [g] ++ y) := by
  simp only [List.append_nil, List.append_assoc]
  exact List.Perm.append_left b (List.Perm.append_left x List.perm_append_comm)
theorem St.sub {w0 w : World} {l l' : List (Nat × List Value)} (h : St w0 w l) (e : List.Sublist l' l) : St w0 w l' :=
  ⟨h.bel, fun p hp => h.low p (e.subset hp), fun p hp => h.blk p (e.subset hp), h.nd.sublist e⟩
theorem cond_at {b : Bool} {x y z : Value} (h : b = true) (hx : x = z) : cond b x y = z := by rw [h]; exact hx
theorem list2_eq {a a' b b' : Value} (h : a = a') (k : b = b') : [a, b] = [a', b'] := by rw [h, k]
theorem list5_eq {a a' b b' c c' d d' e e' : Value} (h1 : a = a') (h2 : b = b') (h3 : c = c') (h4 : d = d') (h5 : e = e') : [a, b, c, d, e] = [a', b', c', d', e'] := by rw [h1, h2, h3, h4, h5]
theorem og_not {p q : Bool} (h : p = true → q = true) (hq : q = false) : p = false := by
  cases p with
  | false => rfl
  | true => rw [h rfl] at hq; cases hq
section
variable {P : Program} {ops : Array Oper} {o : Oper} {a : Act} {w w0 : World} {K : Act → World → Prop} {Q : Exit → Act → World → Prop} {E : Prop} {l : List (Nat × List Value)} {S : World → Prop}
theorem stp_alloc (hS : St w0 w l) (hw : Region.wanted o (yielded ops a.tmps) = true) (ty : TypeId) (ho : o.op = .alloc ty) (z : Value) (hz : (P.info? ty).map (·.zero) = some (some z)) (zs : List Value) (hzs : z.cells.toList = zs)
    (d : Option Tmp) (hd : o.dst = d) (f : Nat → Act) (hf : ∀ b, a.put d (.pointer (some ⟨b, 0, none⟩)) = f b) (h : ∀ b w', St w0 w' (l ++ [(b, zs)]) → K (f b) w') : if Region.wanted o (yielded ops a.tmps) = true then Oper.wp P o a w K Q else E := by
  rw [if_pos hw]
  have e : (execOp a.eval o).run P w = .ok (.value (.pointer (some ⟨w.heap.size, 0, none⟩))) (w.alloc (.cells z.cells ty)) := by
    unfold execOp
    rw [ho]
    cases hq : P.info? ty with
    | none => simp [hq] at hz
    | some i =>
      have hz' : i.zero = some z := by simpa [hq] using hz
      simp [Instr.alloc, zeroValue, typeInfo, hq, hz', newVar, newRow, go_sem]
  unfold Oper.wp
  rw [e]
  subst hzs hd
  show K (a.put o.dst _) _
  rw [hf]
  exact h _ _ (hS.alloc z.cells ty)
theorem stp_store (hS : St w0 w l) (k : Nat) (hw : Region.wanted o (yielded ops a.tmps) = true) (ty : TypeId) (x y : Operand) (ho : o.op = .store ty x y) (b off : Nat) (hx : a.eval x = .pointer (some ⟨b, off, none⟩)) (cs : List Value) (hk : l[k]? = some (b, cs)) (vs : List Value) (hy : a.eval y = .agg (List.toArray vs))
    (n : Nat) (hi : (P.info? ty).map (·.size) = some n) (hvn : vs.length = n) (hn : (off + vs.length).ble cs.length = true) (h1 : vs.all (·.oneCell') = true)
    (hd : o.dst = none) (h : ∀ w', St w0 w' (l.set k (b, blit cs off vs)) → K a w') : if Region.wanted o (yielded ops a.tmps) = true then Oper.wp P o a w K Q else E := by
  rw [if_pos hw]
  have e : (execOp a.eval o).run P w = .ok .skip (w.setCells b off vs) := by
    unfold execOp
    rw [ho]
    simp [hx, hy, run_store_st (P := P) (hS.get k hk) off ty (.agg (List.toArray vs)) vs rfl (Nat.le_of_ble_eq_true hn) (hvn ▸ hi) h1]
  unfold Oper.wp
  rw [e]
  show K (a.put o.dst _) _
  rw [hd]
  exact h _ (hS.store k hk off vs)
theorem stp_call (hw : Region.wanted o (yielded ops a.tmps) = true) (f : FuncId) (ys : List Operand) (ts : Array TypeId) (ho : o.op = .call { callee := .value (.func f), args := List.toArray ys, argTypes := ts }) (eg : ∀ args w, (callFunc f args).run P w = .ok (.enter f args) w) (args : List Value) (hargs : ys.map a.eval = args)
    (d : Option Tmp) (hd : o.dst = d) (h : Calls P f (List.toArray args) w fun e w' => ∃ v, e = .returned v ∧ K (a.put d v) w') : if Region.wanted o (yielded ops a.tmps) = true then Oper.wp P o a w K Q else E := by
  rw [if_pos hw]
  have e : (execOp a.eval o).run P w = .ok (.enter f (List.toArray args)) w := by
    unfold execOp
    rw [ho]
    subst hargs
    simp [resolve, invoke, eg, go_sem]
  unfold Oper.wp
  rw [e]
  refine h.mono ?_
  rintro e w' ⟨v, rfl, hk⟩
  rw [← hd] at hk
  exact hk
theorem yif_moveI (hw : Region.wanted o (yielded ops a.tmps) = true) (x : Operand) (ho : o.op = .move x ∨ o.op = .assign x) (kk : IntKind) (ii : Int) (hx : a.eval x = .int kk ii) : YieldsIf P ops S o (.int kk ii) a :=
  .inl ⟨hw, fun w _ => by unfold execOp; rcases ho with ho | ho <;> (rw [ho]; simp [hx])⟩
theorem yif_moveB (hw : Region.wanted o (yielded ops a.tmps) = true) (x : Operand) (ho : o.op = .move x ∨ o.op = .assign x) (bb : Bool) (hx : a.eval x = .bool bb) : YieldsIf P ops S o (.bool bb) a :=
  .inl ⟨hw, fun w _ => by unfold execOp; rcases ho with ho | ho <;> (rw [ho]; simp [hx])⟩
theorem yif_mv (hw : Region.wanted o (yielded ops a.tmps) = true) (x : Operand) (ho : o.op = .move x) (v : Value) (hx : a.eval x = v) : YieldsIf P ops S o v a :=
  .inl ⟨hw, fun w _ => by unfold execOp; rw [ho]; simp [hx]⟩
theorem yif_load (hw : Region.wanted o (yielded ops a.tmps) = true) (ty : TypeId) (x : Operand) (ho : o.op = .load ty x) (b off : Nat) (hx : a.eval x = .pointer (some ⟨b, off, none⟩)) (cs : List Value) (hS : ∀ w, S w → BlkAt w b cs) (n : Nat) (hr : Row P ty n) (hn : (off + n).ble cs.length = true) (vs : List Value) (hvs : cutL cs off n = vs) : YieldsIf P ops S o (.agg vs.toArray) a := by
  obtain ⟨d, hu, hd, hi⟩ := hr
  subst hvs
  exact .inl ⟨hw, fun w h => by unfold execOp; rw [ho]; simp [hx, run_load_st (P := P) (hS w h) off ty n (Nat.le_of_ble_eq_true hn) d hu hd hi]⟩
theorem yif_load1 (hw : Region.wanted o (yielded ops a.tmps) = true) (ty : TypeId) (x : Operand) (ho : o.op = .load ty x) (b off : Nat) (hx : a.eval x = .pointer (some ⟨b, off, none⟩)) (cs : List Value) (hS : ∀ w, S w → BlkAt w b cs) (hr : One P ty) (v : Value) (hv : cs[off]? = some v) : YieldsIf P ops S o v a := by
  obtain ⟨d, hu, hd⟩ := hr
  exact .inl ⟨hw, fun w h => by unfold execOp; rw [ho]; simp [hx, run_load1_st (P := P) (hS w h) off ty v hv d hu hd]⟩
theorem yif_extract (hw : Region.wanted o (yielded ops a.tmps) = true) (x : Operand) (i : Nat) (ho : o.op = .extract x i) (vs : List Value) (hx : a.eval x = .tuple (List.toArray vs)) (v : Value) (hv : vs[i]? = some v) : YieldsIf P ops S o v a :=
  .inl ⟨hw, fun w _ => by
    unfold execOp
    rw [ho]
    dsimp only
    rw [hx]
    simp [Instr.extract, hv]⟩
theorem held_take {md : Region.Mode} {i : Nat} {oi : Oper} {v : Value} {fuel : Nat} {listed : Array Bool} (hi : ops[i]? = some oi)
    (hs : Region.noSelect ops = true) (hf : Region.free md ops listed i = true) (hr : (Region.ready md ops listed).contains i = true)
    (hQ : ∀ c a w, Q (.panic c) (a.put oi.dst v) w → Q (.panic c) a w) (hy : YieldsIf P ops S oi v a) (hS : S w) (d : Option Tmp) (hd : oi.dst = d) (a' : Act) (ha : a.put d v = a')
    (h : wpAnyH P md ops Q S fuel (listed.setIfInBounds i true) a' w) : wpAnyH P md ops Q S (fuel + 1) listed a w := by
  subst hd ha
  exact wpAnyH_take hi hs hf hr hQ hy hS h
theorem stp_val {v : Value} (hw : Region.wanted o (yielded ops a.tmps) = true) (hy : YieldsIf P ops (fun q => q = w) o v a) {d : Option Tmp} (hd : o.dst = d) (h : K (a.put d v) w) : if Region.wanted o (yielded ops a.tmps) = true then Oper.wp P o a w K Q else E := by
  rw [if_pos hw]
  rcases hy with ⟨_, hv⟩ | ⟨hn, _⟩
  · unfold Oper.wp
    rw [hv w rfl]
    subst hd
    exact h
  · rw [hn] at hw
    cases hw
theorem yif_by (hw : Region.wanted o (yielded ops a.tmps) = true) (v : Value) (h : ∀ w, (execOp a.eval o).run P w = .ok (.value v) w) : YieldsIf P ops S o v a := .inl ⟨hw, fun w _ => h w⟩
end
end
section
set_option maxRecDepth 100000
open Go.RowKit Go.Sort
structure Turn (bs : List Nat) (w w' : World) : Prop where
  os : w'.os = w.os
  tape : w'.tape = w.tape
  output : w'.output = w.output
  size : w.heap.size ≤ w'.heap.size
  block : ∀ k, k < w.heap.size → k ∉ bs → w'.heap[k]? = w.heap[k]?
theorem Turn.refl (bs : List Nat) (w : World) : Turn bs w w := ⟨rfl, rfl, rfl, Nat.le_refl _, fun _ _ _ => rfl⟩
theorem Turn.trans {bs : List Nat} {a b c : World} (h : Turn bs a b) (k : Turn bs b c) : Turn bs a c :=
  ⟨k.os.trans h.os, k.tape.trans h.tape, k.output.trans h.output, Nat.le_trans h.size k.size, fun i hi h1 => (k.block i (Nat.lt_of_lt_of_le hi h.size) h1).trans (h.block i hi h1)⟩
theorem Turn.of_below {bs : List Nat} {w w' : World} (h : Below w.heap.size w w') : Turn bs w w' := ⟨h.os, h.tape, h.output, h.size, fun k hk _ => h.block k hk⟩
theorem Turn.below {w w' : World} (h : Turn [] w w') : Below w.heap.size w w' := ⟨h.os, h.tape, h.output, h.size, fun k hk => h.block k hk (by simp)⟩
theorem Turn.of_off {B C : Nat} {w w' : World} (h : Off B C w w') : Turn [B, C] w w' := ⟨h.os, h.tape, h.output, h.size, fun k hk hn => h.block k hk (fun e => hn (by simp [e])) (fun e => hn (by simp [e]))⟩
theorem Turn.of_off1 {B : Nat} {w w' : World} (h : Off B B w w') : Turn [B] w w' := ⟨h.os, h.tape, h.output, h.size, fun k hk hn => h.block k hk (fun e => hn (by simp [e])) (fun e => hn (by simp [e]))⟩
theorem Turn.drew {bs : List Nat} {a w : World} (h : Turn bs a w) : Turn bs a w.drew := ⟨h.os, h.tape, h.output, h.size, h.block⟩
theorem Turn.widen {bs bs' : List Nat} {a b c : World} (h : Turn bs a b) (k : Turn bs' b c) (hs : ∀ x ∈ bs', x ∈ bs ∨ a.heap.size ≤ x) : Turn bs a c :=
  ⟨k.os.trans h.os, k.tape.trans h.tape, k.output.trans h.output, Nat.le_trans h.size k.size, fun i hi h1 => (k.block i (Nat.lt_of_lt_of_le hi h.size) (fun hm => by rcases hs i hm with e | e <;> first | exact h1 e | omega)).trans (h.block i hi h1)⟩
theorem BlkAt.turn {w w' : World} {bs : List Nat} {g : Nat} {cs : List Value} (h : BlkAt w g cs) (t : Turn bs w w') (hn : g ∉ bs) : BlkAt w' g cs := h.kept t.size (t.block g h.lt hn)
structure Sx (bs : List Nat) (w0 w : World) (l e : List (Nat × List Value)) : Prop where
  off : Turn bs w0 w
  low : ∀ p ∈ l, p.1 ∈ bs ∨ w0.heap.size ≤ p.1
  blk : ∀ p ∈ l, BlkAt w p.1 p.2
  nd : l.Pairwise (fun p q => p.1 ≠ q.1)
  eb : ∀ p ∈ e, BlkAt w p.1 p.2
  ed : ∀ p ∈ e, ∀ q ∈ l, p.1 ≠ q.1
section
variable {bs : List Nat} {w0 w w' : World} {l e : List (Nat × List Value)}
theorem Sx.new (w : World) : Sx [] w w [] [] := ⟨Turn.refl _ _, by simp, by simp, List.Pairwise.nil, by simp, by simp⟩
theorem Sx.read (w : World) (e : List (Nat × List Value)) (h : ∀ p ∈ e, BlkAt w p.1 p.2) : Sx [] w w [] e := ⟨Turn.refl _ _, by simp, by simp, List.Pairwise.nil, h, by simp⟩
theorem Sx.start (l e : List (Nat × List Value)) (h : ∀ p ∈ l, BlkAt w p.1 p.2) (nd : l.Pairwise (fun p q => p.1 ≠ q.1)) (he : ∀ p ∈ e, BlkAt w p.1 p.2) (ed : ∀ p ∈ e, ∀ q ∈ l, p.1 ≠ q.1) : Sx (l.map (·.1)) w w l e :=
  ⟨Turn.refl _ _, fun _ hp => .inl (List.mem_map_of_mem hp), h, nd, he, ed⟩
theorem Sx.enter (h : Sx bs w0 w l e) (l' e' : List (Nat × List Value)) (hl : ∀ p ∈ l', p ∈ l) (nd : l'.Pairwise (fun p q => p.1 ≠ q.1)) (he : ∀ p ∈ e', p ∈ e) : Sx (l'.map (·.1)) w w l' e' :=
  Sx.start l' e' (fun p hp => h.blk p (hl p hp)) nd (fun p hp => h.eb p (he p hp)) (fun p hp q hq => h.ed p (he p hp) q (hl q hq))
theorem Sx.get (h : Sx bs w0 w l e) (k : Nat) {b : Nat} {cs : List Value} (hk : l[k]? = some (b, cs)) : BlkAt w b cs := h.blk (b, cs) (List.mem_of_getElem? hk)
theorem Sx.getE (h : Sx bs w0 w l e) (k : Nat) {b : Nat} {cs : List Value} (hk : e[k]? = some (b, cs)) : BlkAt w b cs := h.eb (b, cs) (List.mem_of_getElem? hk)
theorem Sx.ne (h : Sx bs w0 w l e) (i j : Nat) {b b' : Nat} {cs cs' : List Value} (hi : l[i]? = some (b, cs)) (hj : l[j]? = some (b', cs')) (hij : i ≠ j) : b ≠ b' := by
  obtain ⟨h1, e1⟩ := List.getElem?_eq_some_iff.1 hi
  obtain ⟨h2, e2⟩ := List.getElem?_eq_some_iff.1 hj
  rcases Nat.lt_or_gt_of_ne hij with hlt | hlt
  · have := List.pairwise_iff_getElem.1 h.nd i j h1 h2 hlt
    rwa [e1, e2] at this
  · have := List.pairwise_iff_getElem.1 h.nd j i h2 h1 hlt
    rw [e1, e2] at this
    exact fun e => this e.symm
theorem Sx.size (h : Sx bs w0 w l e) : w0.heap.size ≤ w.heap.size := h.off.size
theorem Sx.bel (h : Sx [] w0 w l e) : Below w0.heap.size w0 w := h.off.below
theorem Sx.call (h : Sx bs w0 w l e) (b : Below w.heap.size w w') : Sx bs w0 w' l e :=
  ⟨h.off.trans (Turn.of_below b), h.low, fun p hp => (h.blk p hp).below b, h.nd, fun p hp => (h.eb p hp).below b, h.ed⟩
theorem Sx.drew (h : Sx bs w0 w l e) : Sx bs w0 w.drew l e := ⟨h.off.drew, h.low, fun p hp => (h.blk p hp).drew, h.nd, fun p hp => (h.eb p hp).drew, h.ed⟩
theorem Sx.undrew (h : Sx bs w0 w l e) (b : Below w.drew.heap.size w.drew w') : Sx bs w0 w' l e := h.call (below_undrew b)
theorem Sx.adds (h : Sx bs w0 w l e) (b : Below w.heap.size w w') (n : List (Nat × List Value)) (hg : ∀ p ∈ n, BlkAt w' p.1 p.2) (hl : ∀ p ∈ n, w.heap.size ≤ p.1) (hn : n.Pairwise (fun p q => p.1 ≠ q.1)) : Sx bs w0 w' (l ++ n) e := by
  have h' := h.call b
  refine ⟨h'.off, fun p hp => ?_, fun p hp => ?_, ?_, h'.eb, fun p hp q hq => ?_⟩
  · rcases List.mem_append.1 hp with e | e
    · exact h.low p e
    · exact .inr (Nat.le_trans h.size (hl p e))
  · rcases List.mem_append.1 hp with e | e
    · exact h'.blk p e
    · exact hg p e
  · rw [List.pairwise_append]
    refine ⟨h.nd, hn, fun p hp q hq => ?_⟩
    have := (h.blk p hp).lt
    have := hl q hq
    omega
  · rcases List.mem_append.1 hq with e | e
    · exact h.ed p hp q e
    · have := (h.eb p hp).lt
      have := hl q e
      omega
theorem Sx.add (h : Sx bs w0 w l e) (b : Below w.heap.size w w') {g : Nat} {cs : List Value} (hg : BlkAt w' g cs) (hl : w.heap.size ≤ g) : Sx bs w0 w' (l ++ [(g, cs)]) e :=
  h.adds b [(g, cs)] (fun p hp => by obtain rfl : p = _ := by simpa using hp
                                     exact hg) (fun p hp => by obtain rfl : p = _ := by simpa using hp
                                                               exact hl) (List.pairwise_singleton _ _)
theorem Sx.addE (h : Sx bs w0 w l e) (b : Below w.heap.size w w') {g : Nat} {cs : List Value} (hg : BlkAt w' g cs) (hl : w.heap.size ≤ g) : Sx bs w0 w' l (e ++ [(g, cs)]) := by
  have h' := h.call b
  refine ⟨h'.off, h'.low, h'.blk, h'.nd, fun p hp => ?_, fun p hp q hq => ?_⟩
  · rcases List.mem_append.1 hp with e | e
    · exact h'.eb p e
    · obtain rfl : p = _ := by simpa using e
      exact hg
  · rcases List.mem_append.1 hp with e | e
    · exact h.ed p e q hq
    · obtain rfl : p = _ := by simpa using e
      have := (h.blk q hq).lt
      show g ≠ q.1
      omega
theorem Sx.shelve {g : Nat} {cs : List Value} (h : Sx bs w0 w (l ++ [(g, cs)]) e) : Sx bs w0 w l (e ++ [(g, cs)]) := by
  have hp := List.pairwise_append.1 h.nd
  refine ⟨h.off, fun p hp => h.low p (List.mem_append_left _ hp), fun p hp => h.blk p (List.mem_append_left _ hp), hp.1, fun p hq => ?_, fun p hq q hr => ?_⟩
  · rcases List.mem_append.1 hq with e | e
    · exact h.eb p e
    · obtain rfl : p = _ := by simpa using e
      exact h.blk _ (by simp)
  · rcases List.mem_append.1 hq with e | e
    · exact h.ed p e q (List.mem_append_left _ hr)
    · obtain rfl : p = _ := by simpa using e
      exact fun e => hp.2.2 q hr (g, cs) (by simp) e.symm
theorem Sx.alloc (h : Sx bs w0 w l e) (cs : Array Value) (t : TypeId) : Sx bs w0 (w.alloc (.cells cs t)) (l ++ [(w.heap.size, cs.toList)]) e :=
  h.add ((Below.refl _ _).alloc (Nat.le_refl _) _) (blkAt_new (heap_alloc_new _ _)) (Nat.le_refl _)
theorem Sx.take (h : Sx bs w0 w l e) (n : Nat) : Sx bs w0 w (l.take n) e :=
  have s := List.take_sublist n l
  ⟨h.off, fun p hp => h.low p (s.subset hp), fun p hp => h.blk p (s.subset hp), h.nd.sublist s, h.eb, fun p hp q hq => h.ed p hp q (s.subset hq)⟩
def putL (l : List (Nat × List Value)) : List (Nat × Nat × List Value) → List (Nat × List Value)
  | [] => l
  | u :: r => putL (l.set u.1 (u.2.1, u.2.2)) r
theorem putL_mem (us : List (Nat × Nat × List Value)) : ∀ (l : List (Nat × List Value)) (p : Nat × List Value), p ∈ putL l us → (∃ u ∈ us, p = (u.2.1, u.2.2)) ∨ ∃ k, l[k]? = some p ∧ ∀ u ∈ us, u.1 ≠ k := by
  induction us with
  | nil =>
    intro l p hp
    obtain ⟨k, hk⟩ := List.mem_iff_getElem?.1 hp
    exact .inr ⟨k, hk, by simp⟩
  | cons u r ih =>
    intro l p hp
    rcases ih _ p hp with ⟨v, hv, e⟩ | ⟨k, hk, hn⟩
    · exact .inl ⟨v, List.mem_cons_of_mem _ hv, e⟩
    · rw [List.getElem?_set] at hk
      split at hk
      · split at hk
        · cases hk
          exact .inl ⟨u, by simp, rfl⟩
        · cases hk
      · rename_i hne
        refine .inr ⟨k, hk, fun v hv => ?_⟩
        rcases List.mem_cons.1 hv with rfl | hv
        · exact hne
        · exact hn v hv
theorem putL_fst (us : List (Nat × Nat × List Value)) : ∀ (l : List (Nat × List Value)), (∀ u ∈ us, ∃ cs, l[u.1]? = some (u.2.1, cs)) → (putL l us).map (·.1) = l.map (·.1) := by
  induction us with
  | nil => intro l _; rfl
  | cons u r ih =>
    intro l h
    have e : (l.set u.1 (u.2.1, u.2.2)).map (·.1) = l.map (·.1) := by
      obtain ⟨cs, hk⟩ := h u (by simp)
      apply List.ext_getElem?
      intro i
      simp only [List.getElem?_map, List.getElem?_set]
      split
      · rename_i e
        subst e
        have hk' := (List.getElem?_eq_some_iff.1 hk).1
        have e := (List.getElem?_eq_some_iff.1 hk).2
        simp [hk', e]
      · rfl
    refine (ih _ fun v hv => ?_).trans e
    obtain ⟨cs, hk⟩ := h v (List.mem_cons_of_mem _ hv)
    have hq : ((l.set u.1 (u.2.1, u.2.2)).map (·.1))[v.1]? = some v.2.1 := by rw [e]; simp [hk]
    simp only [List.getElem?_map] at hq
    cases hx : (l.set u.1 (u.2.1, u.2.2))[v.1]? with
    | none => rw [hx] at hq; cases hq
    | some y =>
      rw [hx] at hq
      simp at hq
      exact ⟨y.2, by rw [← hq]⟩
theorem Sx.mix (h : Sx bs w0 w l e) (us : List (Nat × Nat × List Value)) (hu : ∀ u ∈ us, ∃ cs, l[u.1]? = some (u.2.1, cs)) (t : Turn (us.map (·.2.1)) w w') (hb : ∀ u ∈ us, BlkAt w' u.2.1 u.2.2)
    (k : Nat) {g g' : Nat} {cs cs' : List Value} (hk : e[k]? = some (g, cs)) (hg : g' = g ∨ w.heap.size ≤ g') (hg' : BlkAt w' g' cs') : Sx bs w0 w' (putL l us) (e.set k (g', cs')) := by
  have hin : ∀ x ∈ us.map (·.2.1), ∃ q ∈ l, q.1 = x := by
    intro x hx
    obtain ⟨u, hu', rfl⟩ := List.mem_map.1 hx
    obtain ⟨cs, hk⟩ := hu u hu'
    exact ⟨_, List.mem_of_getElem? hk, rfl⟩
  have hen : ∀ p ∈ e, p.1 ∉ us.map (·.2.1) := by
    intro p hp hx
    obtain ⟨q, hq, e⟩ := hin _ hx
    exact h.ed p hp q hq e.symm
  have hmem : ∀ p ∈ putL l us, ∃ q ∈ l, q.1 = p.1 := by
    intro p hp
    have : p.1 ∈ (putL l us).map (·.1) := List.mem_map_of_mem hp
    rw [putL_fst us l hu] at this
    obtain ⟨q, hq, e⟩ := List.mem_map.1 this
    exact ⟨q, hq, e⟩
  refine ⟨h.off.widen t fun x hx => ?_, fun p hp => ?_, fun p hp => ?_, ?_, fun p hp => ?_, fun p hp q hq => ?_⟩
  · obtain ⟨q, hq, rfl⟩ := hin x hx
    exact h.low q hq
  · obtain ⟨q, hq, e⟩ := hmem p hp
    rw [← e]
    exact h.low q hq
  · rcases putL_mem us l p hp with ⟨u, hu', rfl⟩ | ⟨i, hi, hn⟩
    · exact hb u hu'
    · refine (h.blk p (List.mem_of_getElem? hi)).turn t fun hx => ?_
      obtain ⟨u, hu', e⟩ := List.mem_map.1 hx
      obtain ⟨cs, hk⟩ := hu u hu'
      exact h.ne (cs := cs) (cs' := p.2) u.1 i hk hi (hn u hu') e
  · have : ((putL l us).map (·.1)).Pairwise (· ≠ ·) := by rw [putL_fst us l hu, List.pairwise_map]; exact h.nd
    rw [List.pairwise_map] at this
    exact this
  · rcases List.mem_or_eq_of_mem_set hp with hp | rfl
    · exact (h.eb p hp).turn t (hen p hp)
    · exact hg'
  · obtain ⟨r, hr, er⟩ := hmem q hq
    rw [← er]
    rcases List.mem_or_eq_of_mem_set hp with hp | rfl
    · exact h.ed p hp r hr
    · rcases hg with rfl | hg
      · exact h.ed _ (List.mem_of_getElem? hk) r hr
      · have := (h.blk r hr).lt
        show g' ≠ r.1
        omega
theorem Sx.sets (h : Sx bs w0 w l e) (us : List (Nat × Nat × List Value)) (hu : ∀ u ∈ us, ∃ cs, l[u.1]? = some (u.2.1, cs)) (t : Turn (us.map (·.2.1)) w w') (hb : ∀ u ∈ us, BlkAt w' u.2.1 u.2.2) : Sx bs w0 w' (putL l us) e := by
  have hin : ∀ x ∈ us.map (·.2.1), ∃ q ∈ l, q.1 = x := by
    intro x hx
    obtain ⟨u, hu', rfl⟩ := List.mem_map.1 hx
    obtain ⟨cs, hk⟩ := hu u hu'
    exact ⟨_, List.mem_of_getElem? hk, rfl⟩
  have hen : ∀ p ∈ e, p.1 ∉ us.map (·.2.1) := by
    intro p hp hx
    obtain ⟨q, hq, e⟩ := hin _ hx
    exact h.ed p hp q hq e.symm
  have hmem : ∀ p ∈ putL l us, ∃ q ∈ l, q.1 = p.1 := by
    intro p hp
    have : p.1 ∈ (putL l us).map (·.1) := List.mem_map_of_mem hp
    rw [putL_fst us l hu] at this
    obtain ⟨q, hq, e⟩ := List.mem_map.1 this
    exact ⟨q, hq, e⟩
  refine ⟨h.off.widen t fun x hx => ?_, fun p hp => ?_, fun p hp => ?_, ?_, fun p hp => (h.eb p hp).turn t (hen p hp), fun p hp q hq => ?_⟩
  · obtain ⟨q, hq, rfl⟩ := hin x hx
    exact h.low q hq
  · obtain ⟨q, hq, e⟩ := hmem p hp
    rw [← e]
    exact h.low q hq
  · rcases putL_mem us l p hp with ⟨u, hu', rfl⟩ | ⟨i, hi, hn⟩
    · exact hb u hu'
    · refine (h.blk p (List.mem_of_getElem? hi)).turn t fun hx => ?_
      obtain ⟨u, hu', e⟩ := List.mem_map.1 hx
      obtain ⟨cs, hk⟩ := hu u hu'
      exact h.ne (cs := cs) (cs' := p.2) u.1 i hk hi (hn u hu') e
  · have : ((putL l us).map (·.1)).Pairwise (· ≠ ·) := by rw [putL_fst us l hu, List.pairwise_map]; exact h.nd
    rw [List.pairwise_map] at this
    exact this
  · obtain ⟨r, hr, er⟩ := hmem q hq
    rw [← er]
    exact h.ed p hp r hr
theorem Sx.ref (h : Sx bs w0 w l e) (b : Below w.heap.size w w') (k : Nat) {g g' : Nat} {cs cs' : List Value} (hk : e[k]? = some (g, cs)) (hg : g' = g ∨ w.heap.size ≤ g') (hg' : BlkAt w' g' cs') : Sx bs w0 w' l (e.set k (g', cs')) :=
  h.mix [] (by simp) (Turn.of_below b) (by simp) k hk hg hg'
theorem Sx.store (h : Sx bs w0 w l e) (k : Nat) {b : Nat} {cs : List Value} (hk : l[k]? = some (b, cs)) (o : Nat) (vs : List Value) : Sx bs w0 (w.setCells b o vs) (l.set k (b, blit cs o vs)) e :=
  h.sets [(k, b, blit cs o vs)] (fun u hu => by obtain rfl : u = _ := by simpa using hu
                                                exact ⟨cs, hk⟩) (Turn.of_off1 ((Off.refl b b w).cells vs o)) (fun u hu => by obtain rfl : u = _ := by simpa using hu
                                                                                                                             exact (h.get k hk).cells vs o)
end
section
variable {P : Program} {ops : Array Oper} {rest : List Oper} {op : Oper} {a : Act} {bs : List Nat} {w w0 : World} {Q : Exit → Act → World → Prop} {l e : List (Nat × List Value)}
theorem wpx_box (hS : Sx bs w0 w l e) (hw : Region.wanted op (yielded ops a.tmps) = true) (ty : TypeId) (x : Operand) (ho : op.op = .box ty x) (vs : List Value) (hx : a.eval x = .agg (List.toArray vs))
    (f : Nat → Act) (hf : ∀ b, a.put op.dst (.pointer (some ⟨b, 0, none⟩)) = f b) (h : ∀ b w', Sx bs w0 w' (l ++ [(b, vs)]) e → wpList P ops Q rest (f b) w') : wpList P ops Q (op :: rest) a w := by
  refine BigFrame.wpList_want hw fun K hK => ?_
  have e : (execOp a.eval op).run P w = .ok (.value (.pointer (some ⟨w.heap.size, 0, none⟩))) (w.alloc (.cells (List.toArray vs) ty)) := by
    unfold execOp
    rw [ho]
    dsimp only
    rw [hx]
    simp [Instr.box, newVar, newRow, go_sem, Value.cells]
  unfold Oper.wp
  rw [e]
  exact hK _ _ (by rw [hf]; exact h _ _ (hS.alloc (List.toArray vs) ty))
theorem wpx_alloc (hS : Sx bs w0 w l e) (hw : Region.wanted op (yielded ops a.tmps) = true) (ty : TypeId) (ho : op.op = .alloc ty) (z : Value) (hz : (P.info? ty).map (·.zero) = some (some z))
    (f : Nat → Act) (hf : ∀ b, a.put op.dst (.pointer (some ⟨b, 0, none⟩)) = f b) (h : ∀ b w', Sx bs w0 w' (l ++ [(b, z.cells.toList)]) e → wpList P ops Q rest (f b) w') : wpList P ops Q (op :: rest) a w := by
  refine BigFrame.wpList_want hw fun K hK => ?_
  have e : (execOp a.eval op).run P w = .ok (.value (.pointer (some ⟨w.heap.size, 0, none⟩))) (w.alloc (.cells z.cells ty)) := by
    unfold execOp
    rw [ho]
    cases hq : P.info? ty with
    | none => simp [hq] at hz
    | some i =>
      have hz' : i.zero = some z := by simpa [hq] using hz
      simp [Instr.alloc, zeroValue, typeInfo, hq, hz', newVar, newRow, go_sem]
  unfold Oper.wp
  rw [e]
  exact hK _ _ (by rw [hf]; exact h _ _ (hS.alloc z.cells ty))
theorem wpx_load (hS : Sx bs w0 w l e) (k : Nat) (hw : Region.wanted op (yielded ops a.tmps) = true) (ty : TypeId) (x : Operand) (ho : op.op = .load ty x) (b o : Nat) (hx : a.eval x = .pointer (some ⟨b, o, none⟩)) (cs : List Value) (hk : l[k]? = some (b, cs)) (n : Nat) (hr : Row P ty n) (hn : (o + n).ble cs.length = true) (vs : List Value) (hvs : cutL cs o n = vs)
    (a' : Act) (ha : a.put op.dst (.agg vs.toArray) = a') (h : wpList P ops Q rest a' w) : wpList P ops Q (op :: rest) a w := by
  refine BigFrame.wpList_want hw fun K hK => ?_
  obtain ⟨d, hu, hd, hi⟩ := hr
  subst hvs ha
  have e : (execOp a.eval op).run P w = .ok (.value (.agg (cutL cs o n).toArray)) w := by
    unfold execOp
    rw [ho]
    simp [hx, run_load_st (P := P) (hS.get k hk) o ty n (Nat.le_of_ble_eq_true hn) d hu hd hi]
  unfold Oper.wp
  rw [e]
  exact hK _ _ h
theorem wpx_load1 (hS : Sx bs w0 w l e) (k : Nat) (hw : Region.wanted op (yielded ops a.tmps) = true) (ty : TypeId) (x : Operand) (ho : op.op = .load ty x) (b o : Nat) (hx : a.eval x = .pointer (some ⟨b, o, none⟩)) (cs : List Value) (hk : l[k]? = some (b, cs)) (hr : One P ty) (v : Value) (hv : cs[o]? = some v)
    (a' : Act) (ha : a.put op.dst v = a') (h : wpList P ops Q rest a' w) : wpList P ops Q (op :: rest) a w := by
  refine BigFrame.wpList_want hw fun K hK => ?_
  obtain ⟨d, hu, hd⟩ := hr
  subst ha
  have e : (execOp a.eval op).run P w = .ok (.value v) w := by
    unfold execOp
    rw [ho]
    simp [hx, run_load1_st (P := P) (hS.get k hk) o ty v hv d hu hd]
  unfold Oper.wp
  rw [e]
  exact hK _ _ h
theorem wpx_store (hS : Sx bs w0 w l e) (k : Nat) (hw : Region.wanted op (yielded ops a.tmps) = true) (ty : TypeId) (x y : Operand) (ho : op.op = .store ty x y) (b o : Nat) (hx : a.eval x = .pointer (some ⟨b, o, none⟩)) (cs : List Value) (hk : l[k]? = some (b, cs)) (v : Value) (hy : a.eval y = v)
    (vs : List Value) (hv : v.cells.toList = vs) (n : Nat) (hi : (P.info? ty).map (·.size) = some n) (hvn : vs.length = n) (hn : (o + vs.length).ble cs.length = true) (h1 : vs.all (·.oneCell') = true)
    (a' : Act) (ha : a.put op.dst undef = a') (h : ∀ w', Sx bs w0 w' (l.set k (b, blit cs o vs)) e → wpList P ops Q rest a' w') : wpList P ops Q (op :: rest) a w := by
  refine BigFrame.wpList_want hw fun K hK => ?_
  subst ha
  have e : (execOp a.eval op).run P w = .ok .skip (w.setCells b o vs) := by
    unfold execOp
    rw [ho]
    simp [hx, hy, run_store_st (P := P) (hS.get k hk) o ty v vs hv (Nat.le_of_ble_eq_true hn) (hvn ▸ hi) h1]
  unfold Oper.wp
  rw [e]
  exact hK _ _ (h _ (hS.store k hk o vs))
end
section
variable {P : Program} {ops : Array Oper} {o : Oper} {a : Act} {bs : List Nat} {w w0 : World} {K : Act → World → Prop} {Q : Exit → Act → World → Prop} {E : Prop} {l e : List (Nat × List Value)}
theorem stx_store (hS : Sx bs w0 w l e) (k : Nat) (hw : Region.wanted o (yielded ops a.tmps) = true) (ty : TypeId) (x y : Operand) (ho : o.op = .store ty x y) (b off : Nat) (hx : a.eval x = .pointer (some ⟨b, off, none⟩)) (cs : List Value) (hk : l[k]? = some (b, cs)) (v : Value) (hy : a.eval y = v) (vs : List Value) (hv : v.cells.toList = vs)
    (n : Nat) (hi : (P.info? ty).map (·.size) = some n) (hvn : vs.length = n) (hn : (off + vs.length).ble cs.length = true) (h1 : vs.all (·.oneCell') = true)
    (hd : o.dst = none) (h : ∀ w', Sx bs w0 w' (l.set k (b, blit cs off vs)) e → K a w') : if Region.wanted o (yielded ops a.tmps) = true then Oper.wp P o a w K Q else E := by
  rw [if_pos hw]
  have e : (execOp a.eval o).run P w = .ok .skip (w.setCells b off vs) := by
    unfold execOp
    rw [ho]
    simp [hx, hy, run_store_st (P := P) (hS.get k hk) off ty v vs hv (Nat.le_of_ble_eq_true hn) (hvn ▸ hi) h1]
  unfold Oper.wp
  rw [e]
  show K (a.put o.dst _) _
  rw [hd]
  exact h _ (hS.store k hk off vs)
theorem stx_alloc (hS : Sx bs w0 w l e) (hw : Region.wanted o (yielded ops a.tmps) = true) (ty : TypeId) (ho : o.op = .alloc ty) (z : Value) (hz : (P.info? ty).map (·.zero) = some (some z)) (zs : List Value) (hzs : z.cells.toList = zs)
    (d : Option Tmp) (hd : o.dst = d) (f : Nat → Act) (hf : ∀ b, a.put d (.pointer (some ⟨b, 0, none⟩)) = f b) (h : ∀ b w', Sx bs w0 w' (l ++ [(b, zs)]) e → K (f b) w') : if Region.wanted o (yielded ops a.tmps) = true then Oper.wp P o a w K Q else E := by
  rw [if_pos hw]
  have e : (execOp a.eval o).run P w = .ok (.value (.pointer (some ⟨w.heap.size, 0, none⟩))) (w.alloc (.cells z.cells ty)) := by
    unfold execOp
    rw [ho]
    cases hq : P.info? ty with
    | none => simp [hq] at hz
    | some i =>
      have hz' : i.zero = some z := by simpa [hq] using hz
      simp [Instr.alloc, zeroValue, typeInfo, hq, hz', newVar, newRow, go_sem]
  unfold Oper.wp
  rw [e]
  subst hzs hd
  show K (a.put o.dst _) _
  rw [hf]
  exact h _ _ (hS.alloc z.cells ty)
end
theorem sx1 {α : Type} (l : List α) (i : Nat) (a : α) : l.toArray.setIfInBounds i a = (l.set i a).toArray := List.setIfInBounds_toArray l i a
theorem sx2 {α : Type} (x a : α) (l : List α) : (x :: l).set 0 a = a :: l := rfl
theorem sx3 {α : Type} (x a : α) (l : List α) (n : Nat) : (x :: l).set (n + 1) a = x :: l.set n a := rfl
theorem sx4 {α : Type} (x : α) (l r : List α) : x :: l ++ r = x :: (l ++ r) := rfl
theorem sx5 {α : Type} (r : List α) : [] ++ r = r := rfl
theorem sx6 {α : Type} (l : List α) : l.toArray.toList = l := rfl
theorem sxh {b : Nat} {cs : List Value} {l : List (Nat × List Value)} {P : Nat → List Value → Prop} (h : P 0 cs) : ∃ (k : Nat) (cs' : List Value), ((b, cs) :: l)[k]? = some (b, cs') ∧ P k cs' := ⟨0, cs, rfl, h⟩
theorem sxn {b : Nat} {x : Nat × List Value} {l : List (Nat × List Value)} {P : Nat → List Value → Prop} (h : ∃ (k : Nat) (cs : List Value), l[k]? = some (b, cs) ∧ P (k + 1) cs) : ∃ (k : Nat) (cs : List Value), (x :: l)[k]? = some (b, cs) ∧ P k cs :=
  let ⟨k, cs, h1, h2⟩ := h
  ⟨k + 1, cs, h1, h2⟩
end
section
set_option maxRecDepth 100000
open Go.RowKit Go.Sort
theorem row_poke : Row Tryz.prog 98 4 := ⟨_, Tryz.underlying98, rfl, by kernel_rfl⟩
theorem siz_poke : (Tryz.prog.info? 98).map (·.size) = some 4 := by kernel_rfl
theorem zer_poke : (Tryz.prog.info? 98).map (·.zero) = some (some (.agg #[.int .i64 0, .int .i64 0, .int .i64 0, .int .u64 0])) := by kernel_rfl
theorem row_stat : Row Tryz.prog 170 7 := ⟨_, Tryz.underlying170, rfl, by kernel_rfl⟩
theorem siz_stat : (Tryz.prog.info? 170).map (·.size) = some 7 := by kernel_rfl
theorem zer_stat : (Tryz.prog.info? 170).map (·.zero) = some (some (.agg #[.int .i64 0, .int .i64 0, .bool false, .bool false, .bool false, .int .i64 0, .int .i64 0])) := by kernel_rfl
theorem row_rent : Row Tryz.prog 44 7 := ⟨_, Tryz.underlying44, rfl, by kernel_rfl⟩
theorem siz_rent : (Tryz.prog.info? 44).map (·.size) = some 7 := by kernel_rfl
theorem zer_rent : (Tryz.prog.info? 44).map (·.zero) = some (some (.agg #[.int .u64 0, .slice none 0 0, .bool false, .int .u64 0, .int .u64 0, .int .i64 0, .bool false])) := by kernel_rfl
theorem row_rlea : Row Tryz.prog 50 5 := ⟨_, Tryz.underlying50, rfl, by kernel_rfl⟩
theorem siz_rlea : (Tryz.prog.info? 50).map (·.size) = some 5 := by kernel_rfl
theorem zer_rlea : (Tryz.prog.info? 50).map (·.zero) = some (some (.agg #[.int .i64 0, .int .i64 0, .bool false, .int .u64 0, .bool false])) := by kernel_rfl
theorem row_rjoin : Row Tryz.prog 46 7 := ⟨_, Tryz.underlying46, rfl, by kernel_rfl⟩
theorem siz_rjoin : (Tryz.prog.info? 46).map (·.size) = some 7 := by kernel_rfl
theorem zer_rjoin : (Tryz.prog.info? 46).map (·.zero) = some (some (.agg #[.int .i64 0, .int .i64 0, .int .i64 0, .int .u64 0, .int .i64 0, .int .u64 0, .int .i64 0])) := by kernel_rfl
theorem row_rown : Row Tryz.prog 48 6 := ⟨_, Tryz.underlying48, rfl, by kernel_rfl⟩
theorem siz_rown : (Tryz.prog.info? 48).map (·.size) = some 6 := by kernel_rfl
theorem zer_rown : (Tryz.prog.info? 48).map (·.zero) = some (some (.agg #[.int .i64 0, .int .i64 0, .int .i64 0, .bool false, .int .u64 0, .bool false])) := by kernel_rfl
theorem row_ent : Row Tryz.prog 150 7 := ⟨_, Tryz.underlying150, rfl, by kernel_rfl⟩
theorem siz_ent : (Tryz.prog.info? 150).map (·.size) = some 7 := by kernel_rfl
theorem zer_ent : (Tryz.prog.info? 150).map (·.zero) = some (some (.agg #[.int .i64 0, .int .u64 0, .int .u64 0, .slice none 0 0, .nilFunc, .int .i64 0, .int .u64 0])) := by kernel_rfl
theorem row_lea : Row Tryz.prog 200 4 := ⟨_, Tryz.underlying200, rfl, by kernel_rfl⟩
theorem siz_lea : (Tryz.prog.info? 200).map (·.size) = some 4 := by kernel_rfl
theorem zer_lea : (Tryz.prog.info? 200).map (·.zero) = some (some (.agg #[.int .i64 0, .int .u64 0, .int .i64 0, .nilFunc])) := by kernel_rfl
theorem row_rsta : Row Tryz.prog 135 7 := ⟨_, Tryz.underlying135, rfl, by kernel_rfl⟩
theorem siz_rsta : (Tryz.prog.info? 135).map (·.size) = some 7 := by kernel_rfl
theorem zer_rsta : (Tryz.prog.info? 135).map (·.zero) = some (some (.agg #[.int .i64 0, .int .i64 0, .bool false, .bool false, .bool false, .int .i64 0, .int .i64 0])) := by kernel_rfl
theorem row_jend : Row Tryz.prog 194 4 := ⟨_, Tryz.underlying194, rfl, by kernel_rfl⟩
theorem siz_jend : (Tryz.prog.info? 194).map (·.size) = some 4 := by kernel_rfl
theorem zer_jend : (Tryz.prog.info? 194).map (·.zero) = some (some (.agg #[.int .i64 0, .int .i64 0, .int .i64 0, .int .u64 0])) := by kernel_rfl
theorem row_join : Row Tryz.prog 197 7 := ⟨_, Tryz.underlying197, rfl, by kernel_rfl⟩
theorem siz_join : (Tryz.prog.info? 197).map (·.size) = some 7 := by kernel_rfl
theorem zer_join : (Tryz.prog.info? 197).map (·.zero) = some (some (.agg #[.int .i64 0, .int .i64 0, .int .i64 0, .int .u64 0, .int .u64 0, .nilFunc, .int .i64 0])) := by kernel_rfl
theorem row_own : Row Tryz.prog 204 5 := ⟨_, Tryz.underlying204, rfl, by kernel_rfl⟩
theorem siz_own : (Tryz.prog.info? 204).map (·.size) = some 5 := by kernel_rfl
theorem zer_own : (Tryz.prog.info? 204).map (·.zero) = some (some (.agg #[.int .i64 0, .int .i64 0, .int .i64 0, .int .u64 0, .nilFunc])) := by kernel_rfl
theorem row_rread : Row Tryz.prog 52 34 := ⟨_, Tryz.underlying52, rfl, by kernel_rfl⟩
theorem siz_rread : (Tryz.prog.info? 52).map (·.size) = some 34 := by kernel_rfl
theorem zer_rread : (Tryz.prog.info? 52).map (·.zero) = some (some (.agg #[.int .i64 0, .int .i64 0, .int .i64 0, .int .u64 0, .int .u64 0, .slice none 0 0, .int .u64 0, .slice none 0 0, .bool false, .int .u64 0, .int .u64 0, .int .i64 0, .bool false, .int .i64 0, .int .i64 0, .int .i64 0, .int .u64 0, .int .i64 0, .int .u64 0, .int .i64 0, .int .i64 0, .int .i64 0, .int .i64 0, .bool false, .int .u64 0, .bool false, .int .i64 0, .int .i64 0, .bool false, .int .u64 0, .bool false, .int .i64 0, .int .i64 0, .bool false])) := by kernel_rfl
theorem row_read : Row Tryz.prog 95 12 := ⟨_, Tryz.underlying95, rfl, by kernel_rfl⟩
theorem siz_read : (Tryz.prog.info? 95).map (·.size) = some 12 := by kernel_rfl
theorem zer_read : (Tryz.prog.info? 95).map (·.zero) = some (some (.agg #[.int .i64 0, .int .i64 0, .int .u64 0, .int .u64 0, .nilFunc, .int .i64 0, .pointer none, .pointer none, .pointer none, .pointer none, .nilFunc, .int .i64 0])) := by kernel_rfl
theorem row_play12 : Row Tryz.prog 28 4 := ⟨_, Tryz.underlying28, rfl, by kernel_rfl⟩
theorem siz_play12 : (Tryz.prog.info? 28).map (·.size) = some 4 := by kernel_rfl
theorem zer_play12 : (Tryz.prog.info? 28).map (·.zero) = some (some (.agg #[.int .u64 0, .int .i64 0, .int .i64 0, .slice none 0 0])) := by kernel_rfl
theorem one_fn : One Tryz.prog 56 := ⟨_, Tryz.underlying56, rfl⟩
theorem siz_fn : (Tryz.prog.info? 56).map (·.size) = some 1 := by kernel_rfl
theorem one_pokes : One Tryz.prog 26 := ⟨_, Tryz.underlying26, rfl⟩
theorem siz_pokes : (Tryz.prog.info? 26).map (·.size) = some 1 := by kernel_rfl
theorem one_bools : One Tryz.prog 76 := ⟨_, Tryz.underlying76, rfl⟩
theorem siz_bools : (Tryz.prog.info? 76).map (·.size) = some 1 := by kernel_rfl
theorem one_ints : One Tryz.prog 41 := ⟨_, Tryz.underlying41, rfl⟩
theorem siz_ints : (Tryz.prog.info? 41).map (·.size) = some 1 := by kernel_rfl
theorem one_errno : One Tryz.prog 42 := ⟨_, Tryz.underlying42, rfl⟩
theorem siz_errno : (Tryz.prog.info? 42).map (·.size) = some 1 := by kernel_rfl
theorem one_slf : One Tryz.prog 115 := ⟨_, Tryz.underlying115, rfl⟩
theorem siz_slf : (Tryz.prog.info? 115).map (·.size) = some 1 := by kernel_rfl
theorem one_jfn : One Tryz.prog 195 := ⟨_, Tryz.underlying195, rfl⟩
theorem siz_jfn : (Tryz.prog.info? 195).map (·.size) = some 1 := by kernel_rfl
theorem one_ofn : One Tryz.prog 202 := ⟨_, Tryz.underlying202, rfl⟩
theorem siz_ofn : (Tryz.prog.info? 202).map (·.size) = some 1 := by kernel_rfl
theorem one_entp : One Tryz.prog 90 := ⟨_, Tryz.underlying90, rfl⟩
theorem siz_entp : (Tryz.prog.info? 90).map (·.size) = some 1 := by kernel_rfl
theorem one_joip : One Tryz.prog 91 := ⟨_, Tryz.underlying91, rfl⟩
theorem siz_joip : (Tryz.prog.info? 91).map (·.size) = some 1 := by kernel_rfl
theorem one_ownp : One Tryz.prog 92 := ⟨_, Tryz.underlying92, rfl⟩
theorem siz_ownp : (Tryz.prog.info? 92).map (·.size) = some 1 := by kernel_rfl
theorem one_leap : One Tryz.prog 93 := ⟨_, Tryz.underlying93, rfl⟩
theorem siz_leap : (Tryz.prog.info? 93).map (·.size) = some 1 := by kernel_rfl
theorem one_nfn : One Tryz.prog 89 := ⟨_, Tryz.underlying89, rfl⟩
theorem siz_nfn : (Tryz.prog.info? 89).map (·.size) = some 1 := by kernel_rfl
def rowT2 : List (Nat × Nat) := [(35, 13), (33, 6), (31, 2), (24, 5), (67, 2), (113, 6), (98, 4), (170, 7), (44, 7), (50, 5), (46, 7), (48, 6), (150, 7), (200, 4), (135, 7), (194, 4), (197, 7), (204, 5), (52, 34), (95, 12), (28, 4)]
theorem row_all2 : ∀ p ∈ rowT2, Row Tryz.prog p.1 p.2 := by
  intro p hp
  simp only [rowT2, List.mem_cons, List.not_mem_nil, or_false] at hp
  rcases hp with rfl | rfl | rfl | rfl | rfl | rfl | rfl | rfl | rfl | rfl | rfl | rfl | rfl | rfl | rfl | rfl | rfl | rfl | rfl | rfl | rfl
  · exact row_rmem
  · exact row_rtch
  · exact row_rspot
  · exact row_cfg
  · exact row_spot
  · exact row_tch
  · exact row_poke
  · exact row_stat
  · exact row_rent
  · exact row_rlea
  · exact row_rjoin
  · exact row_rown
  · exact row_ent
  · exact row_lea
  · exact row_rsta
  · exact row_jend
  · exact row_join
  · exact row_own
  · exact row_rread
  · exact row_read
  · exact row_play12
theorem row_any2 {ty : Nat} {v : Nat} (h : rowT2.lookup ty = some v) : Row Tryz.prog ty v := row_all2 (ty, v) (look_mem h)
def onuT2 : List (Nat × Unit) := [(3, ()), (22, ()), (4, ()), (25, ()), (56, ()), (26, ()), (76, ()), (41, ()), (42, ()), (115, ()), (195, ()), (202, ()), (90, ()), (91, ()), (92, ()), (93, ()), (89, ())]
theorem onu_all2 : ∀ p ∈ onuT2, One Tryz.prog p.1 := by
  intro p hp
  simp only [onuT2, List.mem_cons, List.not_mem_nil, or_false] at hp
  rcases hp with rfl | rfl | rfl | rfl | rfl | rfl | rfl | rfl | rfl | rfl | rfl | rfl | rfl | rfl | rfl | rfl | rfl
  · exact one_int
  · exact one_u64
  · exact one_bool
  · exact one_words
  · exact one_fn
  · exact one_pokes
  · exact one_bools
  · exact one_ints
  · exact one_errno
  · exact one_slf
  · exact one_jfn
  · exact one_ofn
  · exact one_entp
  · exact one_joip
  · exact one_ownp
  · exact one_leap
  · exact one_nfn
theorem onu_any2 {ty : Nat} {v : Unit} (h : onuT2.lookup ty = some v) : One Tryz.prog ty := onu_all2 (ty, v) (look_mem h)
theorem one_any2 {ty : Nat} (h : onuT2.lookup ty = some ()) : One Tryz.prog ty := onu_any2 h
def sizT2 : List (Nat × Nat) := [(35, 13), (33, 6), (31, 2), (24, 5), (67, 2), (113, 6), (3, 1), (22, 1), (4, 1), (25, 1), (98, 4), (170, 7), (44, 7), (50, 5), (46, 7), (48, 6), (150, 7), (200, 4), (135, 7), (194, 4), (197, 7), (204, 5), (52, 34), (95, 12), (28, 4), (56, 1), (26, 1), (76, 1), (41, 1), (42, 1), (115, 1), (195, 1), (202, 1), (90, 1), (91, 1), (92, 1), (93, 1), (89, 1)]
theorem siz_all2 : ∀ p ∈ sizT2, (Tryz.prog.info? p.1).map (·.size) = some p.2 := by
  intro p hp
  simp only [sizT2, List.mem_cons, List.not_mem_nil, or_false] at hp
  rcases hp with rfl | rfl | rfl | rfl | rfl | rfl | rfl | rfl | rfl | rfl | rfl | rfl | rfl | rfl | rfl | rfl | rfl | rfl | rfl | rfl | rfl | rfl | rfl | rfl | rfl | rfl | rfl | rfl | rfl | rfl | rfl | rfl | rfl | rfl | rfl | rfl | rfl | rfl
  · exact siz_rmem
  · exact siz_rtch
  · exact siz_rspot
  · exact siz_cfg
  · exact siz_spot
  · exact siz_tch
  · exact siz_int
  · exact siz_u64
  · exact siz_bool
  · exact siz_words
  · exact siz_poke
  · exact siz_stat
  · exact siz_rent
  · exact siz_rlea
  · exact siz_rjoin
  · exact siz_rown
  · exact siz_ent
  · exact siz_lea
  · exact siz_rsta
  · exact siz_jend
  · exact siz_join
  · exact siz_own
  · exact siz_rread
  · exact siz_read
  · exact siz_play12
  · exact siz_fn
  · exact siz_pokes
  · exact siz_bools
  · exact siz_ints
  · exact siz_errno
  · exact siz_slf
  · exact siz_jfn
  · exact siz_ofn
  · exact siz_entp
  · exact siz_joip
  · exact siz_ownp
  · exact siz_leap
  · exact siz_nfn
theorem siz_any2 {ty : Nat} {v : Nat} (h : sizT2.lookup ty = some v) : (Tryz.prog.info? ty).map (·.size) = some v := siz_all2 (ty, v) (look_mem h)
def zerT2 : List (Nat × Value) := [(35, (.agg #[.int .i64 0, .int .i64 0, .int .i64 0, .int .i64 0, .int .u64 0, .slice none 0 0, .int .i64 0, .int .i64 0, .int .i64 0, .int .i64 0, .int .u64 0, .int .u64 0, .bool false])), (33, (.agg #[.int .i64 0, .int .i64 0, .int .i64 0, .int .u64 0, .int .u64 0, .bool false])), (31, (.agg #[.int .i64 0, .int .i64 0])), (24, (.agg #[.int .i64 0, .int .i64 0, .int .i64 0, .int .i64 0, .int .u64 0])), (67, (.agg #[.int .i64 0, .int .i64 0])), (113, (.agg #[.int .i64 0, .int .i64 0, .int .i64 0, .int .u64 0, .int .u64 0, .bool false])), (98, (.agg #[.int .i64 0, .int .i64 0, .int .i64 0, .int .u64 0])), (170, (.agg #[.int .i64 0, .int .i64 0, .bool false, .bool false, .bool false, .int .i64 0, .int .i64 0])), (44, (.agg #[.int .u64 0, .slice none 0 0, .bool false, .int .u64 0, .int .u64 0, .int .i64 0, .bool false])), (50, (.agg #[.int .i64 0, .int .i64 0, .bool false, .int .u64 0, .bool false])), (46, (.agg #[.int .i64 0, .int .i64 0, .int .i64 0, .int .u64 0, .int .i64 0, .int .u64 0, .int .i64 0])), (48, (.agg #[.int .i64 0, .int .i64 0, .int .i64 0, .bool false, .int .u64 0, .bool false])), (150, (.agg #[.int .i64 0, .int .u64 0, .int .u64 0, .slice none 0 0, .nilFunc, .int .i64 0, .int .u64 0])), (200, (.agg #[.int .i64 0, .int .u64 0, .int .i64 0, .nilFunc])), (135, (.agg #[.int .i64 0, .int .i64 0, .bool false, .bool false, .bool false, .int .i64 0, .int .i64 0])), (194, (.agg #[.int .i64 0, .int .i64 0, .int .i64 0, .int .u64 0])), (197, (.agg #[.int .i64 0, .int .i64 0, .int .i64 0, .int .u64 0, .int .u64 0, .nilFunc, .int .i64 0])), (204, (.agg #[.int .i64 0, .int .i64 0, .int .i64 0, .int .u64 0, .nilFunc])), (52, (.agg #[.int .i64 0, .int .i64 0, .int .i64 0, .int .u64 0, .int .u64 0, .slice none 0 0, .int .u64 0, .slice none 0 0, .bool false, .int .u64 0, .int .u64 0, .int .i64 0, .bool false, .int .i64 0, .int .i64 0, .int .i64 0, .int .u64 0, .int .i64 0, .int .u64 0, .int .i64 0, .int .i64 0, .int .i64 0, .int .i64 0, .bool false, .int .u64 0, .bool false, .int .i64 0, .int .i64 0, .bool false, .int .u64 0, .bool false, .int .i64 0, .int .i64 0, .bool false])), (95, (.agg #[.int .i64 0, .int .i64 0, .int .u64 0, .int .u64 0, .nilFunc, .int .i64 0, .pointer none, .pointer none, .pointer none, .pointer none, .nilFunc, .int .i64 0])), (28, (.agg #[.int .u64 0, .int .i64 0, .int .i64 0, .slice none 0 0]))]
theorem zer_all2 : ∀ p ∈ zerT2, (Tryz.prog.info? p.1).map (·.zero) = some (some p.2) := by
  intro p hp
  simp only [zerT2, List.mem_cons, List.not_mem_nil, or_false] at hp
  rcases hp with rfl | rfl | rfl | rfl | rfl | rfl | rfl | rfl | rfl | rfl | rfl | rfl | rfl | rfl | rfl | rfl | rfl | rfl | rfl | rfl | rfl
  · exact zer_rmem
  · exact zer_rtch
  · exact zer_rspot
  · exact zer_cfg
  · exact zer_spot
  · exact zer_tch
  · exact zer_poke
  · exact zer_stat
  · exact zer_rent
  · exact zer_rlea
  · exact zer_rjoin
  · exact zer_rown
  · exact zer_ent
  · exact zer_lea
  · exact zer_rsta
  · exact zer_jend
  · exact zer_join
  · exact zer_own
  · exact zer_rread
  · exact zer_read
  · exact zer_play12
theorem zer_any2 {ty : Nat} {v : Value} (h : zerT2.lookup ty = some v) : (Tryz.prog.info? ty).map (·.zero) = some (some v) := zer_all2 (ty, v) (look_mem h)
end
section
set_option maxRecDepth 100000
open Go.RowKit Go.Sort
def LdAt (l : List (Nat × List Value)) (b o : Nat) (ty : TypeId) (v : Value) : Prop :=
  ∃ (k : Nat) (cs : List Value), l[k]? = some (b, cs) ∧ ((One Tryz.prog ty ∧ cs[o]? = some v) ∨ ∃ n vs, Row Tryz.prog ty n ∧ (o + n).ble cs.length = true ∧ cutL cs o n = vs ∧ v = .agg vs.toArray)
def StAt (l : List (Nat × List Value)) (b o : Nat) (ty : TypeId) (v : Value) (l' : List (Nat × List Value)) : Prop :=
  ∃ (k : Nat) (cs : List Value), l[k]? = some (b, cs) ∧ ∃ vs, Sh v vs ∧ ∃ n, (Tryz.prog.info? ty).map (·.size) = some n ∧ vs.length = n ∧ (o + vs.length).ble cs.length = true ∧ vs.all (·.oneCell') = true ∧ l.set k (b, blit cs o vs) = l'
section
variable {ops : Array Oper} {rest : List Oper} {op : Oper} {a : Act} {bs : List Nat} {w w0 : World} {Q : Exit → Act → World → Prop} {l e : List (Nat × List Value)}
theorem ybox {ty : TypeId} {x : Operand} {vs : List Value} {f : Nat → Act} {l' : Nat → List (Nat × List Value)} (hS : Sx bs w0 w l e)
    (hw : Region.wanted op (yielded ops a.tmps) = true := by rfl) (ho : op.op = .box ty x := by rfl) (hx : a.eval x = .agg (List.toArray vs) := by rfl)
    (hf : ∀ b, a.put op.dst (.pointer (some ⟨b, 0, none⟩)) = f b := by (intro _; simp only [Act.put, sx1, sx2, sx3]; first | done | exact rfl))
    (hl : ∀ b, l ++ [(b, vs)] = l' b := by (intro _; first | done | (dsimp only [sx4, sx5]; first | done | exact rfl) | exact rfl))
    (h : ∀ b w', Sx bs w0 w' (l' b) e → wpList Tryz.prog ops Q rest (f b) w') : wpList Tryz.prog ops Q (op :: rest) a w :=
  wpx_box hS hw ty x ho vs hx f hf (fun b w' q => h b w' (hl b ▸ q))
theorem yall {ty : TypeId} {z : Value} {f : Nat → Act} {l' : Nat → List (Nat × List Value)} (hS : Sx bs w0 w l e)
    (hw : Region.wanted op (yielded ops a.tmps) = true := by rfl) (ho : op.op = .alloc ty := by rfl) (hz : (Tryz.prog.info? ty).map (·.zero) = some (some z) := by exact zer_any2 rfl)
    (hf : ∀ b, a.put op.dst (.pointer (some ⟨b, 0, none⟩)) = f b := by (intro _; simp only [Act.put, sx1, sx2, sx3]; first | done | exact rfl))
    (hl : ∀ b, l ++ [(b, z.cells.toList)] = l' b := by (intro _; dsimp only [sx4, sx5, Value.cells, sx6]; first | done | exact rfl))
    (h : ∀ b w', Sx bs w0 w' (l' b) e → wpList Tryz.prog ops Q rest (f b) w') : wpList Tryz.prog ops Q (op :: rest) a w :=
  wpx_alloc hS hw ty ho z hz f hf (fun b w' q => h b w' (hl b ▸ q))
theorem yld {ty : TypeId} {x : Operand} {b o : Nat} {v : Value} {a' : Act} (hS : Sx bs w0 w l e)
    (hw : Region.wanted op (yielded ops a.tmps) = true := by rfl) (ho : op.op = .load ty x := by rfl) (hx : a.eval x = .pointer (some ⟨b, o, none⟩) := by rfl)
    (hv : LdAt l b o ty v := by ((repeat (first | refine sxh ?_ | refine sxn ?_)); first | exact .inl ⟨one_any2 rfl, rfl⟩ | exact .inr ⟨_, _, row_any2 rfl, rfl, (by dsimp only [cutL, List.drop, List.take]; first | done | exact rfl), rfl⟩))
    (ha : a.put op.dst v = a' := by (simp only [Act.put, sx1, sx2, sx3]; first | done | exact rfl))
    (h : wpList Tryz.prog ops Q rest a' w) : wpList Tryz.prog ops Q (op :: rest) a w := by
  obtain ⟨k, cs, hk, ⟨h1, h2⟩ | ⟨n, vs, h1, h2, h3, rfl⟩⟩ := hv
  · exact wpx_load1 hS k hw ty x ho b o hx cs hk h1 v h2 a' ha h
  · exact wpx_load hS k hw ty x ho b o hx cs hk n h1 h2 vs h3 a' ha h
theorem yst {ty : TypeId} {x y : Operand} {b o : Nat} {l' : List (Nat × List Value)} (hS : Sx bs w0 w l e)
    (hw : Region.wanted op (yielded ops a.tmps) = true := by rfl) (ho : op.op = .store ty x y := by rfl) (hd : op.dst = none := by rfl) (hx : a.eval x = .pointer (some ⟨b, o, none⟩) := by rfl)
    (hv : StAt l b o ty (a.eval y) l' := by ((repeat (first | refine sxh ?_ | refine sxn ?_)); refine ⟨_, (by first | exact shA rfl | exact shI rfl | exact shB rfl | exact shS rfl | exact shP rfl | exact shF rfl | exact shN rfl), _, siz_any2 rfl, (by exact rfl), (by exact rfl), (by exact rfl), ?_⟩; dsimp only [blit, List.set, sx4, sx5, Value.cells, sx6]; first | done | exact rfl))
    (h : ∀ w', Sx bs w0 w' l' e → wpList Tryz.prog ops Q rest a w') : wpList Tryz.prog ops Q (op :: rest) a w := by
  obtain ⟨k, cs, hk, vs, h1, n, h2, h3, h4, h5, rfl⟩ := hv
  exact wpx_store hS k hw ty x y ho b o hx cs hk _ rfl vs h1 n h2 h3 h4 h5 a (by rw [hd]; rfl) h
end
end
end Go.Proofs.YtapgghciieloaaaGreat
