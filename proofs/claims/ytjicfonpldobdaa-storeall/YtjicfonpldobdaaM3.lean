/-
  Texts that the laws stand on, merged (StoreC, StoreD, StoreS, StoreE, StoreM, StoreF, StoreN, StoreAlive, Blk, BlkT, BlkAny).
-/
import Derived.Test.YtjicfonpldobdaaM2
import Derived.Deep.MidRow
import Derived.Deep.RegionHeld
import Derived.Laws.EntriesVeiled

/-
  The walks of layer 6's functions that make memory: copies of words, a memory of words, a new one.
-/
namespace Go.Proofs.Ytjicfonpldobdaa
set_option maxRecDepth 100000
open Go.RowKit Go.Sort

theorem splice_all {ws zs : Nat → Nat} (n : Nat) : splice (rowW zs n) 0 (rowW ws n) = rowW ws n := by
  simp [splice, rowW_len]

set_option maxHeartbeats 1000000 in
theorem copied_any {W : World} {v : Value} {n : Nat} {ws : Nat → Nat} (h : IsWords W v n ws) (hp : 0 < n) (hn : n ≤ 1000) :
    Calls Try.prog 60 #[v] W fun e W' => e = .returned (.slice (some ⟨W.heap.size, 0, none⟩) n n) ∧ W'.heap[W.heap.size]? = some (.cells (rowW ws n).toArray 22 (0, 0)) ∧ Below W.heap.size W W' := by
  obtain ⟨i0, hi, hz0, hz1, hz2⟩ := info_parts infoU
  have hm : i0.bytes * n ≤ 281474976710656 := by rw [hz2]; omega
  have hm2 : n ≤ maxLen := by unfold maxLen; omega
  have key : ∀ w1 : World, w1.ownsRow W.heap.size 22 1 (.slice (some ⟨W.heap.size, 0, none⟩) n n) n (madeCells (Value.int .u64 0).cells (n * 1)).toList → w1.heap[W.heap.size]? = some (.cells (rowW (fun _ => 0) n).toArray 22 (0, 0)) := by
    intro w1 h1
    rcases h1.2 with ⟨h, _⟩ | ⟨g, cap, cur, hv, _, hg, _, _, hsz, hcur⟩
    · cases h
    · have e1 := hv
      simp only [Value.slice.injEq, Option.some.injEq, Addr.mk.injEq] at e1
      obtain ⟨⟨rfl, _, _⟩, _, rfl⟩ := e1
      rw [made_zero] at hcur
      rw [hg]
      have : cur.toList = rowW (fun _ => 0) n := by rw [← hcur, List.take_of_length_le (by simp [hsz])]
      rw [← this]
  rcases h with ⟨a, cap, rfl, rfl⟩ | ⟨b, off, cap, rfl, h0, h1, h2, h3, h4⟩
  · omega
  · have HK := hide key
    have H4 := hide h4
    clear key h4
    go_enter Try.func60, Try.ntmps60
    go_wp2_with (first | (at_make; refine wpList_make_full _ rfl _ _ 25 rfl W.heap.size 22 i0 (.int .u64 0) 1 Try.underlying25 hi hz0 hz1 .i64 .i64 _ _ n rfl rfl rfl rfl hm hm2 (Nat.le_refl _) ?_; intro w1 hown hgrow))
    have HR := hide ((unhide HK) w1 hown)
    have hB : Below W.heap.size W w1 := (Below.refl _ _).grown hgrow (Nat.le_refl _) (fun k e => by cases e)
    have HC : Hid (∀ j v, (rowW ws n)[j]? = some v → w1.cell? ((⟨b, off, none⟩ : Addr).add j) = some v) := by
      intro j v hv
      have hj : j < n := by have := (List.getElem?_eq_some_iff.1 hv).1; rwa [rowW_len] at this
      rw [rowW_get ws n j hj] at hv
      rw [← hv, Addr.add_lit, hB.cell (p := ⟨b, off + j, none⟩) h3]
      exact ((unhide H4) j hj).1
    clear hown hgrow HK H4
    obtain ⟨w2, hrun, hg2, hB2⟩ : ∃ w2, (Builtin.copy_ #[25, 25] 3 #[.slice (some ⟨W.heap.size, 0, none⟩) n n, .slice (some ⟨b, off, none⟩) n cap]).run Try.prog w1 = .ok (.int .i64 n) w2 ∧ Hid (w2.heap[W.heap.size]? = some (.cells (rowW ws n).toArray 22 (0, 0))) ∧ Below W.heap.size W w2 := by
      have hr := run_copy_row (P := Try.prog) w1 25 25 3 22 W.heap.size 0 n n ⟨b, off, none⟩ n cap (rowW (fun _ => 0) n).toArray 22 (rowW ws n) Try.underlying25 (by rw [hi]; simp [hz1]) (unhide HR) (by rw [rowW_len]; exact (Nat.min_self n).symm) (unhide HC) (by simp [rowW_len]) rowW_mem
      have e : ((rowW (fun _ => 0) n).toArray.toList.take 0 ++ rowW ws n ++ (rowW (fun _ => 0) n).toArray.toList.drop (0 + (rowW ws n).length)) = rowW ws n := by simp [rowW_len]
      rw [e, rowW_len] at hr
      exact ⟨_, hr, setRow_heap w1 W.heap.size _ _ 22 _ (unhide HR), below_setRow hB (Nat.le_refl _) _⟩
    clear HC HR hB
    rw [hrun]
    clear hrun
    go_wp2
    go_ret
    exact ⟨rfl, unhide hg2, hB2⟩

theorem LowWords.of_row {W : World} {g n : Nat} {ws : Nat → Nat} (hp : 0 < n) (hn : n ≤ 1000) (h : W.heap[g]? = some (.cells (rowW ws n).toArray 22 (0, 0))) (hw : ∀ j, j < n → Um.Word (ws j)) : LowWords (g + 1) W (.slice (some ⟨g, 0, none⟩) n n) n ws :=
  .inr ⟨g, 0, n, rfl, hp, Nat.le_refl _, by unfold maxLen; omega, Nat.lt_succ_self _, fun j hj => ⟨by rw [Nat.zero_add]; exact row_cell h j hj, hw j hj⟩⟩

theorem MemAt.words {W : World} {B C : Nat} {c : Um.Cf} {m : Um.Mm} (h : MemAt W B C c m) : IsWords W (.slice (some ⟨C, 0, none⟩) c.n c.n) c.n m.ws :=
  .inr ⟨C, 0, c.n, rfl, by have := Um.Cf.n_pos h.rt; omega, Nat.le_refl _, by have := c.n_le; unfold maxLen; omega, h.hC, fun j hj => ⟨by rw [Nat.zero_add]; exact h.ws j hj, h.wd j hj⟩⟩

set_option maxHeartbeats 1000000 in
theorem mCells_any {W : World} {B C : Nat} {c : Um.Cf} {m : Um.Mm} (h : MemAt W B C c m) :
    Calls Try.prog 37 #[.pointer (some ⟨B, 0, none⟩)] W fun e W' => e = .returned (.slice (some ⟨W.heap.size, 0, none⟩) c.n c.n) ∧ W'.heap[W.heap.size]? = some (.cells (rowW m.ws c.n).toArray 22 (0, 0)) ∧ Below W.heap.size W W' := by
  have hC := copied_any h.words (by have := Um.Cf.n_pos h.rt; omega) (by have := c.n_le; omega)
  have h5 := h.sl
  have hB := h.hB
  clear h
  go_enter Try.func37, Try.ntmps37
  go_wp2_with fail
  refine hC.mono ?_
  rintro e w1 ⟨rfl, hg, hb⟩
  have HG := hide hg
  clear hg hC
  go_wp2
  go_ret
  exact ⟨rfl, unhide HG, hb⟩

end Go.Proofs.Ytjicfonpldobdaa

/-
  The walks of layer 6's makers of a memory: of words, and a new one.
-/
namespace Go.Proofs.Ytjicfonpldobdaa
set_option maxRecDepth 100000
open Go.RowKit Go.Sort

/-- a config by its parts -/
theorem Cf_len (c : Um.Cf) : Um.clen (Um.rt c.t c.s c.k c.g c.q) c.t c.s c.k = (c.n : Nat) := c.n_eq.symm

theorem below_undrew {w w' : World} (h : Below w.drew.heap.size w.drew w') : Below w.heap.size w w' := ⟨h.os, h.tape, h.output, h.size, h.block⟩

theorem run_makeW (n : Nat) (hn : n ≤ 1000) (W : World) : (Instr.makeSlice 25 (.int .i64 (n : Int)) (.int .i64 (n : Int))).run Try.prog W = .ok (.slice (some ⟨W.heap.size, 0, none⟩) n n) (W.alloc (.cells (rowW (fun _ => 0) n).toArray 22)) := by
  obtain ⟨i0, hi, hz0, hz1, hz2⟩ := info_parts infoU
  have hr := run_make (P := Try.prog) W 25 22 i0 (.int .u64 0) Try.underlying25 hi hz0 .i64 .i64 n n (by omega) (Int.le_refl _) (by rw [hz2]; omega) (by omega)
  rw [hr, hz1]
  simp only [Int.toNat_natCast]
  rw [show madeCells (Value.int .u64 0).cells (n * 1) = (rowW (fun _ => 0) n).toArray from by rw [← made_zero]]

theorem words_len {W : World} {v : Value} {n : Nat} {ws : Nat → Nat} (h : IsWords W v n ws) : ∃ a cap, v = .slice a n cap := by
  rcases h with ⟨a, cap, rfl, rfl⟩ | ⟨b, off, cap, rfl, _⟩
  · exact ⟨_, _, rfl⟩
  · exact ⟨_, _, rfl⟩

theorem words_word {W : World} {v : Value} {n : Nat} {ws : Nat → Nat} (h : IsWords W v n ws) : ∀ j, j < n → Um.Word (ws j) := by
  rcases h with ⟨a, cap, rfl, rfl⟩ | ⟨b, off, cap, rfl, _, _, _, _, h⟩
  · intro j hj; omega
  · exact fun j hj => (h j hj).2

theorem blk_cell {W : World} {g : Nat} {cs : Array Value} {e : TypeId} {fr : Nat × Nat} (h : W.heap[g]? = some (.cells cs e fr)) (j : Nat) : W.cell? ⟨g, j, none⟩ = cs[j]? := by
  simp [World.cell?, h]

theorem mem_new {w : World} {C : Nat} {ws : Nat → Nat} (c : Um.Cf) (hg : w.heap[C]? = some (.cells (rowW ws c.n).toArray 22 (0, 0))) (h : c.r = true) (hw : ∀ j, j < c.n → Um.Word (ws j)) :
    MemAt (w.alloc (.cells #[.int .i64 c.t, .int .i64 c.s, .int .i64 c.k, .int .i64 c.g, .int .u64 c.q, .slice (some ⟨C, 0, none⟩) c.n c.n, .int .i64 0, .int .i64 0, .int .i64 0, .int .i64 0, .int .u64 0, .int .u64 0, .bool false] 109)) w.heap.size C c ⟨ws, 0, Um.noT⟩ := by
  have hC : C < w.heap.size := (Array.getElem?_eq_some_iff.1 hg).1
  have hn := heap_alloc_new w (.cells #[.int .i64 c.t, .int .i64 c.s, .int .i64 c.k, .int .i64 c.g, .int .u64 c.q, .slice (some ⟨C, 0, none⟩) c.n c.n, .int .i64 0, .int .i64 0, .int .i64 0, .int .i64 0, .int .u64 0, .int .u64 0, .bool false] 109)
  have hg' := (Below.heap_alloc w (.cells #[.int .i64 c.t, .int .i64 c.s, .int .i64 c.k, .int .i64 c.g, .int .u64 c.q, .slice (some ⟨C, 0, none⟩) c.n c.n, .int .i64 0, .int .i64 0, .int .i64 0, .int .i64 0, .int .u64 0, .int .u64 0, .bool false] 109) C hC).trans hg
  exact ⟨by simp, by simp; omega, by omega, h, blk_cell hn 0, blk_cell hn 1, blk_cell hn 2, blk_cell hn 3, blk_cell hn 4, blk_cell hn 5, blk_cell hn 6, blk_cell hn 7, blk_cell hn 8, blk_cell hn 9, blk_cell hn 10, blk_cell hn 11, blk_cell hn 12, row_frozen hn, row_frozen hg', fun j hj => row_cell hg' j hj, hw⟩

set_option maxHeartbeats 1000000 in
theorem sOf_wrong (c : Um.Cf) (v : Value) (w : World) (h : c.r = false) :
    Calls Try.prog 41 #[(.agg #[.int .i64 (c.t), .int .i64 (c.s), .int .i64 (c.k), .int .i64 (c.g), .int .u64 (c.q : Int)]), v] w fun e w' => e = .returned (.tuple #[.pointer none, .int .i64 1]) ∧ Below w.heap.size w w' := by
  have hR := cRight_any c.t c.s c.k c.g c.q
  rw [show Um.rt c.t c.s c.k c.g c.q = false from h] at hR
  clear h
  go_enter Try.func41, Try.ntmps41
  go_wp2_with fail
  refine (hR _).mono ?_
  rintro e w1 ⟨rfl, hb1⟩
  have hB1 : Below w.heap.size w w1 := ((Below.refl w.heap.size w).alloc (Nat.le_refl _) _).trans (hb1.mono (by simp))
  clear hb1
  go_wp2
  go_ret2
  exact ⟨rfl, hB1⟩

set_option maxHeartbeats 1000000 in
theorem sOf_few (c : Um.Cf) (a : Option Addr) (n cap : Nat) (w : World) (h : c.r = true) (hn : n ≠ c.n) :
    Calls Try.prog 41 #[(.agg #[.int .i64 (c.t), .int .i64 (c.s), .int .i64 (c.k), .int .i64 (c.g), .int .u64 (c.q : Int)]), .slice a n cap] w fun e w' => e = .returned (.tuple #[.pointer none, .int .i64 1]) ∧ Below w.heap.size w w' := by
  have hR := cRight_any c.t c.s c.k c.g c.q
  have hL := cLen_any c.t c.s c.k c.g c.q
  rw [Cf_len] at hL
  rw [show Um.rt c.t c.s c.k c.g c.q = true from h] at hR
  have hne : ((n : Int) == (c.n : Int)) = false := by simp; omega
  clear h hn
  generalize c.n = m at *
  go_enter Try.func41, Try.ntmps41
  go_wp2_with fail
  refine (hR _).mono ?_
  rintro e w1 ⟨rfl, hb1⟩
  have hB1 : Below w.heap.size w w1 := ((Below.refl w.heap.size w).alloc (Nat.le_refl _) _).trans (hb1.mono (by simp))
  obtain ⟨hc1, hf1⟩ := bcell hb1
  have hs1 : w.heap.size < w1.heap.size := by have := hb1.size; simp at this; omega
  clear hb1
  go_wp2_with fail
  refine (hL _).mono ?_
  rintro e w2 ⟨rfl, hb2⟩
  have hB2 := hB1.trans (hb2.mono hB1.size)
  clear hb2
  go_wp2
  go_ret2
  exact ⟨rfl, hB2⟩

set_option maxHeartbeats 2000000 in
theorem sOf_right (c : Um.Cf) (v : Value) (ws : Nat → Nat) (w : World) (h : c.r = true) (hv : IsWords w v c.n ws) :
    Calls Try.prog 41 #[(.agg #[.int .i64 (c.t), .int .i64 (c.s), .int .i64 (c.k), .int .i64 (c.g), .int .u64 (c.q : Int)]), v] w fun e w' => ∃ B C, e = .returned (.tuple #[.pointer (some ⟨B, 0, none⟩), .int .i64 0]) ∧ w.heap.size ≤ B ∧ w.heap.size ≤ C ∧ MemAt w' B C c ⟨ws, 0, Um.noT⟩ ∧ Below w.heap.size w w' := by
  have hR := cRight_any c.t c.s c.k c.g c.q
  have hL := cLen_any c.t c.s c.k c.g c.q
  rw [Cf_len] at hL
  rw [show Um.rt c.t c.s c.k c.g c.q = true from h] at hR
  have hp := Um.Cf.n_pos h
  have hn := c.n_le
  obtain ⟨a, cap, rfl⟩ := words_len hv
  have HV := hide hv
  have HR := hide h
  have hC : ∀ W, Below w.heap.size w W → Calls Try.prog 60 #[.slice a c.n cap] W fun e W' => e = .returned (.slice (some ⟨W.heap.size, 0, none⟩) c.n c.n) ∧ W'.heap[W.heap.size]? = some (.cells (rowW ws c.n).toArray 22 (0, 0)) ∧ Below W.heap.size W W' :=
    fun W hb => copied_any ((hv.low.below hb).is hb.size) (by omega) (by omega)
  clear h hv
  generalize hm : c.n = m at *
  have HM := hide hm
  clear hm
  go_enter Try.func41, Try.ntmps41
  go_wp2_with fail
  refine (hR _).mono ?_
  rintro e w1 ⟨rfl, hb1⟩
  have hB1 : Below w.heap.size w w1 := ((Below.refl w.heap.size w).alloc (Nat.le_refl _) _).trans (hb1.mono (by simp))
  obtain ⟨hc1, hf1⟩ := bcell hb1
  have hs1 : w.heap.size < w1.heap.size := by have := hb1.size; simp at this; omega
  have c0 : w1.cell? ⟨w.heap.size, 0, none⟩ = some (.int .i64 c.t) := by go_simp
  have c1 : w1.cell? ⟨w.heap.size, 1, none⟩ = some (.int .i64 c.s) := by go_simp
  have c2 : w1.cell? ⟨w.heap.size, 2, none⟩ = some (.int .i64 c.k) := by go_simp
  have c3 : w1.cell? ⟨w.heap.size, 3, none⟩ = some (.int .i64 c.g) := by go_simp
  have c4 : w1.cell? ⟨w.heap.size, 4, none⟩ = some (.int .u64 c.q) := by go_simp
  clear hb1 hc1 hf1 hR
  go_wp2_with fail
  refine (hL _).mono ?_
  rintro e w2 ⟨rfl, hb2⟩
  have hB2 := hB1.trans (hb2.mono hB1.size)
  have hs2 : w.heap.size < w2.heap.size := by have := hb2.size; omega
  have d0 := (hb2.cell (p := ⟨w.heap.size, 0, none⟩) hs1).trans c0
  have d1 := (hb2.cell (p := ⟨w.heap.size, 1, none⟩) hs1).trans c1
  have d2 := (hb2.cell (p := ⟨w.heap.size, 2, none⟩) hs1).trans c2
  have d3 := (hb2.cell (p := ⟨w.heap.size, 3, none⟩) hs1).trans c3
  have d4 := (hb2.cell (p := ⟨w.heap.size, 4, none⟩) hs1).trans c4
  clear hb2 hB1 hs1 c0 c1 c2 c3 c4 hL
  have HC := hide hC
  clear hC
  go_wp2_with fail
  go_region_with (go_at_call 60; refine ((unhide HC) _ (by first | exact hB2 | exact hB2.drew)).mono ?_; rintro e w3 ⟨rfl, hg3, hb3⟩; have HG3 := hide hg3; clear hg3; have e0 := (hb3.cell (p := ⟨w.heap.size, 0, none⟩) hs2).trans d0; have e1 := (hb3.cell (p := ⟨w.heap.size, 1, none⟩) hs2).trans d1; have e2 := (hb3.cell (p := ⟨w.heap.size, 2, none⟩) hs2).trans d2; have e3 := (hb3.cell (p := ⟨w.heap.size, 3, none⟩) hs2).trans d3; have e4 := (hb3.cell (p := ⟨w.heap.size, 4, none⟩) hs2).trans d4)
  all_goals
    have hB3 := hB2.trans ((below_undrew hb3).mono hB2.size)
    have hG3 : w3.heap[w2.heap.size]? = some (.cells (rowW ws m).toArray 22 (0, 0)) := unhide HG3
    have hz3 := hB2.size
    have HG := hide hG3
    clear hG3 HG3 hb3 e0 e1 e2 e3 e4 d0 d1 d2 d3 d4
    go_wp2
    go_ret2
    refine ⟨w3.heap.size, w2.heap.size, rfl, hB3.size, hz3, ?_, hB3.alloc hB3.size _⟩
    obtain rfl := unhide HM
    exact mem_new c (unhide HG) (unhide HR) (words_word (unhide HV))

end Go.Proofs.Ytjicfonpldobdaa

/-
  A memory behind stores: of a word, of the count, of the last access; accesses and spots in blocks.
-/
namespace Go.Proofs.Ytjicfonpldobdaa
set_option maxRecDepth 100000
open Go.RowKit Go.Sort

/-- an access lies in the block B -/
structure TchAt (W : World) (B : Nat) (x : Um.Tch) : Prop where
  lt : B < W.heap.size
  c0 : W.cell? ⟨B, 0, none⟩ = some (.int .i64 x.kind)
  c1 : W.cell? ⟨B, 1, none⟩ = some (.int .i64 x.a)
  c2 : W.cell? ⟨B, 2, none⟩ = some (.int .i64 x.b)
  c3 : W.cell? ⟨B, 3, none⟩ = some (.int .u64 x.old)
  c4 : W.cell? ⟨B, 4, none⟩ = some (.int .u64 x.new)
  c5 : W.cell? ⟨B, 5, none⟩ = some (.bool x.done)
  fz : ∀ o, W.frozen? ⟨B, o, none⟩ = false

theorem TchAt.kept {W W' : World} {B : Nat} {x : Um.Tch} (h : TchAt W B x) (hs : W.heap.size ≤ W'.heap.size) (hb : W'.heap[B]? = W.heap[B]?) : TchAt W' B x :=
  have eb : ∀ o, W'.cell? ⟨B, o, none⟩ = W.cell? ⟨B, o, none⟩ := fun _ => World.cell?_of_block (w := W) hb
  ⟨Nat.lt_of_lt_of_le h.lt hs, (eb _).trans h.c0, (eb _).trans h.c1, (eb _).trans h.c2, (eb _).trans h.c3, (eb _).trans h.c4, (eb _).trans h.c5, fun o => (World.frozen?_of_block (w := W) hb).trans (h.fz o)⟩

theorem TchAt.below {W W' : World} {B : Nat} {x : Um.Tch} (h : TchAt W B x) (b : Below W.heap.size W W') : TchAt W' B x := h.kept b.size (b.block B h.lt)

theorem TchAt.off {W W' : World} {B B' C' : Nat} {x : Um.Tch} (h : TchAt W B x) (b : Off B' C' W W') (h1 : B ≠ B') (h2 : B ≠ C') : TchAt W' B x := h.kept b.size (b.block B h.lt h1 h2)

theorem tchAt_new {W : World} {B : Nat} {e : TypeId} (x : Um.Tch) (hn : W.heap[B]? = some (.cells #[.int .i64 x.kind, .int .i64 x.a, .int .i64 x.b, .int .u64 x.old, .int .u64 x.new, .bool x.done] e (0, 0))) : TchAt W B x :=
  ⟨(Array.getElem?_eq_some_iff.1 hn).1, blk_cell hn 0, blk_cell hn 1, blk_cell hn 2, blk_cell hn 3, blk_cell hn 4, blk_cell hn 5, row_frozen hn⟩

/-- a spot lies in the block B -/
structure SpAt (W : World) (B : Nat) (a b : Int) : Prop where
  lt : B < W.heap.size
  c0 : W.cell? ⟨B, 0, none⟩ = some (.int .i64 a)
  c1 : W.cell? ⟨B, 1, none⟩ = some (.int .i64 b)

theorem SpAt.kept {W W' : World} {B : Nat} {x y : Int} (h : SpAt W B x y) (hs : W.heap.size ≤ W'.heap.size) (hb : W'.heap[B]? = W.heap[B]?) : SpAt W' B x y :=
  have eb : ∀ o, W'.cell? ⟨B, o, none⟩ = W.cell? ⟨B, o, none⟩ := fun _ => World.cell?_of_block (w := W) hb
  ⟨Nat.lt_of_lt_of_le h.lt hs, (eb _).trans h.c0, (eb _).trans h.c1⟩

theorem SpAt.below {W W' : World} {B : Nat} {x y : Int} (h : SpAt W B x y) (b : Below W.heap.size W W') : SpAt W' B x y := h.kept b.size (b.block B h.lt)

theorem SpAt.off {W W' : World} {B B' C' : Nat} {x y : Int} (h : SpAt W B x y) (b : Off B' C' W W') (h1 : B ≠ B') (h2 : B ≠ C') : SpAt W' B x y := h.kept b.size (b.block B h.lt h1 h2)

theorem spAt_new {W : World} {B : Nat} {e : TypeId} {fr : Nat × Nat} {x y : Int} (hn : W.heap[B]? = some (.cells #[.int .i64 x, .int .i64 y] e fr)) : SpAt W B x y :=
  ⟨(Array.getElem?_eq_some_iff.1 hn).1, blk_cell hn 0, blk_cell hn 1⟩

theorem alloc2_at (W : World) (o1 o2 : Obj) : ((W.alloc o1).alloc o2).heap[W.heap.size]? = some o1 ∧ ((W.alloc o1).alloc o2).heap[W.heap.size + 1]? = some o2 := by
  have h1 : (W.alloc o1).heap.size = W.heap.size + 1 := by simp
  refine ⟨?_, ?_⟩
  · rw [Below.heap_alloc _ _ _ (by omega), heap_alloc_new]
  · have := heap_alloc_new (W.alloc o1) o2
    rwa [h1] at this

theorem alloc3_at (W : World) (o1 o2 o3 : Obj) : (((W.alloc o1).alloc o2).alloc o3).heap[W.heap.size]? = some o1 ∧ (((W.alloc o1).alloc o2).alloc o3).heap[W.heap.size + 1]? = some o2 ∧ (((W.alloc o1).alloc o2).alloc o3).heap[W.heap.size + 2]? = some o3 := by
  have h2 : ((W.alloc o1).alloc o2).heap.size = W.heap.size + 2 := by simp
  refine ⟨?_, ?_, ?_⟩
  · rw [Below.heap_alloc _ _ _ (by omega)]; exact (alloc2_at W o1 o2).1
  · rw [Below.heap_alloc _ _ _ (by omega)]; exact (alloc2_at W o1 o2).2
  · have := heap_alloc_new ((W.alloc o1).alloc o2) o3
    rwa [h2] at this

theorem size_set (W : World) (p : Addr) (u : Value) : (W.setCell p u).heap.size = W.heap.size := by simp [World.setCell]

theorem cell_other {W : World} {B o : Nat} {p : Addr} {u : Value} (h : p.block ≠ B ∨ p.off ≠ o) : (W.setCell p u).cell? ⟨B, o, none⟩ = W.cell? ⟨B, o, none⟩ :=
  World.cell?_setCell_other _ _ _ _ (fun e => by subst e; simp at h)

theorem cell_same {W : World} {p : Addr} {u v : Value} (h : W.cell? p = some u) : (W.setCell p v).cell? p = some v := World.cell?_setCell_same' W p v (by rw [h]; rfl)

/-- a memory behind a store elsewhere -/
theorem MemAt.set {W : World} {B C : Nat} {c : Um.Cf} {m : Um.Mm} (h : MemAt W B C c m) {p : Addr} {u : Value} (h1 : p.block ≠ B) (h2 : p.block ≠ C) : MemAt (W.setCell p u) B C c m :=
  h.kept (Nat.le_of_eq (size_set _ _ _).symm) (Below.heap_setCell _ _ _ _ (Ne.symm h1)) (Below.heap_setCell _ _ _ _ (Ne.symm h2))

/-- behind a store of a word -/
theorem MemAt.setWord {W : World} {B C : Nat} {c : Um.Cf} {m : Um.Mm} (h : MemAt W B C c m) {p y : Nat} (hp : p < c.n) (hy : Um.Word y) : MemAt (W.setCell ⟨C, p, none⟩ (.int .u64 (y : Nat))) B C c ⟨Um.putW m.ws p y, m.cnt, m.l⟩ :=
  have eb : ∀ o, (W.setCell ⟨C, p, none⟩ (.int .u64 (y : Nat))).cell? ⟨B, o, none⟩ = W.cell? ⟨B, o, none⟩ := fun _ => cell_other (.inl h.ne.symm)
  ⟨by rw [size_set]; exact h.hB, by rw [size_set]; exact h.hC, h.ne, h.rt, (eb _).trans h.cf0, (eb _).trans h.cf1, (eb _).trans h.cf2, (eb _).trans h.cf3, (eb _).trans h.cf4, (eb _).trans h.sl, (eb _).trans h.ct,
    (eb _).trans h.l0, (eb _).trans h.l1, (eb _).trans h.l2, (eb _).trans h.l3, (eb _).trans h.l4, (eb _).trans h.l5, fun o => by rw [World.frozen?_setCell]; exact h.fB o, fun o => by rw [World.frozen?_setCell]; exact h.fC o,
    fun j hj => by
      by_cases e : j = p
      · subst e
        rw [cell_same (h.ws j hj)]
        simp [Um.putW]
      · rw [cell_other (.inr (Ne.symm e)), h.ws j hj]
        simp [Um.putW, e],
    Um.word_putW h.wd hy⟩

/-- behind a store of the count -/
theorem MemAt.setCnt {W : World} {B C : Nat} {c : Um.Cf} {m : Um.Mm} (h : MemAt W B C c m) (z : Int) : MemAt (W.setCell ⟨B, 6, none⟩ (.int .i64 z)) B C c ⟨m.ws, z, m.l⟩ :=
  have eb : ∀ o, o ≠ 6 → (W.setCell ⟨B, 6, none⟩ (.int .i64 z)).cell? ⟨B, o, none⟩ = W.cell? ⟨B, o, none⟩ := fun _ e => cell_other (.inr (Ne.symm e))
  ⟨by rw [size_set]; exact h.hB, by rw [size_set]; exact h.hC, h.ne, h.rt, (eb _ (by decide)).trans h.cf0, (eb _ (by decide)).trans h.cf1, (eb _ (by decide)).trans h.cf2, (eb _ (by decide)).trans h.cf3, (eb _ (by decide)).trans h.cf4, (eb _ (by decide)).trans h.sl, cell_same h.ct,
    (eb _ (by decide)).trans h.l0, (eb _ (by decide)).trans h.l1, (eb _ (by decide)).trans h.l2, (eb _ (by decide)).trans h.l3, (eb _ (by decide)).trans h.l4, (eb _ (by decide)).trans h.l5, fun o => by rw [World.frozen?_setCell]; exact h.fB o, fun o => by rw [World.frozen?_setCell]; exact h.fC o,
    fun j hj => (cell_other (.inl h.ne)).trans (h.ws j hj), h.wd⟩

theorem TchAt.set0 {W : World} {B : Nat} {x : Um.Tch} (h : TchAt W B x) (z : Int) : TchAt (W.setCell ⟨B, 0, none⟩ (.int .i64 z)) B ⟨z, x.a, x.b, x.old, x.new, x.done⟩ :=
  ⟨by rw [size_set]; exact h.lt, cell_same h.c0, (cell_other (.inr (by simp))).trans h.c1, (cell_other (.inr (by simp))).trans h.c2, (cell_other (.inr (by simp))).trans h.c3, (cell_other (.inr (by simp))).trans h.c4, (cell_other (.inr (by simp))).trans h.c5, fun o => by rw [World.frozen?_setCell]; exact h.fz o⟩

theorem TchAt.set1 {W : World} {B : Nat} {x : Um.Tch} (h : TchAt W B x) (z : Int) : TchAt (W.setCell ⟨B, 1, none⟩ (.int .i64 z)) B ⟨x.kind, z, x.b, x.old, x.new, x.done⟩ :=
  ⟨by rw [size_set]; exact h.lt, (cell_other (.inr (by simp))).trans h.c0, cell_same h.c1, (cell_other (.inr (by simp))).trans h.c2, (cell_other (.inr (by simp))).trans h.c3, (cell_other (.inr (by simp))).trans h.c4, (cell_other (.inr (by simp))).trans h.c5, fun o => by rw [World.frozen?_setCell]; exact h.fz o⟩

theorem TchAt.set2 {W : World} {B : Nat} {x : Um.Tch} (h : TchAt W B x) (z : Int) : TchAt (W.setCell ⟨B, 2, none⟩ (.int .i64 z)) B ⟨x.kind, x.a, z, x.old, x.new, x.done⟩ :=
  ⟨by rw [size_set]; exact h.lt, (cell_other (.inr (by simp))).trans h.c0, (cell_other (.inr (by simp))).trans h.c1, cell_same h.c2, (cell_other (.inr (by simp))).trans h.c3, (cell_other (.inr (by simp))).trans h.c4, (cell_other (.inr (by simp))).trans h.c5, fun o => by rw [World.frozen?_setCell]; exact h.fz o⟩

theorem TchAt.set3 {W : World} {B : Nat} {x : Um.Tch} (h : TchAt W B x) (z : Nat) : TchAt (W.setCell ⟨B, 3, none⟩ (.int .u64 (z : Nat))) B ⟨x.kind, x.a, x.b, z, x.new, x.done⟩ :=
  ⟨by rw [size_set]; exact h.lt, (cell_other (.inr (by simp))).trans h.c0, (cell_other (.inr (by simp))).trans h.c1, (cell_other (.inr (by simp))).trans h.c2, cell_same h.c3, (cell_other (.inr (by simp))).trans h.c4, (cell_other (.inr (by simp))).trans h.c5, fun o => by rw [World.frozen?_setCell]; exact h.fz o⟩

theorem TchAt.set4 {W : World} {B : Nat} {x : Um.Tch} (h : TchAt W B x) (z : Nat) : TchAt (W.setCell ⟨B, 4, none⟩ (.int .u64 (z : Nat))) B ⟨x.kind, x.a, x.b, x.old, z, x.done⟩ :=
  ⟨by rw [size_set]; exact h.lt, (cell_other (.inr (by simp))).trans h.c0, (cell_other (.inr (by simp))).trans h.c1, (cell_other (.inr (by simp))).trans h.c2, (cell_other (.inr (by simp))).trans h.c3, cell_same h.c4, (cell_other (.inr (by simp))).trans h.c5, fun o => by rw [World.frozen?_setCell]; exact h.fz o⟩

theorem TchAt.set5 {W : World} {B : Nat} {x : Um.Tch} (h : TchAt W B x) (z : Bool) : TchAt (W.setCell ⟨B, 5, none⟩ (.bool z)) B ⟨x.kind, x.a, x.b, x.old, x.new, z⟩ :=
  ⟨by rw [size_set]; exact h.lt, (cell_other (.inr (by simp))).trans h.c0, (cell_other (.inr (by simp))).trans h.c1, (cell_other (.inr (by simp))).trans h.c2, (cell_other (.inr (by simp))).trans h.c3, (cell_other (.inr (by simp))).trans h.c4, cell_same h.c5, fun o => by rw [World.frozen?_setCell]; exact h.fz o⟩

theorem TchAt.drew {W : World} {B : Nat} {x : Um.Tch} (h : TchAt W B x) : TchAt W.drew B x := ⟨h.lt, h.c0, h.c1, h.c2, h.c3, h.c4, h.c5, h.fz⟩

theorem MemAt.drew {W : World} {B C : Nat} {c : Um.Cf} {m : Um.Mm} (h : MemAt W B C c m) : MemAt W.drew B C c m :=
  h.kept (Nat.le_refl _) rfl rfl

theorem TchAt.set {W : World} {B : Nat} {x : Um.Tch} (h : TchAt W B x) {p : Addr} {u : Value} (h1 : p.block ≠ B) : TchAt (W.setCell p u) B x :=
  h.kept (Nat.le_of_eq (size_set _ _ _).symm) (Below.heap_setCell _ _ _ _ (Ne.symm h1))

theorem SpAt.set {W : World} {B : Nat} {a b : Int} (h : SpAt W B a b) {p : Addr} {u : Value} (h1 : p.block ≠ B) : SpAt (W.setCell p u) B a b :=
  h.kept (Nat.le_of_eq (size_set _ _ _).symm) (Below.heap_setCell _ _ _ _ (Ne.symm h1))

theorem MemAt.setL0 {W : World} {B C : Nat} {c : Um.Cf} {m : Um.Mm} (h : MemAt W B C c m) (z : Int) : MemAt (W.setCell ⟨B, 7, none⟩ (.int .i64 z)) B C c ⟨m.ws, m.cnt, ⟨z, m.l.a, m.l.b, m.l.old, m.l.new, m.l.done⟩⟩ :=
  have eb : ∀ o, o ≠ 7 → (W.setCell ⟨B, 7, none⟩ (.int .i64 z)).cell? ⟨B, o, none⟩ = W.cell? ⟨B, o, none⟩ := fun _ e => cell_other (.inr (Ne.symm e))
  ⟨by rw [size_set]; exact h.hB, by rw [size_set]; exact h.hC, h.ne, h.rt, (eb _ (by decide)).trans h.cf0, (eb _ (by decide)).trans h.cf1, (eb _ (by decide)).trans h.cf2, (eb _ (by decide)).trans h.cf3, (eb _ (by decide)).trans h.cf4, (eb _ (by decide)).trans h.sl, (eb _ (by decide)).trans h.ct,
    cell_same h.l0, (eb _ (by decide)).trans h.l1, (eb _ (by decide)).trans h.l2, (eb _ (by decide)).trans h.l3, (eb _ (by decide)).trans h.l4, (eb _ (by decide)).trans h.l5, fun o => by rw [World.frozen?_setCell]; exact h.fB o, fun o => by rw [World.frozen?_setCell]; exact h.fC o,
    fun j hj => (cell_other (.inl h.ne)).trans (h.ws j hj), h.wd⟩

theorem MemAt.setL1 {W : World} {B C : Nat} {c : Um.Cf} {m : Um.Mm} (h : MemAt W B C c m) (z : Int) : MemAt (W.setCell ⟨B, 8, none⟩ (.int .i64 z)) B C c ⟨m.ws, m.cnt, ⟨m.l.kind, z, m.l.b, m.l.old, m.l.new, m.l.done⟩⟩ :=
  have eb : ∀ o, o ≠ 8 → (W.setCell ⟨B, 8, none⟩ (.int .i64 z)).cell? ⟨B, o, none⟩ = W.cell? ⟨B, o, none⟩ := fun _ e => cell_other (.inr (Ne.symm e))
  ⟨by rw [size_set]; exact h.hB, by rw [size_set]; exact h.hC, h.ne, h.rt, (eb _ (by decide)).trans h.cf0, (eb _ (by decide)).trans h.cf1, (eb _ (by decide)).trans h.cf2, (eb _ (by decide)).trans h.cf3, (eb _ (by decide)).trans h.cf4, (eb _ (by decide)).trans h.sl, (eb _ (by decide)).trans h.ct,
    (eb _ (by decide)).trans h.l0, cell_same h.l1, (eb _ (by decide)).trans h.l2, (eb _ (by decide)).trans h.l3, (eb _ (by decide)).trans h.l4, (eb _ (by decide)).trans h.l5, fun o => by rw [World.frozen?_setCell]; exact h.fB o, fun o => by rw [World.frozen?_setCell]; exact h.fC o,
    fun j hj => (cell_other (.inl h.ne)).trans (h.ws j hj), h.wd⟩

theorem MemAt.setL2 {W : World} {B C : Nat} {c : Um.Cf} {m : Um.Mm} (h : MemAt W B C c m) (z : Int) : MemAt (W.setCell ⟨B, 9, none⟩ (.int .i64 z)) B C c ⟨m.ws, m.cnt, ⟨m.l.kind, m.l.a, z, m.l.old, m.l.new, m.l.done⟩⟩ :=
  have eb : ∀ o, o ≠ 9 → (W.setCell ⟨B, 9, none⟩ (.int .i64 z)).cell? ⟨B, o, none⟩ = W.cell? ⟨B, o, none⟩ := fun _ e => cell_other (.inr (Ne.symm e))
  ⟨by rw [size_set]; exact h.hB, by rw [size_set]; exact h.hC, h.ne, h.rt, (eb _ (by decide)).trans h.cf0, (eb _ (by decide)).trans h.cf1, (eb _ (by decide)).trans h.cf2, (eb _ (by decide)).trans h.cf3, (eb _ (by decide)).trans h.cf4, (eb _ (by decide)).trans h.sl, (eb _ (by decide)).trans h.ct,
    (eb _ (by decide)).trans h.l0, (eb _ (by decide)).trans h.l1, cell_same h.l2, (eb _ (by decide)).trans h.l3, (eb _ (by decide)).trans h.l4, (eb _ (by decide)).trans h.l5, fun o => by rw [World.frozen?_setCell]; exact h.fB o, fun o => by rw [World.frozen?_setCell]; exact h.fC o,
    fun j hj => (cell_other (.inl h.ne)).trans (h.ws j hj), h.wd⟩

theorem MemAt.setL3 {W : World} {B C : Nat} {c : Um.Cf} {m : Um.Mm} (h : MemAt W B C c m) (z : Nat) : MemAt (W.setCell ⟨B, 10, none⟩ (.int .u64 (z : Nat))) B C c ⟨m.ws, m.cnt, ⟨m.l.kind, m.l.a, m.l.b, z, m.l.new, m.l.done⟩⟩ :=
  have eb : ∀ o, o ≠ 10 → (W.setCell ⟨B, 10, none⟩ (.int .u64 (z : Nat))).cell? ⟨B, o, none⟩ = W.cell? ⟨B, o, none⟩ := fun _ e => cell_other (.inr (Ne.symm e))
  ⟨by rw [size_set]; exact h.hB, by rw [size_set]; exact h.hC, h.ne, h.rt, (eb _ (by decide)).trans h.cf0, (eb _ (by decide)).trans h.cf1, (eb _ (by decide)).trans h.cf2, (eb _ (by decide)).trans h.cf3, (eb _ (by decide)).trans h.cf4, (eb _ (by decide)).trans h.sl, (eb _ (by decide)).trans h.ct,
    (eb _ (by decide)).trans h.l0, (eb _ (by decide)).trans h.l1, (eb _ (by decide)).trans h.l2, cell_same h.l3, (eb _ (by decide)).trans h.l4, (eb _ (by decide)).trans h.l5, fun o => by rw [World.frozen?_setCell]; exact h.fB o, fun o => by rw [World.frozen?_setCell]; exact h.fC o,
    fun j hj => (cell_other (.inl h.ne)).trans (h.ws j hj), h.wd⟩

theorem MemAt.setL4 {W : World} {B C : Nat} {c : Um.Cf} {m : Um.Mm} (h : MemAt W B C c m) (z : Nat) : MemAt (W.setCell ⟨B, 11, none⟩ (.int .u64 (z : Nat))) B C c ⟨m.ws, m.cnt, ⟨m.l.kind, m.l.a, m.l.b, m.l.old, z, m.l.done⟩⟩ :=
  have eb : ∀ o, o ≠ 11 → (W.setCell ⟨B, 11, none⟩ (.int .u64 (z : Nat))).cell? ⟨B, o, none⟩ = W.cell? ⟨B, o, none⟩ := fun _ e => cell_other (.inr (Ne.symm e))
  ⟨by rw [size_set]; exact h.hB, by rw [size_set]; exact h.hC, h.ne, h.rt, (eb _ (by decide)).trans h.cf0, (eb _ (by decide)).trans h.cf1, (eb _ (by decide)).trans h.cf2, (eb _ (by decide)).trans h.cf3, (eb _ (by decide)).trans h.cf4, (eb _ (by decide)).trans h.sl, (eb _ (by decide)).trans h.ct,
    (eb _ (by decide)).trans h.l0, (eb _ (by decide)).trans h.l1, (eb _ (by decide)).trans h.l2, (eb _ (by decide)).trans h.l3, cell_same h.l4, (eb _ (by decide)).trans h.l5, fun o => by rw [World.frozen?_setCell]; exact h.fB o, fun o => by rw [World.frozen?_setCell]; exact h.fC o,
    fun j hj => (cell_other (.inl h.ne)).trans (h.ws j hj), h.wd⟩

theorem MemAt.setL5 {W : World} {B C : Nat} {c : Um.Cf} {m : Um.Mm} (h : MemAt W B C c m) (z : Bool) : MemAt (W.setCell ⟨B, 12, none⟩ (.bool z)) B C c ⟨m.ws, m.cnt, ⟨m.l.kind, m.l.a, m.l.b, m.l.old, m.l.new, z⟩⟩ :=
  have eb : ∀ o, o ≠ 12 → (W.setCell ⟨B, 12, none⟩ (.bool z)).cell? ⟨B, o, none⟩ = W.cell? ⟨B, o, none⟩ := fun _ e => cell_other (.inr (Ne.symm e))
  ⟨by rw [size_set]; exact h.hB, by rw [size_set]; exact h.hC, h.ne, h.rt, (eb _ (by decide)).trans h.cf0, (eb _ (by decide)).trans h.cf1, (eb _ (by decide)).trans h.cf2, (eb _ (by decide)).trans h.cf3, (eb _ (by decide)).trans h.cf4, (eb _ (by decide)).trans h.sl, (eb _ (by decide)).trans h.ct,
    (eb _ (by decide)).trans h.l0, (eb _ (by decide)).trans h.l1, (eb _ (by decide)).trans h.l2, (eb _ (by decide)).trans h.l3, (eb _ (by decide)).trans h.l4, cell_same h.l5, fun o => by rw [World.frozen?_setCell]; exact h.fB o, fun o => by rw [World.frozen?_setCell]; exact h.fC o,
    fun j hj => (cell_other (.inl h.ne)).trans (h.ws j hj), h.wd⟩

theorem next_eq (z : Int) : wrap64 (z + 1) = Um.nextI z := by
  unfold wrap64 Um.nextI
  rfl

/-- the block B holds these cells -/
structure BlkAt (W : World) (B : Nat) (vs : List Value) : Prop where
  lt : B < W.heap.size
  cell : ∀ (j : Nat) (v : Value), vs[j]? = some v → W.cell? ⟨B, j, none⟩ = some v
  fz : ∀ o, W.frozen? ⟨B, o, none⟩ = false

theorem BlkAt.kept {W W' : World} {B : Nat} {vs : List Value} (h : BlkAt W B vs) (hs : W.heap.size ≤ W'.heap.size) (hb : W'.heap[B]? = W.heap[B]?) : BlkAt W' B vs :=
  ⟨Nat.lt_of_lt_of_le h.lt hs, fun j v e => (World.cell?_of_block (w := W) hb).trans (h.cell j v e), fun o => (World.frozen?_of_block (w := W) hb).trans (h.fz o)⟩

theorem BlkAt.below {W W' : World} {B : Nat} {vs : List Value} (h : BlkAt W B vs) (b : Below W.heap.size W W') : BlkAt W' B vs := h.kept b.size (b.block B h.lt)

theorem BlkAt.off {W W' : World} {B B' C' : Nat} {vs : List Value} (h : BlkAt W B vs) (b : Off B' C' W W') (h1 : B ≠ B') (h2 : B ≠ C') : BlkAt W' B vs := h.kept b.size (b.block B h.lt h1 h2)

theorem BlkAt.drew {W : World} {B : Nat} {vs : List Value} (h : BlkAt W B vs) : BlkAt W.drew B vs := h.kept (Nat.le_refl _) rfl

theorem BlkAt.set {W : World} {B : Nat} {vs : List Value} (h : BlkAt W B vs) {p : Addr} {u : Value} (h1 : p.block ≠ B) : BlkAt (W.setCell p u) B vs :=
  h.kept (Nat.le_of_eq (size_set _ _ _).symm) (Below.heap_setCell _ _ _ _ (Ne.symm h1))

theorem BlkAt.put {W : World} {B : Nat} {vs : List Value} (h : BlkAt W B vs) (j : Nat) (u : Value) : BlkAt (W.setCell ⟨B, j, none⟩ u) B (vs.set j u) := by
  refine ⟨by rw [size_set]; exact h.lt, fun i v e => ?_, fun o => by rw [World.frozen?_setCell]; exact h.fz o⟩
  by_cases e1 : i = j
  · subst e1
    rw [List.getElem?_set] at e
    simp at e
    obtain ⟨e2, rfl⟩ := e
    exact cell_same (h.cell i _ (List.getElem?_eq_getElem e2))
  · rw [cell_other (.inr (Ne.symm e1))]
    rw [List.getElem?_set_ne (Ne.symm e1)] at e
    exact h.cell i v e

theorem blkAt_new {W : World} {B : Nat} {e : TypeId} {cs : Array Value} (hn : W.heap[B]? = some (.cells cs e (0, 0))) : BlkAt W B cs.toList :=
  ⟨(Array.getElem?_eq_some_iff.1 hn).1, fun j v hv => (blk_cell hn j).trans (by simpa using hv), row_frozen hn⟩

theorem isSome_set (W : World) (p q : Addr) (u : Value) (h : (W.cell? q).isSome = true) : ((W.setCell p u).cell? q).isSome = true := by
  obtain ⟨v, hv⟩ := Option.isSome_iff_exists.1 h
  obtain ⟨v', h'⟩ := cell?_setCell_some (p := p) (x := u) hv
  rw [h']
  rfl

theorem alloc6_at (W : World) (o1 o2 o3 o4 o5 o6 : Obj) {X : World} (hX : (((((W.alloc o1).alloc o2).alloc o3).alloc o4).alloc o5).alloc o6 = X) :
    X.heap[W.heap.size]? = some o1 ∧ X.heap[W.heap.size + 1]? = some o2 ∧ X.heap[W.heap.size + 1 + 1]? = some o3 ∧ X.heap[W.heap.size + 1 + 1 + 1]? = some o4 ∧ X.heap[W.heap.size + 1 + 1 + 1 + 1]? = some o5 ∧ X.heap[W.heap.size + 1 + 1 + 1 + 1 + 1]? = some o6 ∧ Below W.heap.size W X ∧ X.heap.size = W.heap.size + 6 := by
  subst hX
  obtain ⟨h1, h2, h3⟩ := alloc3_at W o1 o2 o3
  have hs : (((W.alloc o1).alloc o2).alloc o3).heap.size = W.heap.size + 3 := by simp
  have hb : Below W.heap.size W (((W.alloc o1).alloc o2).alloc o3) := (((Below.refl _ _).alloc (Nat.le_refl _) _).alloc (by simp) _).alloc (by simp; omega) _
  generalize ((W.alloc o1).alloc o2).alloc o3 = V at *
  obtain ⟨h4, h5, h6⟩ := alloc3_at V o4 o5 o6
  have hb2 : Below V.heap.size V (((V.alloc o4).alloc o5).alloc o6) := (((Below.refl _ _).alloc (Nat.le_refl _) _).alloc (by simp) _).alloc (by simp; omega) _
  have hs2 : (((V.alloc o4).alloc o5).alloc o6).heap.size = V.heap.size + 3 := by simp
  generalize ((V.alloc o4).alloc o5).alloc o6 = X at *
  rw [hs] at h4 h5 h6
  exact ⟨(hb2.block _ (by omega)).trans h1, (hb2.block _ (by omega)).trans h2, (hb2.block _ (by omega)).trans h3, h4, h5, h6, hb.trans (hb2.mono hb.size), by omega⟩

end Go.Proofs.Ytjicfonpldobdaa

/-
  The walk of an access of a memory.
-/
namespace Go.Proofs.Ytjicfonpldobdaa
set_option maxRecDepth 100000
open Go.RowKit Go.Sort

theorem nextI_wrap (z : Int) : IntKind.i64.wrap (z + 1) = Um.nextI z := by
  rw [IntKind.wrap_i64]
  rfl

theorem egL (args : Array Value) (w : World) : (callFunc 46 args).run Try.prog w = .ok (.enter 46 args) w := by go_simp
theorem egS (args : Array Value) (w : World) : (callFunc 49 args).run Try.prog w = .ok (.enter 49 args) w := by go_simp
theorem egW (args : Array Value) (w : World) : (callFunc 50 args).run Try.prog w = .ok (.enter 50 args) w := by go_simp
theorem egA (args : Array Value) (w : World) : (callFunc 51 args).run Try.prog w = .ok (.enter 51 args) w := by go_simp

set_option maxHeartbeats 2000000 in
theorem mAccess_hit {W : World} {B C : Nat} {c : Um.Cf} {m : Um.Mm} (h : MemAt W B C c m) (kind a b : Int) (o v : Nat) (F : FuncId) (eg : ∀ args w, (callFunc F args).run Try.prog w = .ok (.enter F args) w)
    (hF : ∀ x w, Calls Try.prog F #[.agg #[.int .u64 o, .int .u64 v], .int .u64 (x : Nat)] w fun e w' => e = .returned (.tuple #[.int .u64 (Um.trn kind o v x : Nat), .bool (Um.trd kind o x)]) ∧ Below w.heap.size w w')
    (hb0 : -9223372036854775808 ≤ b) (hb1 : b ≤ 9223372036854775807) (hv : Um.Word v) (p : Nat) (hp : c.cl a b = p) :
    Calls Try.prog 45 #[.pointer (some ⟨B, 0, none⟩), .int .i64 kind, (.agg #[.int .i64 a, .int .i64 b]), .func (.func F) #[.agg #[.int .u64 o, .int .u64 v]] #[]] W fun e W' =>
      e = .returned (.agg #[.int .i64 kind, .int .i64 a, .int .i64 b, .int .u64 (m.ws p : Nat), .int .u64 ((Um.trn kind o v (m.ws p) : Nat)), .bool (Um.trd kind o (m.ws p))]) ∧ MemAt W' B C c (Um.mhit m p kind a b o v) ∧ Off B C W W' := by
  have hcl := fun w => cCell_any c.t c.s c.k c.g c.q a b w hb0 hb1
  rw [show Um.cellN (Um.rt c.t c.s c.k c.g c.q) c.t c.s c.k a b = p from hp] at hcl
  have hpn : p < c.n := by have := Um.Cf.cl_lt (c := c) (a := a) (b := b) (by omega); rw [hp] at this; simpa using this
  have hW := hide (h.wd p hpn)
  have hBn : B ≠ W.heap.size ∧ B ≠ W.heap.size + 1 ∧ B ≠ W.heap.size + 1 + 1 := by have := h.hB; omega
  have hCn : C ≠ W.heap.size ∧ C ≠ W.heap.size + 1 ∧ C ≠ W.heap.size + 1 + 1 := by have := h.hC; omega
  clear hp hb0 hb1
  have hne := h.ne
  go_enter Try.func45, Try.ntmps45
  go_wp2_with fail
  generalize hw1 : ((W.alloc (.cells #[.int .i64 a, .int .i64 b] 39)).alloc (.cells #[.int .i64 0, .int .i64 0, .int .i64 0, .int .u64 0, .int .u64 0, .bool false] 87)).alloc (.cells #[.int .i64 kind, .int .i64 a, .int .i64 b, .int .u64 0, .int .u64 0, .bool false] 87) = w1
  obtain ⟨hS1, hR1, hT1⟩ : SpAt w1 W.heap.size a b ∧ TchAt w1 (W.heap.size + 1) ⟨0, 0, 0, 0, 0, false⟩ ∧ TchAt w1 (W.heap.size + 1 + 1) ⟨kind, a, b, 0, 0, false⟩ := by
    subst hw1
    obtain ⟨h1, h2, h3⟩ := alloc3_at W (.cells #[.int .i64 a, .int .i64 b] 39) (.cells #[.int .i64 0, .int .i64 0, .int .i64 0, .int .u64 0, .int .u64 0, .bool false] 87) (.cells #[.int .i64 kind, .int .i64 a, .int .i64 b, .int .u64 0, .int .u64 0, .bool false] 87)
    exact ⟨spAt_new h1, tchAt_new _ h2, tchAt_new _ h3⟩
  have hO1 : Off B C W w1 := by
    subst hw1
    exact (((Off.refl B C W).alloc _).alloc _).alloc _
  have hM1 : MemAt w1 B C c m := by
    subst hw1
    exact h.below ((((Below.refl W.heap.size W).alloc (Nat.le_refl _) _).alloc (by simp) _).alloc (by simp; omega) _) h.hB h.hC
  clear hw1 h
  obtain ⟨_, a0, a1⟩ := id hS1
  obtain ⟨_, _, _, _, f0, f1, f2, f3, f4, _⟩ := id hM1
  have k0 : ∀ d os, (grow (redrawn w1 d) os).cell? ⟨B, 0, none⟩ = some (.int .i64 c.t) := fun d os => cell_regrown f0 d os
  have k1 : ∀ d os, (grow (redrawn w1 d) os).cell? ⟨B, 1, none⟩ = some (.int .i64 c.s) := fun d os => cell_regrown f1 d os
  have k2 : ∀ d os, (grow (redrawn w1 d) os).cell? ⟨B, 2, none⟩ = some (.int .i64 c.k) := fun d os => cell_regrown f2 d os
  have k3 : ∀ d os, (grow (redrawn w1 d) os).cell? ⟨B, 3, none⟩ = some (.int .i64 c.g) := fun d os => cell_regrown f3 d os
  have k4 : ∀ d os, (grow (redrawn w1 d) os).cell? ⟨B, 4, none⟩ = some (.int .u64 c.q) := fun d os => cell_regrown f4 d os
  have k5 : ∀ d os, (grow (redrawn w1 d) os).cell? ⟨W.heap.size, 0, none⟩ = some (.int .i64 a) := fun d os => cell_regrown a0 d os
  have k6 : ∀ d os, (grow (redrawn w1 d) os).cell? ⟨W.heap.size, 1, none⟩ = some (.int .i64 b) := fun d os => cell_regrown a1 d os
  refine wp_region_quiet_below (by kernel_rfl) (by kernel_rfl) ?_
  repeat (go_big_quiet_step (first
    | (go_at_call 65; exact Calls.regrown_of (hcl _))))
  refine wpQuiet_nil ?_
  intro w2 hw2
  have hb2 : Below w1.heap.size w1 w2 := by
    obtain ⟨⟨dq, osq⟩, hw3⟩ := hw2
    subst hw3
    exact below_regrown w1 dq osq
  have hR2 := hR1.below hb2
  have hT2 := hT1.below hb2
  have hM2 := hM1.below hb2 hM1.hB hM1.hC
  have hO2 := hO1.then hb2
  clear hb2 hw2 hR1 hT1 hM1 hO1 hS1 a0 a1 f0 f1 f2 f3 f4 k0 k1 k2 k3 k4 k5 k6 hcl
  have hTl : W.heap.size ≤ W.heap.size + 1 + 1 := by omega
  have hRl : W.heap.size ≤ W.heap.size + 1 := by omega
  have hTR : W.heap.size + 1 + 1 ≠ W.heap.size + 1 := by omega
  obtain ⟨_, hBR, hBT⟩ := hBn
  obtain ⟨_, hCR, hCT⟩ := hCn
  generalize W.heap.size + 1 + 1 = T at *
  generalize W.heap.size + 1 = R at *
  obtain ⟨_, _, _, _, _, _, _, _, _, e5, _⟩ := id hM2
  have e6 := hM2.ws p hpn
  obtain ⟨_, _, _, _, t3, _, _, tz⟩ := id hT2
  have tz3 := tz 3
  have hpi : (p : Int) < (c.n : Int) := by omega
  have hx0 : Um.Word (m.ws p) := unhide hW
  have HX := hide hx0
  clear hx0 hW tz
  go_wp2_with fail
  refine (hF _ _).mono ?_
  rintro e w4 ⟨rfl, hb4⟩
  have hT3 : TchAt (w2.setCell ⟨T, 3, none⟩ (.int .u64 (m.ws p : Nat))) T ⟨kind, a, b, m.ws p, 0, false⟩ := hT2.set3 (m.ws p)
  have hR3 := hR2.set (p := ⟨T, 3, none⟩) (u := .int .u64 (m.ws p : Nat)) hTR
  have hM3 := hM2.set (p := ⟨T, 3, none⟩) (u := .int .u64 (m.ws p : Nat)) (Ne.symm hBT) (Ne.symm hCT)
  have hO3 := hO2.set (p := ⟨T, 3, none⟩) (.inr (.inr hTl)) (.int .u64 (m.ws p : Nat))
  generalize w2.setCell ⟨T, 3, none⟩ (.int .u64 (m.ws p : Nat)) = w3 at *
  have hT4 := hT3.below hb4
  have hR4 := hR3.below hb4
  have hM4 := hM3.below hb4 hM3.hB hM3.hC
  have hO4 := hO3.then hb4
  clear hb4 hT3 hR3 hM3 hO3 hT2 hR2 hM2 hO2 hF eg e5 e6 t3 tz3
  obtain ⟨_, _, _, _, _, t4, t5, tz⟩ := id hT4
  have tz4 := tz 4
  have tz5 := tz 5
  clear tz
  go_wp2_with fail
  have hT5 : TchAt ((w4.setCell ⟨T, 4, none⟩ (.int .u64 (Um.trn kind o v (m.ws p) : Nat))).setCell ⟨T, 5, none⟩ (.bool (Um.trd kind o (m.ws p)))) T ⟨kind, a, b, m.ws p, Um.trn kind o v (m.ws p), Um.trd kind o (m.ws p)⟩ := (hT4.set4 (Um.trn kind o v (m.ws p))).set5 _
  have hR5 := (hR4.set (p := ⟨T, 4, none⟩) (u := .int .u64 (Um.trn kind o v (m.ws p) : Nat)) hTR).set (p := ⟨T, 5, none⟩) (u := .bool (Um.trd kind o (m.ws p))) hTR
  have hM5 := (hM4.set (p := ⟨T, 4, none⟩) (u := .int .u64 (Um.trn kind o v (m.ws p) : Nat)) (Ne.symm hBT) (Ne.symm hCT)).set (p := ⟨T, 5, none⟩) (u := .bool (Um.trd kind o (m.ws p))) (Ne.symm hBT) (Ne.symm hCT)
  have hO5 := (hO4.set (p := ⟨T, 4, none⟩) (.inr (.inr hTl)) (.int .u64 (Um.trn kind o v (m.ws p) : Nat))).set (p := ⟨T, 5, none⟩) (.inr (.inr hTl)) (.bool (Um.trd kind o (m.ws p)))
  generalize World.setCell (w4.setCell ⟨T, 4, none⟩ (.int .u64 (Um.trn kind o v (m.ws p) : Nat))) ⟨T, 5, none⟩ (.bool (Um.trd kind o (m.ws p))) = w5 at *
  clear hT4 hR4 hM4 hO4 t4 t5 tz4 tz5
  have hy := hide (Um.word_trn (kind := kind) (old := o) hv (unhide HX))
  generalize hye : Um.trn kind o v (m.ws p) = y at *
  generalize hde : Um.trd kind o (m.ws p) = dn at *
  have HYE := hide hye
  have HDE := hide hde
  clear hye hde
  have HT := hide hT5
  have HR := hide hR5
  have HM := hide hM5
  have HO := hide hO5
  have e6 := hM5.ws p hpn
  obtain ⟨_, t0, t1, t2, t3, t4, t5, tz⟩ := hT5
  obtain ⟨_, r0, r1, r2, r3, r4, r5, rz⟩ := hR5
  obtain ⟨_, _, _, _, _, _, _, _, _, m5, m6, m7, m8, m9, m10, m11, m12, mz, mc, _, _⟩ := hM5
  have rz0 := rz 0
  have rz1 := rz 1
  have rz2 := rz 2
  have rz3 := rz 3
  have rz4 := rz 4
  have rz5 := rz 5
  have mz6 := mz 6
  have mz7 := mz 7
  have mz8 := mz 8
  have mz9 := mz 9
  have mz10 := mz 10
  have mz11 := mz 11
  have mz12 := mz 12
  have mcp := mc p
  clear tz rz mz mc hO5
  go_region
  go_wp2
  have hM := unhide HM
  have hR := unhide HR
  have hO := unhide HO
  have hY := unhide hy
  have hm := (((((((((((((hM.setWord hpn hY).setCnt (wrap64 (m.cnt + 1))).setL0 kind).setL1 a).setL2 b).setL3 (m.ws p)).setL4 y).setL5 dn).set (p := ⟨R, 0, none⟩) (u := .int .i64 kind) (Ne.symm hBR) (Ne.symm hCR)).set (p := ⟨R, 1, none⟩) (u := .int .i64 a) (Ne.symm hBR) (Ne.symm hCR)).set (p := ⟨R, 2, none⟩) (u := .int .i64 b) (Ne.symm hBR) (Ne.symm hCR)).set (p := ⟨R, 3, none⟩) (u := .int .u64 (m.ws p : Nat)) (Ne.symm hBR) (Ne.symm hCR)).set (p := ⟨R, 4, none⟩) (u := .int .u64 (y : Nat)) (Ne.symm hBR) (Ne.symm hCR)).set (p := ⟨R, 5, none⟩) (u := .bool dn) (Ne.symm hBR) (Ne.symm hCR)
  have hr := (((((((((((((hR.set (p := ⟨C, p, none⟩) (u := .int .u64 (y : Nat)) hCR).set (p := ⟨B, 6, none⟩) (u := .int .i64 (wrap64 (m.cnt + 1))) hBR).set (p := ⟨B, 7, none⟩) (u := .int .i64 kind) hBR).set (p := ⟨B, 8, none⟩) (u := .int .i64 a) hBR).set (p := ⟨B, 9, none⟩) (u := .int .i64 b) hBR).set (p := ⟨B, 10, none⟩) (u := .int .u64 (m.ws p : Nat)) hBR).set (p := ⟨B, 11, none⟩) (u := .int .u64 (y : Nat)) hBR).set (p := ⟨B, 12, none⟩) (u := .bool dn) hBR).set0 kind).set1 a).set2 b).set3 (m.ws p)).set4 y).set5 dn
  have ho := (((((((((((((hO.set (p := ⟨C, p, none⟩) (.inr (.inl rfl)) (.int .u64 (y : Nat))).set (p := ⟨B, 6, none⟩) (.inl rfl) (.int .i64 (wrap64 (m.cnt + 1)))).set (p := ⟨B, 7, none⟩) (.inl rfl) (.int .i64 kind)).set (p := ⟨B, 8, none⟩) (.inl rfl) (.int .i64 a)).set (p := ⟨B, 9, none⟩) (.inl rfl) (.int .i64 b)).set (p := ⟨B, 10, none⟩) (.inl rfl) (.int .u64 (m.ws p : Nat))).set (p := ⟨B, 11, none⟩) (.inl rfl) (.int .u64 (y : Nat))).set (p := ⟨B, 12, none⟩) (.inl rfl) (.bool dn)).set (p := ⟨R, 0, none⟩) (.inr (.inr hRl)) (.int .i64 kind)).set (p := ⟨R, 1, none⟩) (.inr (.inr hRl)) (.int .i64 a)).set (p := ⟨R, 2, none⟩) (.inr (.inr hRl)) (.int .i64 b)).set (p := ⟨R, 3, none⟩) (.inr (.inr hRl)) (.int .u64 (m.ws p : Nat))).set (p := ⟨R, 4, none⟩) (.inr (.inr hRl)) (.int .u64 (y : Nat))).set (p := ⟨R, 5, none⟩) (.inr (.inr hRl)) (.bool dn)
  have hm' := hm.drew
  have hr' := hr.drew
  have ho' := ho.drew
  generalize hWf : World.drew _ = Wf at hm' hr' ho' ⊢
  obtain ⟨_, q0, q1, q2, q3, q4, q5, _⟩ := hr'
  refine bodyPost_ret (v := (.agg #[.int .i64 kind, .int .i64 a, .int .i64 b, .int .u64 (m.ws p : Nat), .int .u64 (y : Nat), .bool dn])) (by simp [results, Try.results45, go_sem, q0, q1, q2, q3, q4, q5]) rfl ⟨by rw [unhide HYE, unhide HDE], ?_, ho'⟩
  unfold Um.mhit
  rw [unhide HYE, unhide HDE]
  dsimp only at hm'
  rw [next_eq] at hm'
  exact hm'

end Go.Proofs.Ytjicfonpldobdaa

/-
  The walk of an access of a spot that stands nowhere.
-/
namespace Go.Proofs.Ytjicfonpldobdaa
set_option maxRecDepth 100000
open Go.RowKit Go.Sort

set_option maxHeartbeats 2000000 in
theorem mAccess_miss {W : World} {B C : Nat} {c : Um.Cf} {m : Um.Mm} (h : MemAt W B C c m) (kind a b : Int) (fv : Value)
    (hb0 : -9223372036854775808 ≤ b) (hb1 : b ≤ 9223372036854775807) (hp : c.cl a b = -1) :
    Calls Try.prog 45 #[.pointer (some ⟨B, 0, none⟩), .int .i64 kind, (.agg #[.int .i64 a, .int .i64 b]), fv] W fun e W' =>
      e = .returned (.agg #[.int .i64 kind, .int .i64 a, .int .i64 b, .int .u64 0, .int .u64 0, .bool false]) ∧ MemAt W' B C c (Um.mmiss m kind a b) ∧ Off B C W W' := by
  have hcl := fun w => cCell_any c.t c.s c.k c.g c.q a b w hb0 hb1
  rw [show Um.cellN (Um.rt c.t c.s c.k c.g c.q) c.t c.s c.k a b = -1 from hp] at hcl
  have hBn : B ≠ W.heap.size ∧ B ≠ W.heap.size + 1 ∧ B ≠ W.heap.size + 1 + 1 := by have := h.hB; omega
  have hCn : C ≠ W.heap.size ∧ C ≠ W.heap.size + 1 ∧ C ≠ W.heap.size + 1 + 1 := by have := h.hC; omega
  clear hp hb0 hb1
  have hne := h.ne
  go_enter Try.func45, Try.ntmps45
  go_wp2_with fail
  generalize hw1 : ((W.alloc (.cells #[.int .i64 a, .int .i64 b] 39)).alloc (.cells #[.int .i64 0, .int .i64 0, .int .i64 0, .int .u64 0, .int .u64 0, .bool false] 87)).alloc (.cells #[.int .i64 kind, .int .i64 a, .int .i64 b, .int .u64 0, .int .u64 0, .bool false] 87) = w1
  obtain ⟨hS1, hR1, hT1⟩ : SpAt w1 W.heap.size a b ∧ TchAt w1 (W.heap.size + 1) ⟨0, 0, 0, 0, 0, false⟩ ∧ TchAt w1 (W.heap.size + 1 + 1) ⟨kind, a, b, 0, 0, false⟩ := by
    subst hw1
    obtain ⟨h1, h2, h3⟩ := alloc3_at W (.cells #[.int .i64 a, .int .i64 b] 39) (.cells #[.int .i64 0, .int .i64 0, .int .i64 0, .int .u64 0, .int .u64 0, .bool false] 87) (.cells #[.int .i64 kind, .int .i64 a, .int .i64 b, .int .u64 0, .int .u64 0, .bool false] 87)
    exact ⟨spAt_new h1, tchAt_new _ h2, tchAt_new _ h3⟩
  have hO1 : Off B C W w1 := by
    subst hw1
    exact (((Off.refl B C W).alloc _).alloc _).alloc _
  have hM1 : MemAt w1 B C c m := by
    subst hw1
    exact h.below ((((Below.refl W.heap.size W).alloc (Nat.le_refl _) _).alloc (by simp) _).alloc (by simp; omega) _) h.hB h.hC
  clear hw1 h
  obtain ⟨_, a0, a1⟩ := id hS1
  obtain ⟨_, _, _, _, f0, f1, f2, f3, f4, _⟩ := id hM1
  have k0 : ∀ d os, (grow (redrawn w1 d) os).cell? ⟨B, 0, none⟩ = some (.int .i64 c.t) := fun d os => cell_regrown f0 d os
  have k1 : ∀ d os, (grow (redrawn w1 d) os).cell? ⟨B, 1, none⟩ = some (.int .i64 c.s) := fun d os => cell_regrown f1 d os
  have k2 : ∀ d os, (grow (redrawn w1 d) os).cell? ⟨B, 2, none⟩ = some (.int .i64 c.k) := fun d os => cell_regrown f2 d os
  have k3 : ∀ d os, (grow (redrawn w1 d) os).cell? ⟨B, 3, none⟩ = some (.int .i64 c.g) := fun d os => cell_regrown f3 d os
  have k4 : ∀ d os, (grow (redrawn w1 d) os).cell? ⟨B, 4, none⟩ = some (.int .u64 c.q) := fun d os => cell_regrown f4 d os
  have k5 : ∀ d os, (grow (redrawn w1 d) os).cell? ⟨W.heap.size, 0, none⟩ = some (.int .i64 a) := fun d os => cell_regrown a0 d os
  have k6 : ∀ d os, (grow (redrawn w1 d) os).cell? ⟨W.heap.size, 1, none⟩ = some (.int .i64 b) := fun d os => cell_regrown a1 d os
  refine wp_region_quiet_below (by kernel_rfl) (by kernel_rfl) ?_
  repeat (go_big_quiet_step (first
    | (go_at_call 65; exact Calls.regrown_of (hcl _))))
  refine wpQuiet_nil ?_
  intro w2 hw2
  have hb2 : Below w1.heap.size w1 w2 := by
    obtain ⟨⟨dq, osq⟩, hw3⟩ := hw2
    subst hw3
    exact below_regrown w1 dq osq
  have hR2 := hR1.below hb2
  have hT2 := hT1.below hb2
  have hM2 := hM1.below hb2 hM1.hB hM1.hC
  have hO2 := hO1.then hb2
  clear hb2 hw2 hR1 hT1 hM1 hO1 hS1 a0 a1 f0 f1 f2 f3 f4 k0 k1 k2 k3 k4 k5 k6 hcl
  have hTl : W.heap.size ≤ W.heap.size + 1 + 1 := by omega
  have hRl : W.heap.size ≤ W.heap.size + 1 := by omega
  have hTR : W.heap.size + 1 + 1 ≠ W.heap.size + 1 := by omega
  obtain ⟨_, hBR, hBT⟩ := hBn
  obtain ⟨_, hCR, hCT⟩ := hCn
  generalize W.heap.size + 1 + 1 = T at *
  generalize W.heap.size + 1 = R at *
  have HT := hide hT2
  have HR := hide hR2
  have HM := hide hM2
  have HO := hide hO2
  obtain ⟨_, t0, t1, t2, t3, t4, t5, tz⟩ := hT2
  obtain ⟨_, r0, r1, r2, r3, r4, r5, rz⟩ := hR2
  obtain ⟨_, _, _, _, _, _, _, _, _, m5, m6, m7, m8, m9, m10, m11, m12, mz, mc, _, _⟩ := hM2
  have rz0 := rz 0
  have rz1 := rz 1
  have rz2 := rz 2
  have rz3 := rz 3
  have rz4 := rz 4
  have rz5 := rz 5
  have mz6 := mz 6
  have mz7 := mz 7
  have mz8 := mz 8
  have mz9 := mz 9
  have mz10 := mz 10
  have mz11 := mz 11
  have mz12 := mz 12
  clear tz rz mz mc hO2
  go_wp2
  have hM := unhide HM
  have hR := unhide HR
  have hO := unhide HO
  have hm := ((((((((((((hM.setCnt (wrap64 (m.cnt + 1))).setL0 kind).setL1 a).setL2 b).setL3 0).setL4 0).setL5 false).set (p := ⟨R, 0, none⟩) (u := .int .i64 kind) (Ne.symm hBR) (Ne.symm hCR)).set (p := ⟨R, 1, none⟩) (u := .int .i64 a) (Ne.symm hBR) (Ne.symm hCR)).set (p := ⟨R, 2, none⟩) (u := .int .i64 b) (Ne.symm hBR) (Ne.symm hCR)).set (p := ⟨R, 3, none⟩) (u := .int .u64 0) (Ne.symm hBR) (Ne.symm hCR)).set (p := ⟨R, 4, none⟩) (u := .int .u64 0) (Ne.symm hBR) (Ne.symm hCR)).set (p := ⟨R, 5, none⟩) (u := .bool false) (Ne.symm hBR) (Ne.symm hCR)
  have hr := ((((((((((((hR.set (p := ⟨B, 6, none⟩) (u := .int .i64 (wrap64 (m.cnt + 1))) hBR).set (p := ⟨B, 7, none⟩) (u := .int .i64 kind) hBR).set (p := ⟨B, 8, none⟩) (u := .int .i64 a) hBR).set (p := ⟨B, 9, none⟩) (u := .int .i64 b) hBR).set (p := ⟨B, 10, none⟩) (u := .int .u64 0) hBR).set (p := ⟨B, 11, none⟩) (u := .int .u64 0) hBR).set (p := ⟨B, 12, none⟩) (u := .bool false) hBR).set0 kind).set1 a).set2 b).set3 0).set4 0).set5 false
  have ho := ((((((((((((hO.set (p := ⟨B, 6, none⟩) (.inl rfl) (.int .i64 (wrap64 (m.cnt + 1)))).set (p := ⟨B, 7, none⟩) (.inl rfl) (.int .i64 kind)).set (p := ⟨B, 8, none⟩) (.inl rfl) (.int .i64 a)).set (p := ⟨B, 9, none⟩) (.inl rfl) (.int .i64 b)).set (p := ⟨B, 10, none⟩) (.inl rfl) (.int .u64 0)).set (p := ⟨B, 11, none⟩) (.inl rfl) (.int .u64 0)).set (p := ⟨B, 12, none⟩) (.inl rfl) (.bool false)).set (p := ⟨R, 0, none⟩) (.inr (.inr hRl)) (.int .i64 kind)).set (p := ⟨R, 1, none⟩) (.inr (.inr hRl)) (.int .i64 a)).set (p := ⟨R, 2, none⟩) (.inr (.inr hRl)) (.int .i64 b)).set (p := ⟨R, 3, none⟩) (.inr (.inr hRl)) (.int .u64 0)).set (p := ⟨R, 4, none⟩) (.inr (.inr hRl)) (.int .u64 0)).set (p := ⟨R, 5, none⟩) (.inr (.inr hRl)) (.bool false)
  dsimp only at hm
  rw [next_eq] at hm
  simp only [next_eq] at hr ho
  clear HM HR HO hM hR hO HT
  have ez : ((0 : Nat) : Int) = 0 := rfl
  rw [ez] at hm hr
  rw [next_eq]
  generalize World.setCell _ _ _ = Wf at hm hr ho ⊢
  obtain ⟨_, q0, q1, q2, q3, q4, q5, _⟩ := hr
  exact bodyPost_ret (v := (.agg #[.int .i64 kind, .int .i64 a, .int .i64 b, .int .u64 0, .int .u64 0, .bool false])) (by simp [results, Try.results45, go_sem, q0, q1, q2, q3, q4, q5]) rfl ⟨rfl, hm, ho⟩

theorem field_old (k a b o n : Int) (d : Bool) (w : World) : (Instr.field 87 (.agg #[.int .i64 k, .int .i64 a, .int .i64 b, .int .u64 o, .int .u64 n, .bool d]) 2).run Try.prog w = .ok (.int .u64 o) w := by
  simp [Instr.field, go_sem, asAgg]

theorem field_done (k a b o n : Int) (d : Bool) (w : World) : (Instr.field 87 (.agg #[.int .i64 k, .int .i64 a, .int .i64 b, .int .u64 o, .int .u64 n, .bool d]) 4).run Try.prog w = .ok (.bool d) w := by
  simp [Instr.field, go_sem, asAgg]

/-- an access of any spot -/
theorem mAccess_any {W : World} {B C : Nat} {c : Um.Cf} {m : Um.Mm} (h : MemAt W B C c m) (kind a b : Int) (o v : Nat) (F : FuncId) (eg : ∀ args w, (callFunc F args).run Try.prog w = .ok (.enter F args) w)
    (hF : ∀ x w, Calls Try.prog F #[.agg #[.int .u64 o, .int .u64 v], .int .u64 (x : Nat)] w fun e w' => e = .returned (.tuple #[.int .u64 (Um.trn kind o v x : Nat), .bool (Um.trd kind o x)]) ∧ Below w.heap.size w w')
    (hb0 : -9223372036854775808 ≤ b) (hb1 : b ≤ 9223372036854775807) (hv : Um.Word v) (M : Um.Mm) (hM : M = Um.mtouch c m kind a b o v) :
    Calls Try.prog 45 #[.pointer (some ⟨B, 0, none⟩), .int .i64 kind, (.agg #[.int .i64 a, .int .i64 b]), .func (.func F) #[.agg #[.int .u64 o, .int .u64 v]] #[]] W fun e W' =>
      e = .returned (.agg #[.int .i64 (M.l.kind), .int .i64 (M.l.a), .int .i64 (M.l.b), .int .u64 (M.l.old : Nat), .int .u64 (M.l.new : Nat), .bool (M.l.done)]) ∧ MemAt W' B C c M ∧ Off B C W W' := by
  subst hM
  unfold Um.mtouch
  by_cases hp : 0 ≤ c.cl a b
  · rw [if_pos hp]
    exact mAccess_hit h kind a b o v F eg hF hb0 hb1 hv _ (Int.toNat_of_nonneg hp).symm
  · rw [if_neg hp]
    exact mAccess_miss h kind a b _ hb0 hb1 (by have := c.cl_ge a b; omega)

end Go.Proofs.Ytjicfonpldobdaa

/-
  The walks of a memory's loads, stores, swaps and adds.
-/
namespace Go.Proofs.Ytjicfonpldobdaa
set_option maxRecDepth 100000
open Go.RowKit Go.Sort

attribute [local go_sem] field_old field_done

set_option maxHeartbeats 1000000 in
theorem mLoad_any {W : World} {B C : Nat} {c : Um.Cf} {m : Um.Mm} (h : MemAt W B C c m) (a b : Int) (hb0 : -9223372036854775808 ≤ b) (hb1 : b ≤ 9223372036854775807) (M : Um.Mm) (hM : M = Um.mtouch c m 1 a b 0 0) :
    Calls Try.prog 12 #[.pointer (some ⟨B, 0, none⟩), (.agg #[.int .i64 a, .int .i64 b])] W fun e W' => e = .returned (.int .u64 (M.l.old : Nat)) ∧ MemAt W' B C c M ∧ Off B C W W' := by
  have hS : Off B C W (W.alloc (.cells #[.int .i64 a, .int .i64 b] 39)) := (Off.refl B C W).alloc _
  have hM1 : MemAt (W.alloc (.cells #[.int .i64 a, .int .i64 b] 39)) B C c m := h.below ((Below.refl _ _).alloc (Nat.le_refl _) _) h.hB h.hC
  have hA := mAccess_any hM1 1 a b 0 0 46 egL (wLoad_any 0 0) hb0 hb1 (by unfold Um.Word; omega) M hM
  clear hM h hM1 hb0 hb1
  go_enter Try.func12, Try.ntmps12
  go_wp2_with fail
  refine hA.mono ?_
  rintro e w1 ⟨rfl, hM1, hO1⟩
  have HM := hide hM1
  have HO := hide (hS.trans hO1)
  clear hM1 hO1 hA hS
  go_wp2
  go_ret
  exact ⟨rfl, unhide HM, unhide HO⟩

set_option maxHeartbeats 1000000 in
theorem mStore_any {W : World} {B C : Nat} {c : Um.Cf} {m : Um.Mm} (h : MemAt W B C c m) (a b : Int) (v : Nat) (hv : Um.Word v) (hb0 : -9223372036854775808 ≤ b) (hb1 : b ≤ 9223372036854775807) (M : Um.Mm) (hM : M = Um.mtouch c m 2 a b 0 v) :
    Calls Try.prog 14 #[.pointer (some ⟨B, 0, none⟩), (.agg #[.int .i64 a, .int .i64 b]), .int .u64 (v : Nat)] W fun e W' => e = .returned (.tuple #[]) ∧ MemAt W' B C c M ∧ Off B C W W' := by
  have hS : Off B C W (W.alloc (.cells #[.int .i64 a, .int .i64 b] 39)) := (Off.refl B C W).alloc _
  have hM1 : MemAt (W.alloc (.cells #[.int .i64 a, .int .i64 b] 39)) B C c m := h.below ((Below.refl _ _).alloc (Nat.le_refl _) _) h.hB h.hC
  have hA := mAccess_any hM1 2 a b 0 v 49 egS (wStore_any 0 v) hb0 hb1 hv M hM
  clear hM h hM1 hb0 hb1
  go_enter Try.func14, Try.ntmps14
  go_wp2_with fail
  refine hA.mono ?_
  rintro e w1 ⟨rfl, hM1, hO1⟩
  have HM := hide hM1
  have HO := hide (hS.trans hO1)
  clear hM1 hO1 hA hS
  go_wp2
  go_end0
  exact ⟨rfl, unhide HM, unhide HO⟩

set_option maxHeartbeats 1000000 in
theorem mSwap_any {W : World} {B C : Nat} {c : Um.Cf} {m : Um.Mm} (h : MemAt W B C c m) (a b : Int) (o v : Nat) (hv : Um.Word v) (hb0 : -9223372036854775808 ≤ b) (hb1 : b ≤ 9223372036854775807) (M : Um.Mm) (hM : M = Um.mtouch c m 3 a b o v) :
    Calls Try.prog 16 #[.pointer (some ⟨B, 0, none⟩), (.agg #[.int .i64 a, .int .i64 b]), .int .u64 (o : Nat), .int .u64 (v : Nat)] W fun e W' => e = .returned (.bool M.l.done) ∧ MemAt W' B C c M ∧ Off B C W W' := by
  have hS : Off B C W (W.alloc (.cells #[.int .i64 a, .int .i64 b] 39)) := (Off.refl B C W).alloc _
  have hM1 : MemAt (W.alloc (.cells #[.int .i64 a, .int .i64 b] 39)) B C c m := h.below ((Below.refl _ _).alloc (Nat.le_refl _) _) h.hB h.hC
  have hA := mAccess_any hM1 3 a b o v 50 egW (wSwap_any o v) hb0 hb1 hv M hM
  clear hM h hM1 hb0 hb1
  go_enter Try.func16, Try.ntmps16
  go_wp2_with fail
  refine hA.mono ?_
  rintro e w1 ⟨rfl, hM1, hO1⟩
  have HM := hide hM1
  have HO := hide (hS.trans hO1)
  clear hM1 hO1 hA hS
  go_wp2
  go_ret
  exact ⟨rfl, unhide HM, unhide HO⟩

set_option maxHeartbeats 1000000 in
theorem mAdd_any {W : World} {B C : Nat} {c : Um.Cf} {m : Um.Mm} (h : MemAt W B C c m) (a b : Int) (v : Nat) (hv : Um.Word v) (hb0 : -9223372036854775808 ≤ b) (hb1 : b ≤ 9223372036854775807) (M : Um.Mm) (hM : M = Um.mtouch c m 4 a b 0 v) :
    Calls Try.prog 18 #[.pointer (some ⟨B, 0, none⟩), (.agg #[.int .i64 a, .int .i64 b]), .int .u64 (v : Nat)] W fun e W' => e = .returned (.int .u64 (M.l.old : Nat)) ∧ MemAt W' B C c M ∧ Off B C W W' := by
  have hS : Off B C W (W.alloc (.cells #[.int .i64 a, .int .i64 b] 39)) := (Off.refl B C W).alloc _
  have hM1 : MemAt (W.alloc (.cells #[.int .i64 a, .int .i64 b] 39)) B C c m := h.below ((Below.refl _ _).alloc (Nat.le_refl _) _) h.hB h.hC
  have hA := mAccess_any hM1 4 a b 0 v 51 egA (wAdd_any 0 v) hb0 hb1 hv M hM
  clear hM h hM1 hb0 hb1
  go_enter Try.func18, Try.ntmps18
  go_wp2_with fail
  refine hA.mono ?_
  rintro e w1 ⟨rfl, hM1, hO1⟩
  have HM := hide hM1
  have HO := hide (hS.trans hO1)
  clear hM1 hO1 hA hS
  go_wp2
  go_ret
  exact ⟨rfl, unhide HM, unhide HO⟩

end Go.Proofs.Ytjicfonpldobdaa

/-
  The walks of layer 6's maker of a new memory.
-/
namespace Go.Proofs.Ytjicfonpldobdaa
set_option maxRecDepth 100000
open Go.RowKit Go.Sort

set_option maxHeartbeats 2000000 in
theorem sNew_wrong (c : Um.Cf) (w : World) (h : c.r = false) :
    Calls Try.prog 35 #[(.agg #[.int .i64 (c.t), .int .i64 (c.s), .int .i64 (c.k), .int .i64 (c.g), .int .u64 (c.q : Int)])] w fun e w' => e = .returned (.tuple #[.pointer none, .int .i64 1]) ∧ Below w.heap.size w w' := by
  have hL := cLen_any c.t c.s c.k c.g c.q
  rw [Cf_len] at hL
  have hO := fun v w => sOf_wrong c v w h
  have hk := run_makeW c.n (by have := c.n_le; omega)
  clear h
  generalize c.n = m at *
  go_enter Try.func35, Try.ntmps35
  go_wp2_with fail
  have K := cfAt_alloc w c 24
  have hB : Below w.heap.size w (w.alloc (.cells #[.int .i64 c.t, .int .i64 c.s, .int .i64 c.k, .int .i64 c.g, .int .u64 c.q] 24)) := (Below.refl _ _).alloc (Nat.le_refl _) _
  generalize w.alloc _ = W at *
  obtain ⟨_, a0, a1, a2, a3, a4⟩ := id K
  go_region_with (first | (go_at_call 59; refine (hL _).mono ?_; rintro e w3 ⟨rfl, hb3⟩; obtain ⟨_, b0, b1, b2, b3, b4⟩ := K.below (below_undrew hb3)) | (go_at_call 41; refine (hO _ _).mono ?_; rintro e w4 ⟨rfl, hb4⟩))
  all_goals
    have hB3 := hB.trans ((below_undrew hb3).mono hB.size)
    have hB4 := (hB3.alloc hB3.size _).trans (hb4.mono (by simp; exact Nat.le_succ_of_le hB3.size))
    clear hb3 hb4 b0 b1 b2 b3 b4 a0 a1 a2 a3 a4 K hk hO hL
    go_wp2
    go_ret2
    exact ⟨rfl, hB4⟩

theorem zero_words (w : World) (m : Nat) (hp : 0 < m) (hn : m ≤ 1000) : IsWords (w.alloc (.cells (rowW (fun _ => 0) m).toArray 22)) (.slice (some ⟨w.heap.size, 0, none⟩) m m) m (fun _ => 0) :=
  (LowWords.of_row hp hn (heap_alloc_new w _) (fun _ _ => by unfold Um.Word; omega)).is (by simp)

set_option maxHeartbeats 2000000 in
theorem sNew_right (c : Um.Cf) (w : World) (h : c.r = true) :
    Calls Try.prog 35 #[(.agg #[.int .i64 (c.t), .int .i64 (c.s), .int .i64 (c.k), .int .i64 (c.g), .int .u64 (c.q : Int)])] w fun e w' => ∃ B C, e = .returned (.tuple #[.pointer (some ⟨B, 0, none⟩), .int .i64 0]) ∧ w.heap.size ≤ B ∧ w.heap.size ≤ C ∧ MemAt w' B C c ⟨fun _ => 0, 0, Um.noT⟩ ∧ Below w.heap.size w w' := by
  have hL := cLen_any c.t c.s c.k c.g c.q
  rw [Cf_len] at hL
  have hp := Um.Cf.n_pos h
  have hO := fun v w => sOf_right c v (fun _ => 0) w h
  have hk := run_makeW c.n (by have := c.n_le; omega)
  have hm := c.n_le
  have HO := hide hO
  clear h hO
  generalize c.n = m at *
  go_enter Try.func35, Try.ntmps35
  go_wp2_with fail
  have K := cfAt_alloc w c 24
  have hB : Below w.heap.size w (w.alloc (.cells #[.int .i64 c.t, .int .i64 c.s, .int .i64 c.k, .int .i64 c.g, .int .u64 c.q] 24)) := (Below.refl _ _).alloc (Nat.le_refl _) _
  generalize w.alloc _ = W at *
  obtain ⟨_, a0, a1, a2, a3, a4⟩ := id K
  go_region_with (first | (go_at_call 59; refine (hL _).mono ?_; rintro e w3 ⟨rfl, hb3⟩; obtain ⟨_, b0, b1, b2, b3, b4⟩ := K.below (below_undrew hb3)) | (go_at_call 41; refine ((unhide HO) _ _ (zero_words _ m (by omega) (by omega))).mono ?_; rintro e w4 ⟨B, C, rfl, hl1, hl2, hM, hb4⟩))
  all_goals
    have hB3 := hB.trans ((below_undrew hb3).mono hB.size)
    have hs3 := hB3.size
    have hB4 := (hB3.alloc hB3.size _).trans (hb4.mono (by simp; exact Nat.le_succ_of_le hB3.size))
    have HM := hide hM
    simp at hl1 hl2
    clear hb3 hb4 b0 b1 b2 b3 b4 a0 a1 a2 a3 a4 K hk HO hL hM
    go_wp2
    go_ret2
    exact ⟨B, C, rfl, by omega, by omega, unhide HM, hB4⟩

end Go.Proofs.Ytjicfonpldobdaa

/-
  The walk of layer 6's first look: a handful of accesses of a small new memory.
-/
namespace Go.Proofs.Ytjicfonpldobdaa
set_option maxRecDepth 100000
open Go.RowKit Go.Sort

def sc0 : Um.Cf := ⟨1, 1, 1, 0, 0⟩
def sm0 : Um.Mm := ⟨fun _ => 0, 0, Um.noT⟩
def sm1 : Um.Mm := Um.mtouch sc0 sm0 4 2 0 0 5
def sm2 : Um.Mm := Um.mtouch sc0 sm1 3 2 0 5 7
def sm3 : Um.Mm := Um.mtouch sc0 sm2 3 2 0 5 8
def sm4 : Um.Mm := Um.mtouch sc0 sm3 1 2 0 0 0
def sm5 : Um.Mm := Um.mtouch sc0 sm4 2 8 0 0 3
def sm6 : Um.Mm := Um.mtouch sc0 sm5 1 8 1 0 0

theorem sc0_n : sc0.n = 8 := by decide +kernel

theorem slit_new (w : World) : Calls Try.prog 35 #[(.agg #[.int .i64 1, .int .i64 1, .int .i64 1, .int .i64 0, .int .u64 0])] w fun e w' => ∃ B C, e = .returned (.tuple #[.pointer (some ⟨B, 0, none⟩), .int .i64 0]) ∧ w.heap.size ≤ B ∧ w.heap.size ≤ C ∧ MemAt w' B C sc0 sm0 ∧ Below w.heap.size w w' :=
  sNew_right sc0 w (by decide +kernel)

theorem slit_no (w : World) : Calls Try.prog 35 #[(.agg #[.int .i64 0, .int .i64 0, .int .i64 0, .int .i64 0, .int .u64 0])] w fun e w' => e = .returned (.tuple #[.pointer none, .int .i64 1]) ∧ Below w.heap.size w w' :=
  sNew_wrong ⟨0, 0, 0, 0, 0⟩ w (by decide +kernel)

theorem slit1 {W : World} {B C : Nat} (h : MemAt W B C sc0 sm0) : Calls Try.prog 18 #[.pointer (some ⟨B, 0, none⟩), (.agg #[.int .i64 2, .int .i64 0]), .int .u64 5] W fun e W' => e = .returned (.int .u64 0) ∧ MemAt W' B C sc0 sm1 ∧ Off B C W W' := by
  have := mAdd_any h 2 0 5 (by unfold Um.Word; omega) (by omega) (by omega) sm1 rfl
  rwa [show sm1.l.old = 0 by decide +kernel] at this

theorem slit2 {W : World} {B C : Nat} (h : MemAt W B C sc0 sm1) : Calls Try.prog 16 #[.pointer (some ⟨B, 0, none⟩), (.agg #[.int .i64 2, .int .i64 0]), .int .u64 5, .int .u64 7] W fun e W' => e = .returned (.bool true) ∧ MemAt W' B C sc0 sm2 ∧ Off B C W W' := by
  have := mSwap_any h 2 0 5 7 (by unfold Um.Word; omega) (by omega) (by omega) sm2 rfl
  rwa [show sm2.l.done = true by decide +kernel] at this

theorem slit3 {W : World} {B C : Nat} (h : MemAt W B C sc0 sm2) : Calls Try.prog 16 #[.pointer (some ⟨B, 0, none⟩), (.agg #[.int .i64 2, .int .i64 0]), .int .u64 5, .int .u64 8] W fun e W' => e = .returned (.bool false) ∧ MemAt W' B C sc0 sm3 ∧ Off B C W W' := by
  have := mSwap_any h 2 0 5 8 (by unfold Um.Word; omega) (by omega) (by omega) sm3 rfl
  rwa [show sm3.l.done = false by decide +kernel] at this

theorem slit4 {W : World} {B C : Nat} (h : MemAt W B C sc0 sm3) : Calls Try.prog 12 #[.pointer (some ⟨B, 0, none⟩), (.agg #[.int .i64 2, .int .i64 0])] W fun e W' => e = .returned (.int .u64 7) ∧ MemAt W' B C sc0 sm4 ∧ Off B C W W' := by
  have := mLoad_any h 2 0 (by omega) (by omega) sm4 rfl
  rwa [show sm4.l.old = 7 by decide +kernel] at this

theorem slit5 {W : World} {B C : Nat} (h : MemAt W B C sc0 sm4) : Calls Try.prog 14 #[.pointer (some ⟨B, 0, none⟩), (.agg #[.int .i64 8, .int .i64 0]), .int .u64 3] W fun e W' => e = .returned (.tuple #[]) ∧ MemAt W' B C sc0 sm5 ∧ Off B C W W' :=
  mStore_any h 8 0 3 (by unfold Um.Word; omega) (by omega) (by omega) sm5 rfl

theorem slit6 {W : World} {B C : Nat} (h : MemAt W B C sc0 sm5) : Calls Try.prog 12 #[.pointer (some ⟨B, 0, none⟩), (.agg #[.int .i64 8, .int .i64 1])] W fun e W' => e = .returned (.int .u64 0) ∧ MemAt W' B C sc0 sm6 ∧ Off B C W W' := by
  have := mLoad_any h 8 1 (by omega) (by omega) sm6 rfl
  rwa [show sm6.l.old = 0 by decide +kernel] at this

theorem slit7 {W : World} {B C : Nat} (h : MemAt W B C sc0 sm6) : Calls Try.prog 37 #[.pointer (some ⟨B, 0, none⟩)] W fun e W' => e = .returned (.slice (some ⟨W.heap.size, 0, none⟩) 8 8) ∧ MemAt W' B C sc0 sm6 ∧ W'.cell? ⟨W.heap.size, 1, none⟩ = some (.int .u64 7) ∧ W'.cell? ⟨W.heap.size, 7, none⟩ = some (.int .u64 3) ∧ W.heap.size < W'.heap.size ∧ Below W.heap.size W W' := by
  refine (mCells_any h).mono ?_
  rintro e W' ⟨rfl, hg, hb⟩
  refine ⟨by rw [sc0_n], h.below hb h.hB h.hC, ?_, ?_, (Array.getElem?_eq_some_iff.1 hg).1, hb⟩
  · rw [row_cell hg 1 (by rw [sc0_n]; omega), show sm6.ws 1 = 7 by decide +kernel]; rfl
  · rw [row_cell hg 7 (by rw [sc0_n]; omega), show sm6.ws 7 = 3 by decide +kernel]; rfl

theorem slit8 {W : World} {B C : Nat} (h : MemAt W B C sc0 sm6) : Calls Try.prog 43 #[.pointer (some ⟨B, 0, none⟩)] W fun e W' => e = .returned (.int .i64 6) ∧ W' = W := by
  have := mCount_any h
  rwa [show sm6.cnt = 6 by decide +kernel] at this

theorem slit9 {W : World} {B C : Nat} (h : MemAt W B C sc0 sm6) : Calls Try.prog 44 #[.pointer (some ⟨B, 0, none⟩)] W fun e W' => e = .returned (.agg #[.int .i64 1, .int .i64 8, .int .i64 1, .int .u64 0, .int .u64 0, .bool false]) ∧ Below W.heap.size W W' := by
  have := mLast_any h
  rwa [show sm6.l.kind = 1 by decide +kernel, show sm6.l.a = 8 by decide +kernel, show sm6.l.b = 1 by decide +kernel, show sm6.l.old = 0 by decide +kernel, show sm6.l.new = 0 by decide +kernel, show sm6.l.done = false by decide +kernel] at this

theorem MemAt.alloc {W : World} {B C : Nat} {c : Um.Cf} {m : Um.Mm} (h : MemAt W B C c m) (o : Obj) : MemAt (W.alloc o) B C c m := h.below ((Below.refl _ _).alloc (Nat.le_refl _) o) h.hB h.hC

set_option maxHeartbeats 2000000 in
theorem sAlive_any (w : World) : Calls Try.prog 11 #[] w fun e w' => e = .returned (.bool true) ∧ Below w.heap.size w w' := by
  have heq1 : ∀ w, (binOp .eql 87 (.agg #[.int .i64 1, .int .i64 8, .int .i64 1, .int .u64 0, .int .u64 0, .bool false]) (.agg #[.int .i64 1, .int .i64 8, .int .i64 1, .int .u64 0, .int .u64 0, .bool false])).run Try.prog w = .ok (.bool true) w := by
    intro w
    go_simp
  go_enter Try.func11, Try.ntmps11
  go_wp2_with fail
  refine (slit_new _).mono ?_
  rintro e w1 ⟨B, C, rfl, hB0, hC0, hM1, hB1⟩
  have HM := hide hM1
  clear hM1
  go_wp2_with fail
  refine (slit_no _).mono ?_
  rintro e w2 ⟨rfl, hb2⟩
  have HM2 := hide ((unhide HM).below hb2 (unhide HM).hB (unhide HM).hC)
  have hB2 := hB1.trans (hb2.mono hB1.size)
  clear HM hb2 hB1
  go_wp2_with fail
  have hM3 := (unhide HM2).alloc (.cells #[.int .i64 2, .int .i64 0] 39)
  have hB3 : Below w.heap.size w (w2.alloc (.cells #[.int .i64 2, .int .i64 0] 39)) := hB2.alloc hB2.size _
  have hS3 : SpAt (w2.alloc (.cells #[.int .i64 2, .int .i64 0] 39)) w2.heap.size 2 0 := spAt_new (heap_alloc_new _ _)
  have nB : w2.heap.size ≠ B := by have := (unhide HM2).hB; omega
  have nC : w2.heap.size ≠ C := by have := (unhide HM2).hC; omega
  refine (slit1 hM3).mono ?_
  clear HM2 hB2
  generalize hz : w2.heap.size = z at *
  generalize w2.alloc (.cells #[.int .i64 2, .int .i64 0] 39) = w3 at *
  clear hz w2
  rintro e w4 ⟨rfl, hM4, hO4⟩
  have hS4 := hS3.off hO4 nB nC
  have hB4 := hB3.trans (hO4.below hB3.size hB0 hC0)
  have HM4 := hide hM4
  clear hM4 hM3 hS3 hB3 hO4
  obtain ⟨_, p4, q4⟩ := id hS4
  go_wp2_with fail
  refine (slit2 (unhide HM4)).mono ?_
  clear p4 q4
  rintro e w5 ⟨rfl, hM5, hO5⟩
  have hS5 := hS4.off hO5 nB nC
  have hB5 := hB4.trans (hO5.below hB4.size hB0 hC0)
  have HM5 := hide hM5
  clear hM5 HM4 hS4 hB4 hO5
  obtain ⟨_, p5, q5⟩ := id hS5
  go_wp2_with fail
  refine (slit3 (unhide HM5)).mono ?_
  clear p5 q5
  rintro e w6 ⟨rfl, hM6, hO6⟩
  have hS6 := hS5.off hO6 nB nC
  have hB6 := hB5.trans (hO6.below hB5.size hB0 hC0)
  have HM6 := hide hM6
  clear hM6 HM5 hS5 hB5 hO6
  obtain ⟨_, p6, q6⟩ := id hS6
  go_wp2_with fail
  refine (slit4 (unhide HM6)).mono ?_
  clear p6 q6
  rintro e w7 ⟨rfl, hM7, hO7⟩
  have hS7 := hS6.off hO7 nB nC
  have hB7 := hB6.trans (hO7.below hB6.size hB0 hC0)
  have HM7 := hide hM7
  clear hM7 HM6 hS6 hB6 hO7
  obtain ⟨_, p7, q7⟩ := id hS7
  go_wp2_with fail
  refine (slit5 (unhide HM7)).mono ?_
  clear p7 q7
  rintro e w8 ⟨rfl, hM8, hO8⟩
  have hS8 := hS7.off hO8 nB nC
  have hB8 := hB7.trans (hO8.below hB7.size hB0 hC0)
  have HM8 := hide hM8
  clear hM8 HM7 hS7 hB7 hO8
  obtain ⟨_, p8, q8⟩ := id hS8
  go_wp2_with fail
  refine (slit6 (unhide HM8)).mono ?_
  clear p8 q8
  rintro e w9 ⟨rfl, hM9, hO9⟩
  have hS9 := hS8.off hO9 nB nC
  have hB9 := hB8.trans (hO9.below hB8.size hB0 hC0)
  have HM9 := hide hM9
  clear hM9 HM8 hS8 hB8 hO9
  clear hS9
  go_wp2_with fail
  refine (slit7 (unhide HM9)).mono ?_
  rintro e w10 ⟨rfl, hM10, k1, k7, hz10, hb10⟩
  have hB10 := hB9.trans (hb10.mono hB9.size)
  have HM10 := hide hM10
  clear hM10 hb10 hB9 HM9
  generalize w9.heap.size = z9 at *
  go_wp2_with fail
  refine (slit8 (unhide HM10)).mono ?_
  rintro e w11 ⟨rfl, rfl⟩
  go_wp2_with fail
  refine (slit9 (unhide HM10)).mono ?_
  rintro e w12 ⟨rfl, hb12⟩
  have hB12 := hB10.trans (hb12.mono hB10.size)
  have l1 := (hb12.cell (p := ⟨z9, 1, none⟩) hz10).trans k1
  have l7 := (hb12.cell (p := ⟨z9, 7, none⟩) hz10).trans k7
  clear k1 k7 hb12 HM10 hB10
  go_wp2
  go_ret
  exact ⟨rfl, hB12⟩

end Go.Proofs.Ytjicfonpldobdaa

/-
  Blocks of a call's own, as a list: what they hold; loads and stores of one cell, or of many at once.
-/
namespace Go.Proofs.Ytjicfonpldobdaa
set_option maxRecDepth 100000
open Go.RowKit Go.Sort

/-- cells written over, from a place on -/
def blit (cs : List Value) (o : Nat) : List Value → List Value
  | [] => cs
  | v :: r => blit (cs.set o v) (o + 1) r

/-- a part of a row -/
def cutL (cs : List Value) (o n : Nat) : List Value := (cs.drop o).take n

theorem blit_len (vs : List Value) : ∀ (cs : List Value) (o : Nat), (blit cs o vs).length = cs.length := by
  induction vs with
  | nil => intro cs o; rfl
  | cons v r ih => intro cs o; rw [blit, ih]; simp

theorem BlkAt.cells {B : Nat} (vs : List Value) : ∀ {cs : List Value} {W : World} (_ : BlkAt W B cs) (o : Nat), BlkAt (W.setCells B o vs) B (blit cs o vs) := by
  induction vs with
  | nil => intro cs W h o; exact h
  | cons v r ih => intro cs W h o; exact ih (h.put o v) (o + 1)

theorem Off.cells {B C : Nat} {a : World} (vs : List Value) : ∀ {w : World} (_ : Off B C a w) (o : Nat), Off B C a (w.setCells B o vs) := by
  induction vs with
  | nil => intro w h o; exact h
  | cons v r ih => intro w h o; exact ih (h.set (.inl rfl) v) (o + 1)

theorem BlkAt.range {W : World} {B : Nat} {cs : List Value} (h : BlkAt W B cs) (o n : Nat) : W.rangeAt B o (cutL cs o n) := by
  intro j v hv
  refine h.cell (o + j) v ?_
  unfold cutL at hv
  by_cases hj : j < n
  · rw [List.getElem?_take_of_lt hj, List.getElem?_drop] at hv
    exact hv
  · rw [List.getElem?_take_eq_none (by omega)] at hv
    cases hv

/-- a memory's state inside a call: nothing elder has turned; blocks of its own hold these cells -/
structure St (w0 w : World) (l : List (Nat × List Value)) : Prop where
  bel : Below w0.heap.size w0 w
  low : ∀ p ∈ l, w0.heap.size ≤ p.1
  blk : ∀ p ∈ l, BlkAt w p.1 p.2
  nd : l.Pairwise (fun p q => p.1 ≠ q.1)

theorem St.new (w : World) : St w w [] := ⟨Below.refl _ _, by simp, by simp, List.Pairwise.nil⟩

theorem St.get {w0 w : World} {l : List (Nat × List Value)} (h : St w0 w l) (k : Nat) {b : Nat} {cs : List Value} (hk : l[k]? = some (b, cs)) : BlkAt w b cs := h.blk (b, cs) (List.mem_of_getElem? hk)

theorem St.ne {w0 w : World} {l : List (Nat × List Value)} (h : St w0 w l) (i j : Nat) {b b' : Nat} {cs cs' : List Value} (hi : l[i]? = some (b, cs)) (hj : l[j]? = some (b', cs')) (hij : i ≠ j) : b ≠ b' := by
  obtain ⟨h1, e1⟩ := List.getElem?_eq_some_iff.1 hi
  obtain ⟨h2, e2⟩ := List.getElem?_eq_some_iff.1 hj
  rcases Nat.lt_or_gt_of_ne hij with hlt | hlt
  · have := List.pairwise_iff_getElem.1 h.nd i j h1 h2 hlt
    rwa [e1, e2] at this
  · have := List.pairwise_iff_getElem.1 h.nd j i h2 h1 hlt
    rw [e1, e2] at this
    exact fun e => this e.symm

theorem St.call {w0 w w' : World} {l : List (Nat × List Value)} (h : St w0 w l) (b : Below w.heap.size w w') : St w0 w' l :=
  ⟨h.bel.trans (b.mono h.bel.size), h.low, fun p hp => (h.blk p hp).below b, h.nd⟩

theorem St.drew {w0 w : World} {l : List (Nat × List Value)} (h : St w0 w l) : St w0 w.drew l := ⟨h.bel.drew, h.low, fun p hp => (h.blk p hp).drew, h.nd⟩

theorem St.undrew {w0 w w' : World} {l : List (Nat × List Value)} (h : St w0 w l) (b : Below w.drew.heap.size w.drew w') : St w0 w' l := h.call (below_undrew b)

theorem St.add {w0 w w' : World} {l : List (Nat × List Value)} (h : St w0 w l) (b : Below w.heap.size w w') {g : Nat} {cs : List Value} (hg : BlkAt w' g cs) (hl : w.heap.size ≤ g) : St w0 w' (l ++ [(g, cs)]) := by
  have h' := h.call b
  refine ⟨h'.bel, fun p hp => ?_, fun p hp => ?_, ?_⟩
  · rcases List.mem_append.1 hp with e | e
    · exact h.low p e
    · obtain rfl : p = _ := by simpa using e
      exact Nat.le_trans h.bel.size hl
  · rcases List.mem_append.1 hp with e | e
    · exact h'.blk p e
    · obtain rfl : p = _ := by simpa using e
      exact hg
  · rw [List.pairwise_append]
    refine ⟨h.nd, by simp, fun p hp q hq => ?_⟩
    obtain rfl : q = _ := by simpa using hq
    have := (h.blk p hp).lt
    intro e
    simp at e
    omega

theorem St.alloc {w0 w : World} {l : List (Nat × List Value)} (h : St w0 w l) (cs : Array Value) (t : TypeId) : St w0 (w.alloc (.cells cs t)) (l ++ [(w.heap.size, cs.toList)]) :=
  h.add ((Below.refl _ _).alloc (Nat.le_refl _) _) (blkAt_new (heap_alloc_new _ _)) (Nat.le_refl _)

theorem pairwise_set {l : List (Nat × List Value)} (h : l.Pairwise (fun p q => p.1 ≠ q.1)) {k b : Nat} {cs cs' : List Value} (hk : l[k]? = some (b, cs)) : (l.set k (b, cs')).Pairwise (fun p q => p.1 ≠ q.1) := by
  have e : (l.set k (b, cs')).map (·.1) = l.map (·.1) := by
    apply List.ext_getElem?
    intro i
    simp only [List.getElem?_map, List.getElem?_set]
    split
    · rename_i e
      subst e
      have hk' := (List.getElem?_eq_some_iff.1 hk).1
      have e := (List.getElem?_eq_some_iff.1 hk).2
      simp [hk', e]
    · rfl
  have h1 : (l.map (·.1)).Pairwise (· ≠ ·) := by rw [List.pairwise_map]; exact h
  rw [← e, List.pairwise_map] at h1
  exact h1

theorem St.turn {w0 w w' : World} {l : List (Nat × List Value)} (h : St w0 w l) (k : Nat) {b : Nat} {cs cs' : List Value} (hk : l[k]? = some (b, cs)) (ho : Off b b w w') (hb : BlkAt w' b cs') : St w0 w' (l.set k (b, cs')) := by
  have hlow := h.low (b, cs) (List.mem_of_getElem? hk)
  refine ⟨h.bel.trans (ho.below h.bel.size hlow hlow), fun p hp => ?_, fun p hp => ?_, pairwise_set h.nd hk⟩
  · rcases List.mem_or_eq_of_mem_set hp with e | e
    · exact h.low p e
    · subst e; exact hlow
  · obtain ⟨i, hi⟩ := List.mem_iff_getElem?.1 hp
    rw [List.getElem?_set] at hi
    split at hi
    · split at hi
      · cases hi; exact hb
      · cases hi
    · rename_i hne
      have hpb := h.blk p (List.mem_of_getElem? hi)
      refine hpb.off ho ?_ ?_ <;>
      · intro e
        have h1 := (List.getElem?_eq_some_iff.1 hi)
        have h2 := (List.getElem?_eq_some_iff.1 hk)
        obtain ⟨h1, e1⟩ := h1
        obtain ⟨h2, e2⟩ := h2
        rcases Nat.lt_or_gt_of_ne hne with hlt | hlt
        · have := List.pairwise_iff_getElem.1 h.nd k i h2 h1 hlt
          rw [e1, e2] at this
          exact this e.symm
        · have := List.pairwise_iff_getElem.1 h.nd i k h1 h2 hlt
          rw [e1, e2] at this
          exact this e

theorem St.store {w0 w : World} {l : List (Nat × List Value)} (h : St w0 w l) (k : Nat) {b : Nat} {cs : List Value} (hk : l[k]? = some (b, cs)) (o : Nat) (vs : List Value) : St w0 (w.setCells b o vs) (l.set k (b, blit cs o vs)) :=
  h.turn k hk ((Off.refl b b w).cells vs o) ((h.get k hk).cells vs o)

/-! ### Runs -/

theorem run_load_st {P : Program} {w : World} {b : Nat} {cs : List Value} (h : BlkAt w b cs) (o : Nat) (ty : TypeId) (n : Nat) (hn : o + n ≤ cs.length) (d : TypeDesc) (hu : P.underlying ty = some d) (hd : d.isRow = true) (hi : (P.info? ty).map (·.size) = some n) :
    (Instr.loadAt ty (.pointer (some ⟨b, o, none⟩))).run P w = .ok (.agg (cutL cs o n).toArray) w :=
  run_loadAt_mid w b o ty (cutL cs o n) d (h.range o n) hu hd (by rw [hi]; simp [cutL]; omega)

theorem run_load1_st {P : Program} {w : World} {b : Nat} {cs : List Value} (h : BlkAt w b cs) (o : Nat) (ty : TypeId) (v : Value) (hv : cs[o]? = some v) (d : TypeDesc) (hu : P.underlying ty = some d) (hd : d.isRow = false) :
    (Instr.loadAt ty (.pointer (some ⟨b, o, none⟩))).run P w = .ok v w := by
  have hagg : (isAgg ty).run P w = .ok false w := by
    unfold isAgg
    rw [Sem.run_bind, run_underlying hu w]
    cases d <;> simp_all
  simp [Instr.loadAt, Instr.sureAddr, loadVar, Sem.run_bind, hagg, h.cell o v hv]

theorem run_store_st {P : Program} {w : World} {b : Nat} {cs : List Value} (h : BlkAt w b cs) (o : Nat) (ty : TypeId) (v : Value) (vs : List Value) (hv : v.cells.toList = vs) (hn : o + vs.length ≤ cs.length) (hi : (P.info? ty).map (·.size) = some vs.length) (h1 : vs.all (·.oneCell') = true) :
    (Instr.storeAt ty (.pointer (some ⟨b, o, none⟩)) v).run P w = .ok () (w.setCells b o vs) := by
  have hst := run_storeCells_cells (P := P) b o vs 0 w (fun j hj => by
      have hj' : o + j < cs.length := by omega
      rw [Nat.add_zero, h.cell (o + j) cs[o + j] (List.getElem?_eq_getElem hj')]; rfl) (fun j _ => h.fz _) (fun v hv => List.all_eq_true.1 h1 v hv)
  cases hq : P.info? ty with
  | none => simp [hq] at hi
  | some i =>
    have hs : v.cells.size = i.size := by
      have : vs.length = i.size := by simp [hq] at hi; omega
      rw [← this, ← hv]; simp
    simp only [Nat.add_zero] at hst
    simp [Instr.storeAt, Instr.sureAddr, storeVar, sizeOf, typeInfo, hq, hs, hv, hst]

/-- a type of many cells -/
def Row (P : Program) (ty : TypeId) (n : Nat) : Prop := ∃ d, P.underlying ty = some d ∧ d.isRow = true ∧ (P.info? ty).map (·.size) = some n

/-- a type of one cell -/
def One (P : Program) (ty : TypeId) : Prop := ∃ d, P.underlying ty = some d ∧ d.isRow = false

/-! ### The walk's steps, at a plain list of operations -/
section
variable {P : Program} {ops : Array Oper} {rest : List Oper} {op : Oper} {a : Act} {w w0 : World} {Q : Exit → Act → World → Prop} {l : List (Nat × List Value)}

theorem wpl_box (hS : St w0 w l) (hw : Region.wanted op (yielded ops a.tmps) = true) (ty : TypeId) (x : Operand) (ho : op.op = .box ty x) (vs : List Value) (hx : a.eval x = .agg (List.toArray vs))
    (f : Nat → Act) (hf : ∀ b, a.put op.dst (.pointer (some ⟨b, 0, none⟩)) = f b) (h : ∀ b w', St w0 w' (l ++ [(b, vs)]) → wpList P ops Q rest (f b) w') : wpList P ops Q (op :: rest) a w := by
  refine BigFrame.wpList_want hw fun K hK => ?_
  have e : (execOp a.eval op).run P w = .ok (.value (.pointer (some ⟨w.heap.size, 0, none⟩))) (w.alloc (.cells (List.toArray vs) ty)) := by
    unfold execOp
    rw [ho]
    dsimp only
    rw [hx]
    simp [Instr.box, newVar, newRow, go_sem, Value.cells]
  unfold Oper.wp
  rw [e]
  exact hK _ _ (by rw [hf]; exact h _ _ (hS.alloc (List.toArray vs) ty))

theorem wpl_alloc (hS : St w0 w l) (hw : Region.wanted op (yielded ops a.tmps) = true) (ty : TypeId) (ho : op.op = .alloc ty) (z : Value) (hz : (P.info? ty).map (·.zero) = some (some z))
    (f : Nat → Act) (hf : ∀ b, a.put op.dst (.pointer (some ⟨b, 0, none⟩)) = f b) (h : ∀ b w', St w0 w' (l ++ [(b, z.cells.toList)]) → wpList P ops Q rest (f b) w') : wpList P ops Q (op :: rest) a w := by
  refine BigFrame.wpList_want hw fun K hK => ?_
  have e : (execOp a.eval op).run P w = .ok (.value (.pointer (some ⟨w.heap.size, 0, none⟩))) (w.alloc (.cells z.cells ty)) := by
    unfold execOp
    rw [ho]
    cases hq : P.info? ty with
    | none => simp [hq] at hz
    | some i =>
      have hz' : i.zero = some z := by simpa [hq] using hz
      simp [Instr.alloc, zeroValue, typeInfo, hq, hz', newVar, newRow, go_sem]
  unfold Oper.wp
  rw [e]
  exact hK _ _ (by rw [hf]; exact h _ _ (hS.alloc z.cells ty))

theorem wpl_load (hS : St w0 w l) (k : Nat) (hw : Region.wanted op (yielded ops a.tmps) = true) (ty : TypeId) (x : Operand) (ho : op.op = .load ty x) (b o : Nat) (hx : a.eval x = .pointer (some ⟨b, o, none⟩)) (cs : List Value) (hk : l[k]? = some (b, cs)) (n : Nat) (hr : Row P ty n) (hn : (o + n).ble cs.length = true) (vs : List Value) (hvs : cutL cs o n = vs)
    (a' : Act) (ha : a.put op.dst (.agg vs.toArray) = a') (h : wpList P ops Q rest a' w) : wpList P ops Q (op :: rest) a w := by
  refine BigFrame.wpList_want hw fun K hK => ?_
  obtain ⟨d, hu, hd, hi⟩ := hr
  subst hvs ha
  have e : (execOp a.eval op).run P w = .ok (.value (.agg (cutL cs o n).toArray)) w := by
    unfold execOp
    rw [ho]
    simp [hx, run_load_st (P := P) (hS.get k hk) o ty n (Nat.le_of_ble_eq_true hn) d hu hd hi]
  unfold Oper.wp
  rw [e]
  exact hK _ _ h

theorem wpl_load1 (hS : St w0 w l) (k : Nat) (hw : Region.wanted op (yielded ops a.tmps) = true) (ty : TypeId) (x : Operand) (ho : op.op = .load ty x) (b o : Nat) (hx : a.eval x = .pointer (some ⟨b, o, none⟩)) (cs : List Value) (hk : l[k]? = some (b, cs)) (hr : One P ty) (v : Value) (hv : cs[o]? = some v)
    (a' : Act) (ha : a.put op.dst v = a') (h : wpList P ops Q rest a' w) : wpList P ops Q (op :: rest) a w := by
  refine BigFrame.wpList_want hw fun K hK => ?_
  obtain ⟨d, hu, hd⟩ := hr
  subst ha
  have e : (execOp a.eval op).run P w = .ok (.value v) w := by
    unfold execOp
    rw [ho]
    simp [hx, run_load1_st (P := P) (hS.get k hk) o ty v hv d hu hd]
  unfold Oper.wp
  rw [e]
  exact hK _ _ h

theorem wpl_store (hS : St w0 w l) (k : Nat) (hw : Region.wanted op (yielded ops a.tmps) = true) (ty : TypeId) (x y : Operand) (ho : op.op = .store ty x y) (b o : Nat) (hx : a.eval x = .pointer (some ⟨b, o, none⟩)) (cs : List Value) (hk : l[k]? = some (b, cs)) (v : Value) (hy : a.eval y = v)
    (vs : List Value) (hv : v.cells.toList = vs) (n : Nat) (hi : (P.info? ty).map (·.size) = some n) (hvn : vs.length = n) (hn : (o + vs.length).ble cs.length = true) (h1 : vs.all (·.oneCell') = true)
    (a' : Act) (ha : a.put op.dst undef = a') (h : ∀ w', St w0 w' (l.set k (b, blit cs o vs)) → wpList P ops Q rest a' w') : wpList P ops Q (op :: rest) a w := by
  refine BigFrame.wpList_want hw fun K hK => ?_
  subst ha
  have e : (execOp a.eval op).run P w = .ok .skip (w.setCells b o vs) := by
    unfold execOp
    rw [ho]
    simp [hx, hy, run_store_st (P := P) (hS.get k hk) o ty v vs hv (Nat.le_of_ble_eq_true hn) (hvn ▸ hi) h1]
  unfold Oper.wp
  rw [e]
  exact hK _ _ (h _ (hS.store k hk o vs))

theorem wpl_storeO (hS : St w0 w l) (k : Nat) (hw : Region.wanted op (yielded ops a.tmps) = true) (ty : TypeId) (x y : Operand) (ho : op.op = .store ty x y) (b o : Nat) (hx : a.eval x = .pointer (some ⟨b, o, none⟩)) (cs : List Value) (hk : l[k]? = some (b, cs)) (v : Value) (hy : a.eval y = v)
    (vs : List Value) (hv : v.cells.toList = vs) (n : Nat) (hi : (P.info? ty).map (·.size) = some n) (hvn : vs.length = n) (hn : (o + vs.length).ble cs.length = true) (h1 : vs.all (·.oneCell') = true)
    (a' : Act) (ha : a.put op.dst undef = a') (h : ∀ w', St w0 w' (l.set k (b, blit cs o vs)) → Off b b w w' → wpList P ops Q rest a' w') : wpList P ops Q (op :: rest) a w := by
  refine BigFrame.wpList_want hw fun K hK => ?_
  subst ha
  have e : (execOp a.eval op).run P w = .ok .skip (w.setCells b o vs) := by
    unfold execOp
    rw [ho]
    simp [hx, hy, run_store_st (P := P) (hS.get k hk) o ty v vs hv (Nat.le_of_ble_eq_true hn) (hvn ▸ hi) h1]
  unfold Oper.wp
  rw [e]
  exact hK _ _ (h _ (hS.store k hk o vs) ((Off.refl b b w).cells vs o))

/-- a value's cells -/
def Sh (v : Value) (vs : List Value) : Prop := v.cells.toList = vs

theorem shA {v : Value} {vs : List Value} (h : v = .agg (List.toArray vs)) : Sh v vs := by subst h; rfl
theorem shI {v : Value} {k : IntKind} {i : Int} (h : v = .int k i) : Sh v [.int k i] := by subst h; rfl
theorem shB {v : Value} {b : Bool} (h : v = .bool b) : Sh v [.bool b] := by subst h; rfl
theorem shS {v : Value} {p : Option Addr} {n c : Nat} (h : v = .slice p n c) : Sh v [.slice p n c] := by subst h; rfl
theorem shP {v : Value} {p : Option Addr} (h : v = .pointer p) : Sh v [.pointer p] := by subst h; rfl
theorem shF {v : Value} {f : Fn} {x y : Array Value} (h : v = .func f x y) : Sh v [.func f x y] := by subst h; rfl
theorem shN {v : Value} (h : v = .nilFunc) : Sh v [.nilFunc] := by subst h; rfl

theorem wpl_ld (hS : St w0 w l) (hw : Region.wanted op (yielded ops a.tmps) = true) (ty : TypeId) (x : Operand) (ho : op.op = .load ty x) (b o : Nat) (hx : a.eval x = .pointer (some ⟨b, o, none⟩))
    (h : ∃ (k : Nat) (cs : List Value), l[k]? = some (b, cs) ∧ ((∃ v, One P ty ∧ cs[o]? = some v ∧ ∃ a', a.put op.dst v = a' ∧ wpList P ops Q rest a' w) ∨ ∃ n vs, Row P ty n ∧ (o + n).ble cs.length = true ∧ cutL cs o n = vs ∧ ∃ a', a.put op.dst (.agg vs.toArray) = a' ∧ wpList P ops Q rest a' w)) : wpList P ops Q (op :: rest) a w := by
  obtain ⟨k, cs, hk, ⟨v, h1, h2, a', ha, h⟩ | ⟨n, vs, h1, h2, h3, a', ha, h⟩⟩ := h
  · exact wpl_load1 hS k hw ty x ho b o hx cs hk h1 v h2 a' ha h
  · exact wpl_load hS k hw ty x ho b o hx cs hk n h1 h2 vs h3 a' ha h

theorem wpl_st (hS : St w0 w l) (hw : Region.wanted op (yielded ops a.tmps) = true) (ty : TypeId) (x y : Operand) (ho : op.op = .store ty x y) (hd : op.dst = none) (b o : Nat) (hx : a.eval x = .pointer (some ⟨b, o, none⟩))
    (h : ∃ (k : Nat) (cs : List Value), l[k]? = some (b, cs) ∧ ∃ vs, Sh (a.eval y) vs ∧ ∃ n, (P.info? ty).map (·.size) = some n ∧ vs.length = n ∧ (o + vs.length).ble cs.length = true ∧ vs.all (·.oneCell') = true ∧ ∀ w', St w0 w' (l.set k (b, blit cs o vs)) → wpList P ops Q rest a w') : wpList P ops Q (op :: rest) a w := by
  obtain ⟨k, cs, hk, vs, h1, n, h2, h3, h4, h5, h⟩ := h
  exact wpl_store hS k hw ty x y ho b o hx cs hk _ rfl vs h1 n h2 h3 h4 h5 a (by rw [hd]; rfl) h

theorem wpl_stO (hS : St w0 w l) (hw : Region.wanted op (yielded ops a.tmps) = true) (ty : TypeId) (x y : Operand) (ho : op.op = .store ty x y) (hd : op.dst = none) (b o : Nat) (hx : a.eval x = .pointer (some ⟨b, o, none⟩))
    (h : ∃ (k : Nat) (cs : List Value), l[k]? = some (b, cs) ∧ ∃ vs, Sh (a.eval y) vs ∧ ∃ n, (P.info? ty).map (·.size) = some n ∧ vs.length = n ∧ (o + vs.length).ble cs.length = true ∧ vs.all (·.oneCell') = true ∧ ∀ w', St w0 w' (l.set k (b, blit cs o vs)) → Off b b w w' → wpList P ops Q rest a w') : wpList P ops Q (op :: rest) a w := by
  obtain ⟨k, cs, hk, vs, h1, n, h2, h3, h4, h5, h⟩ := h
  exact wpl_storeO hS k hw ty x y ho b o hx cs hk _ rfl vs h1 n h2 h3 h4 h5 a (by rw [hd]; rfl) h

end

theorem St.add2 {w0 w w' : World} {l : List (Nat × List Value)} (h : St w0 w l) (b : Below w.heap.size w w') {g h' : Nat} {cs ds : List Value} (hg : BlkAt w' g cs) (hl : w.heap.size ≤ g) (hh : BlkAt w' h' ds) (hl' : w.heap.size ≤ h') (hne : g ≠ h') : St w0 w' (l ++ [(g, cs), (h', ds)]) := by
  have k := h.call b
  refine ⟨k.bel, fun p hp => ?_, fun p hp => ?_, ?_⟩
  · rcases List.mem_append.1 hp with e | e
    · exact h.low p e
    · rcases (by simpa using e : p = (g, cs) ∨ p = (h', ds)) with rfl | rfl
      · exact Nat.le_trans h.bel.size hl
      · exact Nat.le_trans h.bel.size hl'
  · rcases List.mem_append.1 hp with e | e
    · exact k.blk p e
    · rcases (by simpa using e : p = (g, cs) ∨ p = (h', ds)) with rfl | rfl
      · exact hg
      · exact hh
  · rw [List.pairwise_append]
    refine ⟨h.nd, by simpa using hne, fun p hp q hq => ?_⟩
    have := (h.blk p hp).lt
    rcases (by simpa using hq : q = (g, cs) ∨ q = (h', ds)) with rfl | rfl <;>
    · intro e
      simp at e
      omega

/-- a memory's cells -/
def memL (c : Um.Cf) (C : Nat) (m : Um.Mm) : List Value := [.int .i64 c.t, .int .i64 c.s, .int .i64 c.k, .int .i64 c.g, .int .u64 c.q, .slice (some ⟨C, 0, none⟩) c.n c.n, .int .i64 m.cnt, .int .i64 m.l.kind, .int .i64 m.l.a, .int .i64 m.l.b, .int .u64 m.l.old, .int .u64 m.l.new, .bool m.l.done]

theorem MemAt.blkB {W : World} {B C : Nat} {c : Um.Cf} {m : Um.Mm} (h : MemAt W B C c m) : BlkAt W B (memL c C m) := by
  refine ⟨h.hB, fun j v hv => ?_, h.fB⟩
  match j, hv with
  | 0, hv => cases hv; exact h.cf0
  | 1, hv => cases hv; exact h.cf1
  | 2, hv => cases hv; exact h.cf2
  | 3, hv => cases hv; exact h.cf3
  | 4, hv => cases hv; exact h.cf4
  | 5, hv => cases hv; exact h.sl
  | 6, hv => cases hv; exact h.ct
  | 7, hv => cases hv; exact h.l0
  | 8, hv => cases hv; exact h.l1
  | 9, hv => cases hv; exact h.l2
  | 10, hv => cases hv; exact h.l3
  | 11, hv => cases hv; exact h.l4
  | 12, hv => cases hv; exact h.l5
  | j + 13, hv => simp [memL] at hv

theorem MemAt.blkC {W : World} {B C : Nat} {c : Um.Cf} {m : Um.Mm} (h : MemAt W B C c m) : BlkAt W C (rowW m.ws c.n) := by
  refine ⟨h.hC, fun j v hv => ?_, h.fC⟩
  have hj : j < c.n := by have := (List.getElem?_eq_some_iff.1 hv).1; rwa [rowW_len] at this
  rw [rowW_get m.ws c.n j hj] at hv
  cases hv
  exact h.ws j hj

theorem memAt_of {W : World} {B C : Nat} {c : Um.Cf} {m : Um.Mm} (hB : BlkAt W B (memL c C m)) (hC : BlkAt W C (rowW m.ws c.n)) (hne : B ≠ C) (hr : c.r = true) (hw : ∀ j, j < c.n → Um.Word (m.ws j)) : MemAt W B C c m :=
  ⟨hB.lt, hC.lt, hne, hr, hB.cell 0 _ rfl, hB.cell 1 _ rfl, hB.cell 2 _ rfl, hB.cell 3 _ rfl, hB.cell 4 _ rfl, hB.cell 5 _ rfl, hB.cell 6 _ rfl, hB.cell 7 _ rfl, hB.cell 8 _ rfl, hB.cell 9 _ rfl, hB.cell 10 _ rfl, hB.cell 11 _ rfl, hB.cell 12 _ rfl, hB.fz, hC.fz, fun j hj => hC.cell j _ (rowW_get m.ws c.n j hj), hw⟩

theorem St.mem {w0 w w' : World} {l : List (Nat × List Value)} (h : St w0 w l) (i j : Nat) {B C : Nat} {cs cs' ds ds' : List Value} (hi : l[i]? = some (B, cs)) (hj : l[j]? = some (C, ds)) (ho : Off B C w w') (hB : BlkAt w' B cs') (hC : BlkAt w' C ds') : St w0 w' ((l.set i (B, cs')).set j (C, ds')) := by
  have lB := h.low _ (List.mem_of_getElem? hi)
  have lC := h.low _ (List.mem_of_getElem? hj)
  have hj' : ∃ ds0, (l.set i (B, cs'))[j]? = some (C, ds0) := by
    rw [List.getElem?_set]
    split
    · rename_i e
      subst e
      rw [hi] at hj
      cases hj
      exact ⟨cs', by simp [(List.getElem?_eq_some_iff.1 hi).1]⟩
    · exact ⟨ds, hj⟩
  obtain ⟨ds0, hj'⟩ := hj'
  refine ⟨h.bel.trans (ho.below h.bel.size lB lC), fun p hp => ?_, fun p hp => ?_, pairwise_set (pairwise_set h.nd hi) hj'⟩
  · rcases List.mem_or_eq_of_mem_set hp with e | e
    · rcases List.mem_or_eq_of_mem_set e with e | e
      · exact h.low p e
      · subst e; exact lB
    · subst e; exact lC
  · obtain ⟨k, hk⟩ := List.mem_iff_getElem?.1 hp
    rw [List.getElem?_set] at hk
    split at hk
    · split at hk
      · cases hk; exact hC
      · cases hk
    rename_i hne
    rw [List.getElem?_set] at hk
    split at hk
    · split at hk
      · cases hk; exact hB
      · cases hk
    rename_i hne'
    obtain ⟨h1, e1⟩ := List.getElem?_eq_some_iff.1 hk
    have key : ∀ (q : Nat) (b : Nat) (xs : List Value), l[q]? = some (b, xs) → q ≠ k → p.1 ≠ b := by
      intro q b xs hq hqk e
      obtain ⟨h2, e2⟩ := List.getElem?_eq_some_iff.1 hq
      rcases Nat.lt_or_gt_of_ne hqk with hlt | hlt
      · have := List.pairwise_iff_getElem.1 h.nd q k h2 h1 hlt
        rw [e1, e2] at this
        exact this e.symm
      · have := List.pairwise_iff_getElem.1 h.nd k q h1 h2 hlt
        rw [e1, e2] at this
        exact this e
    exact (h.blk p (List.mem_of_getElem? hk)).off ho (key i B cs hi hne') (key j C ds hj hne)

theorem St.addMem {w0 w w' : World} {l : List (Nat × List Value)} (h : St w0 w l) (b : Below w.heap.size w w') {B C : Nat} {c : Um.Cf} {m : Um.Mm} (hM : MemAt w' B C c m) (h1 : w.heap.size ≤ B) (h2 : w.heap.size ≤ C) : St w0 w' (l ++ [(B, memL c C m), (C, rowW m.ws c.n)]) :=
  h.add2 b hM.blkB h1 hM.blkC h2 hM.ne

end Go.Proofs.Ytjicfonpldobdaa

/-
  The types that blocks are made of: how many cells, which zero.
-/
namespace Go.Proofs.Ytjicfonpldobdaa
set_option maxRecDepth 100000
open Go.RowKit Go.Sort

theorem row_cfg : Row Try.prog 24 5 := ⟨_, Try.underlying24, rfl, by kernel_rfl⟩

theorem row_rspot : Row Try.prog 29 2 := ⟨_, Try.underlying29, rfl, by kernel_rfl⟩

theorem row_rtch : Row Try.prog 31 6 := ⟨_, Try.underlying31, rfl, by kernel_rfl⟩

theorem row_rmem : Row Try.prog 33 13 := ⟨_, Try.underlying33, rfl, by kernel_rfl⟩

theorem row_spot : Row Try.prog 39 2 := ⟨_, Try.underlying39, rfl, by kernel_rfl⟩

theorem row_tch : Row Try.prog 87 6 := ⟨_, Try.underlying87, rfl, by kernel_rfl⟩

theorem row_op : Row Try.prog 38 5 := ⟨_, Try.underlying38, rfl, by kernel_rfl⟩

theorem one_int : One Try.prog 3 := ⟨_, Try.underlying3, rfl⟩

theorem one_u64 : One Try.prog 22 := ⟨_, Try.underlying22, rfl⟩

theorem one_bool : One Try.prog 4 := ⟨_, Try.underlying4, rfl⟩

theorem one_words : One Try.prog 25 := ⟨_, Try.underlying25, rfl⟩

theorem siz_cfg : (Try.prog.info? 24).map (·.size) = some 5 := by kernel_rfl

theorem siz_rspot : (Try.prog.info? 29).map (·.size) = some 2 := by kernel_rfl

theorem siz_rtch : (Try.prog.info? 31).map (·.size) = some 6 := by kernel_rfl

theorem siz_rmem : (Try.prog.info? 33).map (·.size) = some 13 := by kernel_rfl

theorem siz_spot : (Try.prog.info? 39).map (·.size) = some 2 := by kernel_rfl

theorem siz_tch : (Try.prog.info? 87).map (·.size) = some 6 := by kernel_rfl

theorem siz_int : (Try.prog.info? 3).map (·.size) = some 1 := by kernel_rfl

theorem siz_u64 : (Try.prog.info? 22).map (·.size) = some 1 := by kernel_rfl

theorem siz_bool : (Try.prog.info? 4).map (·.size) = some 1 := by kernel_rfl

theorem siz_words : (Try.prog.info? 25).map (·.size) = some 1 := by kernel_rfl

theorem zer_rspot : (Try.prog.info? 29).map (·.zero) = some (some (.agg #[.int .i64 0, .int .i64 0])) := by kernel_rfl

theorem zer_spot : (Try.prog.info? 39).map (·.zero) = some (some (.agg #[.int .i64 0, .int .i64 0])) := by kernel_rfl

theorem zer_cfg : (Try.prog.info? 24).map (·.zero) = some (some (.agg #[.int .i64 0, .int .i64 0, .int .i64 0, .int .i64 0, .int .u64 0])) := by kernel_rfl

theorem zer_rtch : (Try.prog.info? 31).map (·.zero) = some (some (.agg #[.int .i64 0, .int .i64 0, .int .i64 0, .int .u64 0, .int .u64 0, .bool false])) := by kernel_rfl

theorem zer_tch : (Try.prog.info? 87).map (·.zero) = some (some (.agg #[.int .i64 0, .int .i64 0, .int .i64 0, .int .u64 0, .int .u64 0, .bool false])) := by kernel_rfl

theorem zer_rmem : (Try.prog.info? 33).map (·.zero) = some (some (.agg #[.int .i64 0, .int .i64 0, .int .i64 0, .int .i64 0, .int .u64 0, .slice none 0 0, .int .i64 0, .int .i64 0, .int .i64 0, .int .i64 0, .int .u64 0, .int .u64 0, .bool false])) := by kernel_rfl

theorem look_mem {β : Type} {l : List (Nat × β)} {k : Nat} {v : β} (h : l.lookup k = some v) : (k, v) ∈ l := by
  induction l with
  | nil => cases h
  | cons x r ih =>
    obtain ⟨a, b⟩ := x
    simp only [List.lookup] at h
    split at h
    · rename_i e
      cases h
      rw [eq_of_beq e]
      exact List.mem_cons_self
    · exact List.mem_cons_of_mem _ (ih h)

def rowT : List (Nat × Nat) := [(33, 13), (31, 6), (29, 2), (24, 5), (39, 2), (87, 6), (38, 5)]

theorem row_all : ∀ p ∈ rowT, Row Try.prog p.1 p.2 := by
  intro p hp
  simp only [rowT, List.mem_cons, List.not_mem_nil, or_false] at hp
  rcases hp with rfl | rfl | rfl | rfl | rfl | rfl | rfl
  · exact row_rmem
  · exact row_rtch
  · exact row_rspot
  · exact row_cfg
  · exact row_spot
  · exact row_tch
  · exact row_op

theorem row_any {ty : Nat} {v : Nat} (h : rowT.lookup ty = some v) : Row Try.prog ty v := row_all (ty, v) (look_mem h)

def onuT : List (Nat × Unit) := [(3, ()), (22, ()), (4, ()), (25, ())]

theorem onu_all : ∀ p ∈ onuT, One Try.prog p.1 := by
  intro p hp
  simp only [onuT, List.mem_cons, List.not_mem_nil, or_false] at hp
  rcases hp with rfl | rfl | rfl | rfl
  · exact one_int
  · exact one_u64
  · exact one_bool
  · exact one_words

theorem onu_any {ty : Nat} {v : Unit} (h : onuT.lookup ty = some v) : One Try.prog ty := onu_all (ty, v) (look_mem h)

theorem one_any {ty : Nat} (h : onuT.lookup ty = some ()) : One Try.prog ty := onu_any h

def sizT : List (Nat × Nat) := [(33, 13), (31, 6), (29, 2), (24, 5), (39, 2), (87, 6), (3, 1), (22, 1), (4, 1), (25, 1)]

theorem siz_all : ∀ p ∈ sizT, (Try.prog.info? p.1).map (·.size) = some p.2 := by
  intro p hp
  simp only [sizT, List.mem_cons, List.not_mem_nil, or_false] at hp
  rcases hp with rfl | rfl | rfl | rfl | rfl | rfl | rfl | rfl | rfl | rfl
  · exact siz_rmem
  · exact siz_rtch
  · exact siz_rspot
  · exact siz_cfg
  · exact siz_spot
  · exact siz_tch
  · exact siz_int
  · exact siz_u64
  · exact siz_bool
  · exact siz_words

theorem siz_any {ty : Nat} {v : Nat} (h : sizT.lookup ty = some v) : (Try.prog.info? ty).map (·.size) = some v := siz_all (ty, v) (look_mem h)

def zerT : List (Nat × Value) := [(33, (.agg #[.int .i64 0, .int .i64 0, .int .i64 0, .int .i64 0, .int .u64 0, .slice none 0 0, .int .i64 0, .int .i64 0, .int .i64 0, .int .i64 0, .int .u64 0, .int .u64 0, .bool false])), (31, (.agg #[.int .i64 0, .int .i64 0, .int .i64 0, .int .u64 0, .int .u64 0, .bool false])), (29, (.agg #[.int .i64 0, .int .i64 0])), (24, (.agg #[.int .i64 0, .int .i64 0, .int .i64 0, .int .i64 0, .int .u64 0])), (39, (.agg #[.int .i64 0, .int .i64 0])), (87, (.agg #[.int .i64 0, .int .i64 0, .int .i64 0, .int .u64 0, .int .u64 0, .bool false]))]

theorem zer_all : ∀ p ∈ zerT, (Try.prog.info? p.1).map (·.zero) = some (some p.2) := by
  intro p hp
  simp only [zerT, List.mem_cons, List.not_mem_nil, or_false] at hp
  rcases hp with rfl | rfl | rfl | rfl | rfl | rfl
  · exact zer_rmem
  · exact zer_rtch
  · exact zer_rspot
  · exact zer_cfg
  · exact zer_spot
  · exact zer_tch

theorem zer_any {ty : Nat} {v : Value} (h : zerT.lookup ty = some v) : (Try.prog.info? ty).map (·.zero) = some (some v) := zer_all (ty, v) (look_mem h)


end Go.Proofs.Ytjicfonpldobdaa

/-
  Blocks of a call's own in a region that draws its order: one operation at a time.
-/
namespace Go.Proofs.Ytjicfonpldobdaa
set_option maxRecDepth 100000
open Go.RowKit Go.Sort

theorem St.perm {w0 w : World} {l l' : List (Nat × List Value)} (h : St w0 w l) (e : List.Perm l l') : St w0 w l' :=
  ⟨h.bel, fun p hp => h.low p (e.mem_iff.2 hp), fun p hp => h.blk p (e.mem_iff.2 hp), (e.pairwise_iff (fun hab hba => hab hba.symm)).1 h.nd⟩

theorem perm_last {b x y : List (Nat × List Value)} (g : Nat × List Value) : List.Perm (b ++ [] ++ x ++ y ++ [g]) (b ++ [g] ++ x ++ y) := by
  simp only [List.append_nil, List.append_assoc]
  refine List.Perm.append_left b ?_
  rw [← List.append_assoc]
  exact List.perm_append_comm

theorem perm_mid {b x y : List (Nat × List Value)} (g : Nat × List Value) : List.Perm (b ++ x ++ [] ++ y ++ [g]) (b ++ x ++ [g] ++ y) := by
  simp only [List.append_nil, List.append_assoc]
  exact List.Perm.append_left b (List.Perm.append_left x List.perm_append_comm)

theorem St.addAt {w0 w : World} {l : List (Nat × List Value)} (h : St w0 w l) {g : Nat} {cs : List Value} (hg : BlkAt w g cs) (hl : w0.heap.size ≤ g) (hne : ∀ p ∈ l, p.1 ≠ g) : St w0 w (l ++ [(g, cs)]) := by
  refine ⟨h.bel, fun p hp => ?_, fun p hp => ?_, ?_⟩
  · rcases List.mem_append.1 hp with e | e
    · exact h.low p e
    · obtain rfl : p = _ := by simpa using e
      exact hl
  · rcases List.mem_append.1 hp with e | e
    · exact h.blk p e
    · obtain rfl : p = _ := by simpa using e
      exact hg
  · rw [List.pairwise_append]
    refine ⟨h.nd, by simp, fun p hp q hq => ?_⟩
    obtain rfl : q = _ := by simpa using hq
    exact hne p hp

theorem St.add3 {w0 w w' : World} {l : List (Nat × List Value)} (h : St w0 w l) (b : Below w.heap.size w w') {B C g : Nat} {c : Um.Cf} {m : Um.Mm} {cs : List Value} (hM : MemAt w' B C c m) (h1 : w.heap.size ≤ B) (h2 : w.heap.size ≤ C) (hg : BlkAt w' g cs) (hl : w.heap.size ≤ g) (n1 : B ≠ g) (n2 : C ≠ g) : St w0 w' (l ++ [(B, memL c C m), (C, rowW m.ws c.n)] ++ [(g, cs)]) := by
  refine (h.addMem b hM h1 h2).addAt hg (Nat.le_trans h.bel.size hl) (fun p hp => ?_)
  rcases List.mem_append.1 hp with e | e
  · have := (h.blk p e).lt
    omega
  · rcases (by simpa using e : p = (B, memL c C m) ∨ p = (C, rowW m.ws c.n)) with rfl | rfl
    · exact n1
    · exact n2

theorem St.sub {w0 w : World} {l l' : List (Nat × List Value)} (h : St w0 w l) (e : List.Sublist l' l) : St w0 w l' :=
  ⟨h.bel, fun p hp => h.low p (e.subset hp), fun p hp => h.blk p (e.subset hp), h.nd.sublist e⟩

theorem cond_at {b : Bool} {x y z : Value} (h : b = true) (hx : x = z) : cond b x y = z := by rw [h]; exact hx
theorem list2_eq {a a' b b' : Value} (h : a = a') (k : b = b') : [a, b] = [a', b'] := by rw [h, k]
theorem list5_eq {a a' b b' c c' d d' e e' : Value} (h1 : a = a') (h2 : b = b') (h3 : c = c') (h4 : d = d') (h5 : e = e') : [a, b, c, d, e] = [a', b', c', d', e'] := by rw [h1, h2, h3, h4, h5]
theorem og_not {p q : Bool} (h : p = true → q = true) (hq : q = false) : p = false := by
  cases p with
  | false => rfl
  | true => rw [h rfl] at hq; cases hq

section
variable {P : Program} {ops : Array Oper} {o : Oper} {a : Act} {w w0 : World} {K : Act → World → Prop} {Q : Exit → Act → World → Prop} {E : Prop} {l : List (Nat × List Value)} {S : World → Prop}

theorem stp_alloc (hS : St w0 w l) (hw : Region.wanted o (yielded ops a.tmps) = true) (ty : TypeId) (ho : o.op = .alloc ty) (z : Value) (hz : (P.info? ty).map (·.zero) = some (some z)) (zs : List Value) (hzs : z.cells.toList = zs)
    (d : Option Tmp) (hd : o.dst = d) (f : Nat → Act) (hf : ∀ b, a.put d (.pointer (some ⟨b, 0, none⟩)) = f b) (h : ∀ b w', St w0 w' (l ++ [(b, zs)]) → K (f b) w') : if Region.wanted o (yielded ops a.tmps) = true then Oper.wp P o a w K Q else E := by
  rw [if_pos hw]
  have e : (execOp a.eval o).run P w = .ok (.value (.pointer (some ⟨w.heap.size, 0, none⟩))) (w.alloc (.cells z.cells ty)) := by
    unfold execOp
    rw [ho]
    cases hq : P.info? ty with
    | none => simp [hq] at hz
    | some i =>
      have hz' : i.zero = some z := by simpa [hq] using hz
      simp [Instr.alloc, zeroValue, typeInfo, hq, hz', newVar, newRow, go_sem]
  unfold Oper.wp
  rw [e]
  subst hzs hd
  show K (a.put o.dst _) _
  rw [hf]
  exact h _ _ (hS.alloc z.cells ty)

theorem stp_store (hS : St w0 w l) (k : Nat) (hw : Region.wanted o (yielded ops a.tmps) = true) (ty : TypeId) (x y : Operand) (ho : o.op = .store ty x y) (b off : Nat) (hx : a.eval x = .pointer (some ⟨b, off, none⟩)) (cs : List Value) (hk : l[k]? = some (b, cs)) (vs : List Value) (hy : a.eval y = .agg (List.toArray vs))
    (n : Nat) (hi : (P.info? ty).map (·.size) = some n) (hvn : vs.length = n) (hn : (off + vs.length).ble cs.length = true) (h1 : vs.all (·.oneCell') = true)
    (hd : o.dst = none) (h : ∀ w', St w0 w' (l.set k (b, blit cs off vs)) → K a w') : if Region.wanted o (yielded ops a.tmps) = true then Oper.wp P o a w K Q else E := by
  rw [if_pos hw]
  have e : (execOp a.eval o).run P w = .ok .skip (w.setCells b off vs) := by
    unfold execOp
    rw [ho]
    simp [hx, hy, run_store_st (P := P) (hS.get k hk) off ty (.agg (List.toArray vs)) vs rfl (Nat.le_of_ble_eq_true hn) (hvn ▸ hi) h1]
  unfold Oper.wp
  rw [e]
  show K (a.put o.dst _) _
  rw [hd]
  exact h _ (hS.store k hk off vs)

theorem stp_call (hw : Region.wanted o (yielded ops a.tmps) = true) (f : FuncId) (ys : List Operand) (ts : Array TypeId) (ho : o.op = .call { callee := .value (.func f), args := List.toArray ys, argTypes := ts }) (eg : ∀ args w, (callFunc f args).run P w = .ok (.enter f args) w) (args : List Value) (hargs : ys.map a.eval = args)
    (d : Option Tmp) (hd : o.dst = d) (h : Calls P f (List.toArray args) w fun e w' => ∃ v, e = .returned v ∧ K (a.put d v) w') : if Region.wanted o (yielded ops a.tmps) = true then Oper.wp P o a w K Q else E := by
  rw [if_pos hw]
  have e : (execOp a.eval o).run P w = .ok (.enter f (List.toArray args)) w := by
    unfold execOp
    rw [ho]
    subst hargs
    simp [resolve, invoke, eg, go_sem]
  unfold Oper.wp
  rw [e]
  refine h.mono ?_
  rintro e w' ⟨v, rfl, hk⟩
  rw [← hd] at hk
  exact hk

theorem yif_moveI (hw : Region.wanted o (yielded ops a.tmps) = true) (x : Operand) (ho : o.op = .move x ∨ o.op = .assign x) (kk : IntKind) (ii : Int) (hx : a.eval x = .int kk ii) : YieldsIf P ops S o (.int kk ii) a :=
  .inl ⟨hw, fun w _ => by unfold execOp; rcases ho with ho | ho <;> (rw [ho]; simp [hx])⟩

theorem yif_moveA (hw : Region.wanted o (yielded ops a.tmps) = true) (x : Operand) (ho : o.op = .move x ∨ o.op = .assign x) (vs : List Value) (hx : a.eval x = .agg (List.toArray vs)) : YieldsIf P ops S o (.agg (List.toArray vs)) a :=
  .inl ⟨hw, fun w _ => by unfold execOp; rcases ho with ho | ho <;> (rw [ho]; simp [hx])⟩

theorem yif_moveT (hw : Region.wanted o (yielded ops a.tmps) = true) (x : Operand) (ho : o.op = .move x ∨ o.op = .assign x) (vs : List Value) (hx : a.eval x = .tuple (List.toArray vs)) : YieldsIf P ops S o (.tuple (List.toArray vs)) a :=
  .inl ⟨hw, fun w _ => by unfold execOp; rcases ho with ho | ho <;> (rw [ho]; simp [hx])⟩

theorem yif_moveB (hw : Region.wanted o (yielded ops a.tmps) = true) (x : Operand) (ho : o.op = .move x ∨ o.op = .assign x) (bb : Bool) (hx : a.eval x = .bool bb) : YieldsIf P ops S o (.bool bb) a :=
  .inl ⟨hw, fun w _ => by unfold execOp; rcases ho with ho | ho <;> (rw [ho]; simp [hx])⟩

theorem yif_moveP (hw : Region.wanted o (yielded ops a.tmps) = true) (x : Operand) (ho : o.op = .move x ∨ o.op = .assign x) (pp : Option Addr) (hx : a.eval x = .pointer pp) : YieldsIf P ops S o (.pointer pp) a :=
  .inl ⟨hw, fun w _ => by unfold execOp; rcases ho with ho | ho <;> (rw [ho]; simp [hx])⟩

theorem yif_mv (hw : Region.wanted o (yielded ops a.tmps) = true) (x : Operand) (ho : o.op = .move x) (v : Value) (hx : a.eval x = v) : YieldsIf P ops S o v a :=
  .inl ⟨hw, fun w _ => by unfold execOp; rw [ho]; simp [hx]⟩

theorem yif_load (hw : Region.wanted o (yielded ops a.tmps) = true) (ty : TypeId) (x : Operand) (ho : o.op = .load ty x) (b off : Nat) (hx : a.eval x = .pointer (some ⟨b, off, none⟩)) (cs : List Value) (hS : ∀ w, S w → BlkAt w b cs) (n : Nat) (hr : Row P ty n) (hn : (off + n).ble cs.length = true) (vs : List Value) (hvs : cutL cs off n = vs) : YieldsIf P ops S o (.agg vs.toArray) a := by
  obtain ⟨d, hu, hd, hi⟩ := hr
  subst hvs
  exact .inl ⟨hw, fun w h => by unfold execOp; rw [ho]; simp [hx, run_load_st (P := P) (hS w h) off ty n (Nat.le_of_ble_eq_true hn) d hu hd hi]⟩

theorem yif_load1 (hw : Region.wanted o (yielded ops a.tmps) = true) (ty : TypeId) (x : Operand) (ho : o.op = .load ty x) (b off : Nat) (hx : a.eval x = .pointer (some ⟨b, off, none⟩)) (cs : List Value) (hS : ∀ w, S w → BlkAt w b cs) (hr : One P ty) (v : Value) (hv : cs[off]? = some v) : YieldsIf P ops S o v a := by
  obtain ⟨d, hu, hd⟩ := hr
  exact .inl ⟨hw, fun w h => by unfold execOp; rw [ho]; simp [hx, run_load1_st (P := P) (hS w h) off ty v hv d hu hd]⟩

theorem yif_extract (hw : Region.wanted o (yielded ops a.tmps) = true) (x : Operand) (i : Nat) (ho : o.op = .extract x i) (vs : List Value) (hx : a.eval x = .tuple (List.toArray vs)) (v : Value) (hv : vs[i]? = some v) : YieldsIf P ops S o v a :=
  .inl ⟨hw, fun w _ => by
    unfold execOp
    rw [ho]
    dsimp only
    rw [hx]
    simp [Instr.extract, hv]⟩

theorem held_take {md : Region.Mode} {i : Nat} {oi : Oper} {v : Value} {fuel : Nat} {listed : Array Bool} (hi : ops[i]? = some oi)
    (hs : Region.noSelect ops = true) (hf : Region.free md ops listed i = true) (hr : (Region.ready md ops listed).contains i = true)
    (hQ : ∀ c a w, Q (.panic c) (a.put oi.dst v) w → Q (.panic c) a w) (hy : YieldsIf P ops S oi v a) (hS : S w) (d : Option Tmp) (hd : oi.dst = d) (a' : Act) (ha : a.put d v = a')
    (h : wpAnyH P md ops Q S fuel (listed.setIfInBounds i true) a' w) : wpAnyH P md ops Q S (fuel + 1) listed a w := by
  subst hd ha
  exact wpAnyH_take hi hs hf hr hQ hy hS h

theorem stp_val {v : Value} (hw : Region.wanted o (yielded ops a.tmps) = true) (hy : YieldsIf P ops (fun q => q = w) o v a) {d : Option Tmp} (hd : o.dst = d) (h : K (a.put d v) w) : if Region.wanted o (yielded ops a.tmps) = true then Oper.wp P o a w K Q else E := by
  rw [if_pos hw]
  rcases hy with ⟨_, hv⟩ | ⟨hn, _⟩
  · unfold Oper.wp
    rw [hv w rfl]
    subst hd
    exact h
  · rw [hn] at hw
    cases hw

theorem yif_by (hw : Region.wanted o (yielded ops a.tmps) = true) (v : Value) (h : ∀ w, (execOp a.eval o).run P w = .ok (.value v) w) : YieldsIf P ops S o v a := .inl ⟨hw, fun w _ => h w⟩

end

end Go.Proofs.Ytjicfonpldobdaa
