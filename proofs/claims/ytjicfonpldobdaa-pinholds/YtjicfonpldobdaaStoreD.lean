/-
  The walks of layer 6's makers of a memory: of words, and a new one.
-/
import Derived.Test.YtjicfonpldobdaaStoreC
namespace Go.Proofs.Ytjicfonpldobdaa
set_option maxRecDepth 100000
open Go.RowKit Go.Sort

/-- a config by its parts -/
theorem Cf_len (c : Um.Cf) : Um.clen (Um.rt c.t c.s c.k c.g c.q) c.t c.s c.k = (c.n : Nat) := c.n_eq.symm

theorem below_undrew {w w' : World} (h : Below w.drew.heap.size w.drew w') : Below w.heap.size w w' := ⟨h.os, h.tape, h.output, h.size, h.block⟩

theorem run_makeW (n : Nat) (hn : n ≤ 1000) (W : World) : (Instr.makeSlice 25 (.int .i64 (n : Int)) (.int .i64 (n : Int))).run Try.prog W = .ok (.slice (some ⟨W.heap.size, 0, none⟩) n n) (W.alloc (.cells (rowW (fun _ => 0) n).toArray 22)) := by
  obtain ⟨i0, hi, hz0, hz1, hz2⟩ := info_parts infoU
  have hr := run_make (P := Try.prog) W 25 22 i0 (.int .u64 0) Try.underlying25 hi hz0 .i64 .i64 n n (by omega) (Int.le_refl _) (by rw [hz2]; omega) (by omega)
  rw [hr, hz1]
  simp only [Int.toNat_natCast]
  rw [show madeCells (Value.int .u64 0).cells (n * 1) = (rowW (fun _ => 0) n).toArray from by rw [← made_zero]]

theorem words_len {W : World} {v : Value} {n : Nat} {ws : Nat → Nat} (h : IsWords W v n ws) : ∃ a cap, v = .slice a n cap := by
  rcases h with ⟨a, cap, rfl, rfl⟩ | ⟨b, off, cap, rfl, _⟩
  · exact ⟨_, _, rfl⟩
  · exact ⟨_, _, rfl⟩

theorem words_word {W : World} {v : Value} {n : Nat} {ws : Nat → Nat} (h : IsWords W v n ws) : ∀ j, j < n → Um.Word (ws j) := by
  rcases h with ⟨a, cap, rfl, rfl⟩ | ⟨b, off, cap, rfl, _, _, _, _, h⟩
  · intro j hj; omega
  · exact fun j hj => (h j hj).2

theorem blk_cell {W : World} {g : Nat} {cs : Array Value} {e : TypeId} {fr : Nat × Nat} (h : W.heap[g]? = some (.cells cs e fr)) (j : Nat) : W.cell? ⟨g, j, none⟩ = cs[j]? := by
  simp [World.cell?, h]

theorem mem_new {w : World} {C : Nat} {ws : Nat → Nat} (c : Um.Cf) (hg : w.heap[C]? = some (.cells (rowW ws c.n).toArray 22 (0, 0))) (h : c.r = true) (hw : ∀ j, j < c.n → Um.Word (ws j)) :
    MemAt (w.alloc (.cells #[.int .i64 c.t, .int .i64 c.s, .int .i64 c.k, .int .i64 c.g, .int .u64 c.q, .slice (some ⟨C, 0, none⟩) c.n c.n, .int .i64 0, .int .i64 0, .int .i64 0, .int .i64 0, .int .u64 0, .int .u64 0, .bool false] 109)) w.heap.size C c ⟨ws, 0, Um.noT⟩ := by
  have hC : C < w.heap.size := (Array.getElem?_eq_some_iff.1 hg).1
  have hn := heap_alloc_new w (.cells #[.int .i64 c.t, .int .i64 c.s, .int .i64 c.k, .int .i64 c.g, .int .u64 c.q, .slice (some ⟨C, 0, none⟩) c.n c.n, .int .i64 0, .int .i64 0, .int .i64 0, .int .i64 0, .int .u64 0, .int .u64 0, .bool false] 109)
  have hg' := (Below.heap_alloc w (.cells #[.int .i64 c.t, .int .i64 c.s, .int .i64 c.k, .int .i64 c.g, .int .u64 c.q, .slice (some ⟨C, 0, none⟩) c.n c.n, .int .i64 0, .int .i64 0, .int .i64 0, .int .i64 0, .int .u64 0, .int .u64 0, .bool false] 109) C hC).trans hg
  exact ⟨by simp, by simp; omega, by omega, h, blk_cell hn 0, blk_cell hn 1, blk_cell hn 2, blk_cell hn 3, blk_cell hn 4, blk_cell hn 5, blk_cell hn 6, blk_cell hn 7, blk_cell hn 8, blk_cell hn 9, blk_cell hn 10, blk_cell hn 11, blk_cell hn 12, row_frozen hn, row_frozen hg', fun j hj => row_cell hg' j hj, hw⟩

set_option maxHeartbeats 1000000 in
theorem sOf_wrong (c : Um.Cf) (v : Value) (w : World) (h : c.r = false) :
    Calls Try.prog 41 #[(.agg #[.int .i64 (c.t), .int .i64 (c.s), .int .i64 (c.k), .int .i64 (c.g), .int .u64 (c.q : Int)]), v] w fun e w' => e = .returned (.tuple #[.pointer none, .int .i64 1]) ∧ Below w.heap.size w w' := by
  have hR := cRight_any c.t c.s c.k c.g c.q
  rw [show Um.rt c.t c.s c.k c.g c.q = false from h] at hR
  clear h
  go_enter Try.func41, Try.ntmps41
  go_wp2_with fail
  refine (hR _).mono ?_
  rintro e w1 ⟨rfl, hb1⟩
  have hB1 : Below w.heap.size w w1 := ((Below.refl w.heap.size w).alloc (Nat.le_refl _) _).trans (hb1.mono (by simp))
  clear hb1
  go_wp2
  go_ret2
  exact ⟨rfl, hB1⟩

set_option maxHeartbeats 1000000 in
theorem sOf_few (c : Um.Cf) (a : Option Addr) (n cap : Nat) (w : World) (h : c.r = true) (hn : n ≠ c.n) :
    Calls Try.prog 41 #[(.agg #[.int .i64 (c.t), .int .i64 (c.s), .int .i64 (c.k), .int .i64 (c.g), .int .u64 (c.q : Int)]), .slice a n cap] w fun e w' => e = .returned (.tuple #[.pointer none, .int .i64 1]) ∧ Below w.heap.size w w' := by
  have hR := cRight_any c.t c.s c.k c.g c.q
  have hL := cLen_any c.t c.s c.k c.g c.q
  rw [Cf_len] at hL
  rw [show Um.rt c.t c.s c.k c.g c.q = true from h] at hR
  have hne : ((n : Int) == (c.n : Int)) = false := by simp; omega
  clear h hn
  generalize c.n = m at *
  go_enter Try.func41, Try.ntmps41
  go_wp2_with fail
  refine (hR _).mono ?_
  rintro e w1 ⟨rfl, hb1⟩
  have hB1 : Below w.heap.size w w1 := ((Below.refl w.heap.size w).alloc (Nat.le_refl _) _).trans (hb1.mono (by simp))
  obtain ⟨hc1, hf1⟩ := bcell hb1
  have hs1 : w.heap.size < w1.heap.size := by have := hb1.size; simp at this; omega
  clear hb1
  go_wp2_with fail
  refine (hL _).mono ?_
  rintro e w2 ⟨rfl, hb2⟩
  have hB2 := hB1.trans (hb2.mono hB1.size)
  clear hb2
  go_wp2
  go_ret2
  exact ⟨rfl, hB2⟩

set_option maxHeartbeats 2000000 in
theorem sOf_right (c : Um.Cf) (v : Value) (ws : Nat → Nat) (w : World) (h : c.r = true) (hv : IsWords w v c.n ws) :
    Calls Try.prog 41 #[(.agg #[.int .i64 (c.t), .int .i64 (c.s), .int .i64 (c.k), .int .i64 (c.g), .int .u64 (c.q : Int)]), v] w fun e w' => ∃ B C, e = .returned (.tuple #[.pointer (some ⟨B, 0, none⟩), .int .i64 0]) ∧ w.heap.size ≤ B ∧ w.heap.size ≤ C ∧ MemAt w' B C c ⟨ws, 0, Um.noT⟩ ∧ Below w.heap.size w w' := by
  have hR := cRight_any c.t c.s c.k c.g c.q
  have hL := cLen_any c.t c.s c.k c.g c.q
  rw [Cf_len] at hL
  rw [show Um.rt c.t c.s c.k c.g c.q = true from h] at hR
  have hp := Um.Cf.n_pos h
  have hn := c.n_le
  obtain ⟨a, cap, rfl⟩ := words_len hv
  have HV := hide hv
  have HR := hide h
  have hC : ∀ W, Below w.heap.size w W → Calls Try.prog 60 #[.slice a c.n cap] W fun e W' => e = .returned (.slice (some ⟨W.heap.size, 0, none⟩) c.n c.n) ∧ W'.heap[W.heap.size]? = some (.cells (rowW ws c.n).toArray 22 (0, 0)) ∧ Below W.heap.size W W' :=
    fun W hb => copied_any ((hv.low.below hb).is hb.size) (by omega) (by omega)
  clear h hv
  generalize hm : c.n = m at *
  have HM := hide hm
  clear hm
  go_enter Try.func41, Try.ntmps41
  go_wp2_with fail
  refine (hR _).mono ?_
  rintro e w1 ⟨rfl, hb1⟩
  have hB1 : Below w.heap.size w w1 := ((Below.refl w.heap.size w).alloc (Nat.le_refl _) _).trans (hb1.mono (by simp))
  obtain ⟨hc1, hf1⟩ := bcell hb1
  have hs1 : w.heap.size < w1.heap.size := by have := hb1.size; simp at this; omega
  have c0 : w1.cell? ⟨w.heap.size, 0, none⟩ = some (.int .i64 c.t) := by go_simp
  have c1 : w1.cell? ⟨w.heap.size, 1, none⟩ = some (.int .i64 c.s) := by go_simp
  have c2 : w1.cell? ⟨w.heap.size, 2, none⟩ = some (.int .i64 c.k) := by go_simp
  have c3 : w1.cell? ⟨w.heap.size, 3, none⟩ = some (.int .i64 c.g) := by go_simp
  have c4 : w1.cell? ⟨w.heap.size, 4, none⟩ = some (.int .u64 c.q) := by go_simp
  clear hb1 hc1 hf1 hR
  go_wp2_with fail
  refine (hL _).mono ?_
  rintro e w2 ⟨rfl, hb2⟩
  have hB2 := hB1.trans (hb2.mono hB1.size)
  have hs2 : w.heap.size < w2.heap.size := by have := hb2.size; omega
  have d0 := (hb2.cell (p := ⟨w.heap.size, 0, none⟩) hs1).trans c0
  have d1 := (hb2.cell (p := ⟨w.heap.size, 1, none⟩) hs1).trans c1
  have d2 := (hb2.cell (p := ⟨w.heap.size, 2, none⟩) hs1).trans c2
  have d3 := (hb2.cell (p := ⟨w.heap.size, 3, none⟩) hs1).trans c3
  have d4 := (hb2.cell (p := ⟨w.heap.size, 4, none⟩) hs1).trans c4
  clear hb2 hB1 hs1 c0 c1 c2 c3 c4 hL
  have HC := hide hC
  clear hC
  go_wp2_with fail
  go_region_with (go_at_call 60; refine ((unhide HC) _ (by first | exact hB2 | exact hB2.drew)).mono ?_; rintro e w3 ⟨rfl, hg3, hb3⟩; have HG3 := hide hg3; clear hg3; have e0 := (hb3.cell (p := ⟨w.heap.size, 0, none⟩) hs2).trans d0; have e1 := (hb3.cell (p := ⟨w.heap.size, 1, none⟩) hs2).trans d1; have e2 := (hb3.cell (p := ⟨w.heap.size, 2, none⟩) hs2).trans d2; have e3 := (hb3.cell (p := ⟨w.heap.size, 3, none⟩) hs2).trans d3; have e4 := (hb3.cell (p := ⟨w.heap.size, 4, none⟩) hs2).trans d4)
  all_goals
    have hB3 := hB2.trans ((below_undrew hb3).mono hB2.size)
    have hG3 : w3.heap[w2.heap.size]? = some (.cells (rowW ws m).toArray 22 (0, 0)) := unhide HG3
    have hz3 := hB2.size
    have HG := hide hG3
    clear hG3 HG3 hb3 e0 e1 e2 e3 e4 d0 d1 d2 d3 d4
    go_wp2
    go_ret2
    refine ⟨w3.heap.size, w2.heap.size, rfl, hB3.size, hz3, ?_, hB3.alloc hB3.size _⟩
    obtain rfl := unhide HM
    exact mem_new c (unhide HG) (unhide HR) (words_word (unhide HV))

end Go.Proofs.Ytjicfonpldobdaa
