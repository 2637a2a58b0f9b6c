/-
  The walk of the runs of cells.
-/
import Derived.Test.YtjicfonpldobdaaChartA
import Derived.LoopTactic
namespace Go.Proofs.Ytjicfonpldobdaa
set_option maxRecDepth 100000
open Go.RowKit Go.Sort

set_option maxHeartbeats 1000000 in
theorem cRuns_any (t s k g : Int) (q : Nat) (w : World) :
    Calls Try.prog 61 #[(.agg #[.int .i64 t, .int .i64 s, .int .i64 k, .int .i64 g, .int .u64 (q : Int)])] w fun e w' => ∃ v, e = .returned v ∧ IsRuns (Um.rt t s k g q) t s k v ∧ Below w.heap.size w w' := by
  have hR := cRight_any t s k g q
  generalize Um.rt t s k g q = r at *
  have hz : w.heap.size < w.heap.size + 2 := by omega
  cases r
  · go_enter Try.func61, Try.ntmps61
    go_wp2_with fail
    refine (hR _).mono ?_
    rintro e w1 ⟨rfl, hb1⟩
    obtain ⟨hc1, hf1⟩ := bcell hb1
    have hB1 : Below w.heap.size w w1 := (((Below.refl w.heap.size w).alloc (Nat.le_refl _) _).alloc (by simp) _).trans (hb1.mono (by simp; omega))
    have hz1 : w.heap.size + 1 < w1.heap.size := by have := hb1.size; simp at this; omega
    have c0 : w1.cell? ⟨w.heap.size + 1, 0, none⟩ = some (.int .i64 0) := by go_simp
    have f0 : w1.frozen? ⟨w.heap.size + 1, 0, none⟩ = false := by go_simp
    have c1 : w1.cell? ⟨w.heap.size + 1, 1, none⟩ = some (.int .i64 0) := by go_simp
    have f1 : w1.frozen? ⟨w.heap.size + 1, 1, none⟩ = false := by go_simp
    have c2 : w1.cell? ⟨w.heap.size + 1, 2, none⟩ = some (.int .i64 0) := by go_simp
    have f2 : w1.frozen? ⟨w.heap.size + 1, 2, none⟩ = false := by go_simp
    have c3 : w1.cell? ⟨w.heap.size + 1, 3, none⟩ = some (.int .i64 0) := by go_simp
    have f3 : w1.frozen? ⟨w.heap.size + 1, 3, none⟩ = false := by go_simp
    have c4 : w1.cell? ⟨w.heap.size + 1, 4, none⟩ = some (.int .i64 0) := by go_simp
    have f4 : w1.frozen? ⟨w.heap.size + 1, 4, none⟩ = false := by go_simp
    have c5 : w1.cell? ⟨w.heap.size + 1, 5, none⟩ = some (.int .i64 0) := by go_simp
    have f5 : w1.frozen? ⟨w.heap.size + 1, 5, none⟩ = false := by go_simp
    have c6 : w1.cell? ⟨w.heap.size + 1, 6, none⟩ = some (.int .i64 0) := by go_simp
    have f6 : w1.frozen? ⟨w.heap.size + 1, 6, none⟩ = false := by go_simp
    have c7 : w1.cell? ⟨w.heap.size + 1, 7, none⟩ = some (.int .i64 0) := by go_simp
    have f7 : w1.frozen? ⟨w.heap.size + 1, 7, none⟩ = false := by go_simp
    have c8 : w1.cell? ⟨w.heap.size + 1, 8, none⟩ = some (.int .i64 0) := by go_simp
    have f8 : w1.frozen? ⟨w.heap.size + 1, 8, none⟩ = false := by go_simp
    have c9 : w1.cell? ⟨w.heap.size + 1, 9, none⟩ = some (.int .i64 0) := by go_simp
    have f9 : w1.frozen? ⟨w.heap.size + 1, 9, none⟩ = false := by go_simp
    have c10 : w1.cell? ⟨w.heap.size + 1, 10, none⟩ = some (.int .i64 0) := by go_simp
    have f10 : w1.frozen? ⟨w.heap.size + 1, 10, none⟩ = false := by go_simp
    have c11 : w1.cell? ⟨w.heap.size + 1, 11, none⟩ = some (.int .i64 0) := by go_simp
    have f11 : w1.frozen? ⟨w.heap.size + 1, 11, none⟩ = false := by go_simp
    have c12 : w1.cell? ⟨w.heap.size + 1, 12, none⟩ = some (.int .i64 0) := by go_simp
    have f12 : w1.frozen? ⟨w.heap.size + 1, 12, none⟩ = false := by go_simp
    have c13 : w1.cell? ⟨w.heap.size + 1, 13, none⟩ = some (.int .i64 0) := by go_simp
    have f13 : w1.frozen? ⟨w.heap.size + 1, 13, none⟩ = false := by go_simp
    have c14 : w1.cell? ⟨w.heap.size + 1, 14, none⟩ = some (.int .i64 0) := by go_simp
    have f14 : w1.frozen? ⟨w.heap.size + 1, 14, none⟩ = false := by go_simp
    clear hb1 hc1 hf1 hz
    go_wp2
    generalize hW : World.setCell _ _ _ = W
    have k0 : W.cell? ⟨w.heap.size + 1, 0, none⟩ = some (.int .i64 0) := by subst hW; go_simp
    have k1 : W.cell? ⟨w.heap.size + 1, 1, none⟩ = some (.int .i64 0) := by subst hW; go_simp
    have k2 : W.cell? ⟨w.heap.size + 1, 2, none⟩ = some (.int .i64 0) := by subst hW; go_simp
    have k3 : W.cell? ⟨w.heap.size + 1, 3, none⟩ = some (.int .i64 0) := by subst hW; go_simp
    have k4 : W.cell? ⟨w.heap.size + 1, 4, none⟩ = some (.int .i64 0) := by subst hW; go_simp
    have k5 : W.cell? ⟨w.heap.size + 1, 5, none⟩ = some (.int .i64 0) := by subst hW; go_simp
    have k6 : W.cell? ⟨w.heap.size + 1, 6, none⟩ = some (.int .i64 0) := by subst hW; go_simp
    have k7 : W.cell? ⟨w.heap.size + 1, 7, none⟩ = some (.int .i64 0) := by subst hW; go_simp
    have k8 : W.cell? ⟨w.heap.size + 1, 8, none⟩ = some (.int .i64 0) := by subst hW; go_simp
    have k9 : W.cell? ⟨w.heap.size + 1, 9, none⟩ = some (.int .i64 0) := by subst hW; go_simp
    have k10 : W.cell? ⟨w.heap.size + 1, 10, none⟩ = some (.int .i64 0) := by subst hW; go_simp
    have k11 : W.cell? ⟨w.heap.size + 1, 11, none⟩ = some (.int .i64 0) := by subst hW; go_simp
    have k12 : W.cell? ⟨w.heap.size + 1, 12, none⟩ = some (.int .i64 0) := by subst hW; go_simp
    have k13 : W.cell? ⟨w.heap.size + 1, 13, none⟩ = some (.int .i64 0) := by subst hW; go_simp
    have k14 : W.cell? ⟨w.heap.size + 1, 14, none⟩ = some (.int .i64 0) := by subst hW; go_simp
    refine bodyPost_ret (v := .agg #[.int .i64 0, .int .i64 0, .int .i64 0, .int .i64 0, .int .i64 0, .int .i64 0, .int .i64 0, .int .i64 0, .int .i64 0, .int .i64 0, .int .i64 0, .int .i64 0, .int .i64 0, .int .i64 0, .int .i64 0]) (by simp [results, Try.results61, go_sem, k0, k1, k2, k3, k4, k5, k6, k7, k8, k9, k10, k11, k12, k13, k14]) rfl ⟨_, rfl, isRuns_no _ _ _, ?_⟩
    subst hW
    iterate 15 (refine Below.setCell ?_ (by simp) _)
    exact hB1
  · go_enter Try.func61, Try.ntmps61
    go_wp2_with fail
    refine (hR _).mono ?_
    rintro e w1 ⟨rfl, hb1⟩
    obtain ⟨hc1, hf1⟩ := bcell hb1
    have hB1 : Below w.heap.size w w1 := (((Below.refl w.heap.size w).alloc (Nat.le_refl _) _).alloc (by simp) _).trans (hb1.mono (by simp; omega))
    have hz1 : w.heap.size + 1 < w1.heap.size := by have := hb1.size; simp at this; omega
    have d0 : w1.cell? ⟨w.heap.size, 0, none⟩ = some (.int .i64 t) := by go_simp
    have d1 : w1.cell? ⟨w.heap.size, 1, none⟩ = some (.int .i64 s) := by go_simp
    have d2 : w1.cell? ⟨w.heap.size, 2, none⟩ = some (.int .i64 k) := by go_simp
    have c0 : w1.cell? ⟨w.heap.size + 1, 0, none⟩ = some (.int .i64 0) := by go_simp
    have f0 : w1.frozen? ⟨w.heap.size + 1, 0, none⟩ = false := by go_simp
    have c1 : w1.cell? ⟨w.heap.size + 1, 1, none⟩ = some (.int .i64 0) := by go_simp
    have f1 : w1.frozen? ⟨w.heap.size + 1, 1, none⟩ = false := by go_simp
    have c2 : w1.cell? ⟨w.heap.size + 1, 2, none⟩ = some (.int .i64 0) := by go_simp
    have f2 : w1.frozen? ⟨w.heap.size + 1, 2, none⟩ = false := by go_simp
    have c3 : w1.cell? ⟨w.heap.size + 1, 3, none⟩ = some (.int .i64 0) := by go_simp
    have f3 : w1.frozen? ⟨w.heap.size + 1, 3, none⟩ = false := by go_simp
    have c4 : w1.cell? ⟨w.heap.size + 1, 4, none⟩ = some (.int .i64 0) := by go_simp
    have f4 : w1.frozen? ⟨w.heap.size + 1, 4, none⟩ = false := by go_simp
    have c5 : w1.cell? ⟨w.heap.size + 1, 5, none⟩ = some (.int .i64 0) := by go_simp
    have f5 : w1.frozen? ⟨w.heap.size + 1, 5, none⟩ = false := by go_simp
    have c6 : w1.cell? ⟨w.heap.size + 1, 6, none⟩ = some (.int .i64 0) := by go_simp
    have f6 : w1.frozen? ⟨w.heap.size + 1, 6, none⟩ = false := by go_simp
    have c7 : w1.cell? ⟨w.heap.size + 1, 7, none⟩ = some (.int .i64 0) := by go_simp
    have f7 : w1.frozen? ⟨w.heap.size + 1, 7, none⟩ = false := by go_simp
    have c8 : w1.cell? ⟨w.heap.size + 1, 8, none⟩ = some (.int .i64 0) := by go_simp
    have f8 : w1.frozen? ⟨w.heap.size + 1, 8, none⟩ = false := by go_simp
    have c9 : w1.cell? ⟨w.heap.size + 1, 9, none⟩ = some (.int .i64 0) := by go_simp
    have f9 : w1.frozen? ⟨w.heap.size + 1, 9, none⟩ = false := by go_simp
    have c10 : w1.cell? ⟨w.heap.size + 1, 10, none⟩ = some (.int .i64 0) := by go_simp
    have f10 : w1.frozen? ⟨w.heap.size + 1, 10, none⟩ = false := by go_simp
    have c11 : w1.cell? ⟨w.heap.size + 1, 11, none⟩ = some (.int .i64 0) := by go_simp
    have f11 : w1.frozen? ⟨w.heap.size + 1, 11, none⟩ = false := by go_simp
    have c12 : w1.cell? ⟨w.heap.size + 1, 12, none⟩ = some (.int .i64 0) := by go_simp
    have f12 : w1.frozen? ⟨w.heap.size + 1, 12, none⟩ = false := by go_simp
    have c13 : w1.cell? ⟨w.heap.size + 1, 13, none⟩ = some (.int .i64 0) := by go_simp
    have f13 : w1.frozen? ⟨w.heap.size + 1, 13, none⟩ = false := by go_simp
    have c14 : w1.cell? ⟨w.heap.size + 1, 14, none⟩ = some (.int .i64 0) := by go_simp
    have f14 : w1.frozen? ⟨w.heap.size + 1, 14, none⟩ = false := by go_simp
    clear hb1 hc1 hf1 hz
    go_wp2
    generalize hW : World.setCell _ _ _ = W
    have k0 : W.cell? ⟨w.heap.size + 1, 0, none⟩ = some (.int .i64 1) := by subst hW; go_simp
    have k1 : W.cell? ⟨w.heap.size + 1, 1, none⟩ = some (.int .i64 1) := by subst hW; go_simp
    have k2 : W.cell? ⟨w.heap.size + 1, 2, none⟩ = some (.int .i64 1) := by subst hW; go_simp
    have k3 : W.cell? ⟨w.heap.size + 1, 3, none⟩ = some (.int .i64 1) := by subst hW; go_simp
    have k4 : W.cell? ⟨w.heap.size + 1, 4, none⟩ = some (.int .i64 1) := by subst hW; go_simp
    have k5 : W.cell? ⟨w.heap.size + 1, 5, none⟩ = some (.int .i64 2) := by subst hW; go_simp
    have k6 : W.cell? ⟨w.heap.size + 1, 6, none⟩ = some (.int .i64 t) := by subst hW; go_simp
    have k7 : W.cell? ⟨w.heap.size + 1, 7, none⟩ = some (.int .i64 1) := by subst hW; go_simp
    have k8 : W.cell? ⟨w.heap.size + 1, 8, none⟩ = some (.int .i64 3) := by subst hW; go_simp
    have k9 : W.cell? ⟨w.heap.size + 1, 9, none⟩ = some (.int .i64 s) := by subst hW; go_simp
    have k10 : W.cell? ⟨w.heap.size + 1, 10, none⟩ = some (.int .i64 4) := by subst hW; go_simp
    have k11 : W.cell? ⟨w.heap.size + 1, 11, none⟩ = some (.int .i64 4) := by subst hW; go_simp
    have k12 : W.cell? ⟨w.heap.size + 1, 12, none⟩ = some (.int .i64 k) := by subst hW; go_simp
    have k13 : W.cell? ⟨w.heap.size + 1, 13, none⟩ = some (.int .i64 1) := by subst hW; go_simp
    have k14 : W.cell? ⟨w.heap.size + 1, 14, none⟩ = some (.int .i64 8) := by subst hW; go_simp
    refine bodyPost_ret (v := .agg #[.int .i64 1, .int .i64 1, .int .i64 1, .int .i64 1, .int .i64 1, .int .i64 2, .int .i64 t, .int .i64 1, .int .i64 3, .int .i64 s, .int .i64 4, .int .i64 4, .int .i64 k, .int .i64 1, .int .i64 8]) (by simp [results, Try.results61, go_sem, k0, k1, k2, k3, k4, k5, k6, k7, k8, k9, k10, k11, k12, k13, k14]) rfl ⟨_, rfl, isRuns_yes _ _ _, ?_⟩
    subst hW
    iterate 15 (refine Below.setCell ?_ (by simp) _)
    exact hB1

end Go.Proofs.Ytjicfonpldobdaa
