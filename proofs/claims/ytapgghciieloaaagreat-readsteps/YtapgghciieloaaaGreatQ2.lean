/-
  Texts that the laws stand on, merged (ChartR, ChartB, Own, StoreMath, StoreA, OpenWords, OpenPlay, OpenHelp, StoreB).
-/
import Derived.Test.YtapgghciieloaaaGreatQ1
import Derived.Deep.AppendLies
import Derived.Deep.Slices
import Derived.Laws.CopyOwn
import Derived.LoopTactic
import Derived.OpenShut
import Derived.OwnWalk
import Derived.ProofKit
import Derived.ShutString
import Derived.SizedLaws
import Derived.WalkKit

namespace Go.Proofs.YtapgghciieloaaaGreat
section
set_option maxRecDepth 100000
open Go.RowKit Go.Sort
set_option maxHeartbeats 1000000 in
theorem cRuns_any (t s k g : Int) (q : Nat) (w : World) :
    Calls Tryz.prog 76 #[(.agg #[.int .i64 t, .int .i64 s, .int .i64 k, .int .i64 g, .int .u64 (q : Int)])] w fun e w' => ∃ v, e = .returned v ∧ IsRuns (Um.rt t s k g q) t s k v ∧ Below w.heap.size w w' := by
  have hR := cRight_any t s k g q
  generalize Um.rt t s k g q = r at *
  have hz : w.heap.size < w.heap.size + 2 := by omega
  cases r
  · go_enter Tryz.func76, Tryz.ntmps76
    go_wp2_with fail
    refine (hR _).mono ?_
    rintro e w1 ⟨rfl, hb1⟩
    obtain ⟨hc1, hf1⟩ := bcell hb1
    have hB1 : Below w.heap.size w w1 := (((Below.refl w.heap.size w).alloc (Nat.le_refl _) _).alloc (by simp) _).trans (hb1.mono (by simp; omega))
    have hz1 : w.heap.size + 1 < w1.heap.size := by have := hb1.size; simp at this; omega
    have c0 : w1.cell? ⟨w.heap.size + 1, 0, none⟩ = some (.int .i64 0) := by go_simp
    have f0 : w1.frozen? ⟨w.heap.size + 1, 0, none⟩ = false := by go_simp
    have c1 : w1.cell? ⟨w.heap.size + 1, 1, none⟩ = some (.int .i64 0) := by go_simp
    have f1 : w1.frozen? ⟨w.heap.size + 1, 1, none⟩ = false := by go_simp
    have c2 : w1.cell? ⟨w.heap.size + 1, 2, none⟩ = some (.int .i64 0) := by go_simp
    have f2 : w1.frozen? ⟨w.heap.size + 1, 2, none⟩ = false := by go_simp
    have c3 : w1.cell? ⟨w.heap.size + 1, 3, none⟩ = some (.int .i64 0) := by go_simp
    have f3 : w1.frozen? ⟨w.heap.size + 1, 3, none⟩ = false := by go_simp
    have c4 : w1.cell? ⟨w.heap.size + 1, 4, none⟩ = some (.int .i64 0) := by go_simp
    have f4 : w1.frozen? ⟨w.heap.size + 1, 4, none⟩ = false := by go_simp
    have c5 : w1.cell? ⟨w.heap.size + 1, 5, none⟩ = some (.int .i64 0) := by go_simp
    have f5 : w1.frozen? ⟨w.heap.size + 1, 5, none⟩ = false := by go_simp
    have c6 : w1.cell? ⟨w.heap.size + 1, 6, none⟩ = some (.int .i64 0) := by go_simp
    have f6 : w1.frozen? ⟨w.heap.size + 1, 6, none⟩ = false := by go_simp
    have c7 : w1.cell? ⟨w.heap.size + 1, 7, none⟩ = some (.int .i64 0) := by go_simp
    have f7 : w1.frozen? ⟨w.heap.size + 1, 7, none⟩ = false := by go_simp
    have c8 : w1.cell? ⟨w.heap.size + 1, 8, none⟩ = some (.int .i64 0) := by go_simp
    have f8 : w1.frozen? ⟨w.heap.size + 1, 8, none⟩ = false := by go_simp
    have c9 : w1.cell? ⟨w.heap.size + 1, 9, none⟩ = some (.int .i64 0) := by go_simp
    have f9 : w1.frozen? ⟨w.heap.size + 1, 9, none⟩ = false := by go_simp
    have c10 : w1.cell? ⟨w.heap.size + 1, 10, none⟩ = some (.int .i64 0) := by go_simp
    have f10 : w1.frozen? ⟨w.heap.size + 1, 10, none⟩ = false := by go_simp
    have c11 : w1.cell? ⟨w.heap.size + 1, 11, none⟩ = some (.int .i64 0) := by go_simp
    have f11 : w1.frozen? ⟨w.heap.size + 1, 11, none⟩ = false := by go_simp
    have c12 : w1.cell? ⟨w.heap.size + 1, 12, none⟩ = some (.int .i64 0) := by go_simp
    have f12 : w1.frozen? ⟨w.heap.size + 1, 12, none⟩ = false := by go_simp
    have c13 : w1.cell? ⟨w.heap.size + 1, 13, none⟩ = some (.int .i64 0) := by go_simp
    have f13 : w1.frozen? ⟨w.heap.size + 1, 13, none⟩ = false := by go_simp
    have c14 : w1.cell? ⟨w.heap.size + 1, 14, none⟩ = some (.int .i64 0) := by go_simp
    have f14 : w1.frozen? ⟨w.heap.size + 1, 14, none⟩ = false := by go_simp
    clear hb1 hc1 hf1 hz
    go_wp2
    generalize hW : World.setCell _ _ _ = W
    have k0 : W.cell? ⟨w.heap.size + 1, 0, none⟩ = some (.int .i64 0) := by subst hW; go_simp
    have k1 : W.cell? ⟨w.heap.size + 1, 1, none⟩ = some (.int .i64 0) := by subst hW; go_simp
    have k2 : W.cell? ⟨w.heap.size + 1, 2, none⟩ = some (.int .i64 0) := by subst hW; go_simp
    have k3 : W.cell? ⟨w.heap.size + 1, 3, none⟩ = some (.int .i64 0) := by subst hW; go_simp
    have k4 : W.cell? ⟨w.heap.size + 1, 4, none⟩ = some (.int .i64 0) := by subst hW; go_simp
    have k5 : W.cell? ⟨w.heap.size + 1, 5, none⟩ = some (.int .i64 0) := by subst hW; go_simp
    have k6 : W.cell? ⟨w.heap.size + 1, 6, none⟩ = some (.int .i64 0) := by subst hW; go_simp
    have k7 : W.cell? ⟨w.heap.size + 1, 7, none⟩ = some (.int .i64 0) := by subst hW; go_simp
    have k8 : W.cell? ⟨w.heap.size + 1, 8, none⟩ = some (.int .i64 0) := by subst hW; go_simp
    have k9 : W.cell? ⟨w.heap.size + 1, 9, none⟩ = some (.int .i64 0) := by subst hW; go_simp
    have k10 : W.cell? ⟨w.heap.size + 1, 10, none⟩ = some (.int .i64 0) := by subst hW; go_simp
    have k11 : W.cell? ⟨w.heap.size + 1, 11, none⟩ = some (.int .i64 0) := by subst hW; go_simp
    have k12 : W.cell? ⟨w.heap.size + 1, 12, none⟩ = some (.int .i64 0) := by subst hW; go_simp
    have k13 : W.cell? ⟨w.heap.size + 1, 13, none⟩ = some (.int .i64 0) := by subst hW; go_simp
    have k14 : W.cell? ⟨w.heap.size + 1, 14, none⟩ = some (.int .i64 0) := by subst hW; go_simp
    refine bodyPost_ret (v := .agg #[.int .i64 0, .int .i64 0, .int .i64 0, .int .i64 0, .int .i64 0, .int .i64 0, .int .i64 0, .int .i64 0, .int .i64 0, .int .i64 0, .int .i64 0, .int .i64 0, .int .i64 0, .int .i64 0, .int .i64 0]) (by simp [results, Tryz.results76, go_sem, k0, k1, k2, k3, k4, k5, k6, k7, k8, k9, k10, k11, k12, k13, k14]) rfl ⟨_, rfl, isRuns_no _ _ _, ?_⟩
    subst hW
    iterate 15 (refine Below.setCell ?_ (by simp) _)
    exact hB1
  · go_enter Tryz.func76, Tryz.ntmps76
    go_wp2_with fail
    refine (hR _).mono ?_
    rintro e w1 ⟨rfl, hb1⟩
    obtain ⟨hc1, hf1⟩ := bcell hb1
    have hB1 : Below w.heap.size w w1 := (((Below.refl w.heap.size w).alloc (Nat.le_refl _) _).alloc (by simp) _).trans (hb1.mono (by simp; omega))
    have hz1 : w.heap.size + 1 < w1.heap.size := by have := hb1.size; simp at this; omega
    have d0 : w1.cell? ⟨w.heap.size, 0, none⟩ = some (.int .i64 t) := by go_simp
    have d1 : w1.cell? ⟨w.heap.size, 1, none⟩ = some (.int .i64 s) := by go_simp
    have d2 : w1.cell? ⟨w.heap.size, 2, none⟩ = some (.int .i64 k) := by go_simp
    have c0 : w1.cell? ⟨w.heap.size + 1, 0, none⟩ = some (.int .i64 0) := by go_simp
    have f0 : w1.frozen? ⟨w.heap.size + 1, 0, none⟩ = false := by go_simp
    have c1 : w1.cell? ⟨w.heap.size + 1, 1, none⟩ = some (.int .i64 0) := by go_simp
    have f1 : w1.frozen? ⟨w.heap.size + 1, 1, none⟩ = false := by go_simp
    have c2 : w1.cell? ⟨w.heap.size + 1, 2, none⟩ = some (.int .i64 0) := by go_simp
    have f2 : w1.frozen? ⟨w.heap.size + 1, 2, none⟩ = false := by go_simp
    have c3 : w1.cell? ⟨w.heap.size + 1, 3, none⟩ = some (.int .i64 0) := by go_simp
    have f3 : w1.frozen? ⟨w.heap.size + 1, 3, none⟩ = false := by go_simp
    have c4 : w1.cell? ⟨w.heap.size + 1, 4, none⟩ = some (.int .i64 0) := by go_simp
    have f4 : w1.frozen? ⟨w.heap.size + 1, 4, none⟩ = false := by go_simp
    have c5 : w1.cell? ⟨w.heap.size + 1, 5, none⟩ = some (.int .i64 0) := by go_simp
    have f5 : w1.frozen? ⟨w.heap.size + 1, 5, none⟩ = false := by go_simp
    have c6 : w1.cell? ⟨w.heap.size + 1, 6, none⟩ = some (.int .i64 0) := by go_simp
    have f6 : w1.frozen? ⟨w.heap.size + 1, 6, none⟩ = false := by go_simp
    have c7 : w1.cell? ⟨w.heap.size + 1, 7, none⟩ = some (.int .i64 0) := by go_simp
    have f7 : w1.frozen? ⟨w.heap.size + 1, 7, none⟩ = false := by go_simp
    have c8 : w1.cell? ⟨w.heap.size + 1, 8, none⟩ = some (.int .i64 0) := by go_simp
    have f8 : w1.frozen? ⟨w.heap.size + 1, 8, none⟩ = false := by go_simp
    have c9 : w1.cell? ⟨w.heap.size + 1, 9, none⟩ = some (.int .i64 0) := by go_simp
    have f9 : w1.frozen? ⟨w.heap.size + 1, 9, none⟩ = false := by go_simp
    have c10 : w1.cell? ⟨w.heap.size + 1, 10, none⟩ = some (.int .i64 0) := by go_simp
    have f10 : w1.frozen? ⟨w.heap.size + 1, 10, none⟩ = false := by go_simp
    have c11 : w1.cell? ⟨w.heap.size + 1, 11, none⟩ = some (.int .i64 0) := by go_simp
    have f11 : w1.frozen? ⟨w.heap.size + 1, 11, none⟩ = false := by go_simp
    have c12 : w1.cell? ⟨w.heap.size + 1, 12, none⟩ = some (.int .i64 0) := by go_simp
    have f12 : w1.frozen? ⟨w.heap.size + 1, 12, none⟩ = false := by go_simp
    have c13 : w1.cell? ⟨w.heap.size + 1, 13, none⟩ = some (.int .i64 0) := by go_simp
    have f13 : w1.frozen? ⟨w.heap.size + 1, 13, none⟩ = false := by go_simp
    have c14 : w1.cell? ⟨w.heap.size + 1, 14, none⟩ = some (.int .i64 0) := by go_simp
    have f14 : w1.frozen? ⟨w.heap.size + 1, 14, none⟩ = false := by go_simp
    clear hb1 hc1 hf1 hz
    go_wp2
    generalize hW : World.setCell _ _ _ = W
    have k0 : W.cell? ⟨w.heap.size + 1, 0, none⟩ = some (.int .i64 1) := by subst hW; go_simp
    have k1 : W.cell? ⟨w.heap.size + 1, 1, none⟩ = some (.int .i64 1) := by subst hW; go_simp
    have k2 : W.cell? ⟨w.heap.size + 1, 2, none⟩ = some (.int .i64 1) := by subst hW; go_simp
    have k3 : W.cell? ⟨w.heap.size + 1, 3, none⟩ = some (.int .i64 1) := by subst hW; go_simp
    have k4 : W.cell? ⟨w.heap.size + 1, 4, none⟩ = some (.int .i64 1) := by subst hW; go_simp
    have k5 : W.cell? ⟨w.heap.size + 1, 5, none⟩ = some (.int .i64 2) := by subst hW; go_simp
    have k6 : W.cell? ⟨w.heap.size + 1, 6, none⟩ = some (.int .i64 t) := by subst hW; go_simp
    have k7 : W.cell? ⟨w.heap.size + 1, 7, none⟩ = some (.int .i64 1) := by subst hW; go_simp
    have k8 : W.cell? ⟨w.heap.size + 1, 8, none⟩ = some (.int .i64 3) := by subst hW; go_simp
    have k9 : W.cell? ⟨w.heap.size + 1, 9, none⟩ = some (.int .i64 s) := by subst hW; go_simp
    have k10 : W.cell? ⟨w.heap.size + 1, 10, none⟩ = some (.int .i64 4) := by subst hW; go_simp
    have k11 : W.cell? ⟨w.heap.size + 1, 11, none⟩ = some (.int .i64 4) := by subst hW; go_simp
    have k12 : W.cell? ⟨w.heap.size + 1, 12, none⟩ = some (.int .i64 k) := by subst hW; go_simp
    have k13 : W.cell? ⟨w.heap.size + 1, 13, none⟩ = some (.int .i64 1) := by subst hW; go_simp
    have k14 : W.cell? ⟨w.heap.size + 1, 14, none⟩ = some (.int .i64 8) := by subst hW; go_simp
    refine bodyPost_ret (v := .agg #[.int .i64 1, .int .i64 1, .int .i64 1, .int .i64 1, .int .i64 1, .int .i64 2, .int .i64 t, .int .i64 1, .int .i64 3, .int .i64 s, .int .i64 4, .int .i64 4, .int .i64 k, .int .i64 1, .int .i64 8]) (by simp [results, Tryz.results76, go_sem, k0, k1, k2, k3, k4, k5, k6, k7, k8, k9, k10, k11, k12, k13, k14]) rfl ⟨_, rfl, isRuns_yes _ _ _, ?_⟩
    subst hW
    iterate 15 (refine Below.setCell ?_ (by simp) _)
    exact hB1
end
section
set_option maxRecDepth 100000
open Go.RowKit Go.Sort
set_option maxHeartbeats 2000000 in
theorem cLen_any (t s k g : Int) (q : Nat) (w : World) :
    Calls Tryz.prog 71 #[(.agg #[.int .i64 t, .int .i64 s, .int .i64 k, .int .i64 g, .int .u64 (q : Int)])] w fun e w' => e = .returned (.int .i64 (Um.clen (Um.rt t s k g q) t s k)) ∧ Below w.heap.size w w' := by
  have hR := cRuns_any t s k g q
  have hb := Um.rt_rb t s k g q
  generalize Um.rt t s k g q = r at *
  go_enter Tryz.func71, Tryz.ntmps71
  go_wp2_with fail
  refine (hR _).mono ?_
  rintro e w1 ⟨v, rfl, hv, hb1⟩
  have hB1 : Below w.heap.size w w1 := (((Below.refl w.heap.size w).alloc (Nat.le_refl _) _)).trans (hb1.mono (by simp))
  clear hb1 hR
  have HV := hide hv
  have HB := hide hb
  clear hv hb
  go_wp2_with fail
  go_loopw [3, 8] (fun n i wr => ∃ j : Nat, j ≤ 5 ∧ n = .int .i64 (Um.offN r t s k j) ∧ i = .int .i64 j ∧ Below w.heap.size w wr) (fun _ i _ => 5 - (intOf i).toNat)
  case atStart => exact ⟨0, by omega, by rw [Um.off_zero], rfl, hB1⟩
  case round =>
    clear hB1
    rename_i wr
    obtain ⟨j, hj, rfl, rfl, hB⟩ := hrel
    by_cases hlt : j < 5
    · have hi := (unhide HV) j hlt
      have hs := hide (Um.off_succ r t s k hlt)
      have hl := Um.ln_bd (unhide HB) j
      have ho := Um.off_bd (unhide HB) j
      have hL := hide (Um.ln_eq r t s k hlt)
      generalize Um.offN r t s k j = off at *
      generalize Um.lnN r t s k j = len at *
      generalize Um.thN r t s k j = th at *
      generalize Um.kiN r j = ki at *
      generalize Um.fiN r j = fi at *
      obtain ⟨hl0, hl1⟩ := hl
      obtain ⟨ho0, ho1⟩ := ho
      go_wp2_with fail
      refine (cLenOf_any _ _ _ len _ (unhide hL) hl0 hl1).mono ?_
      rintro e w2 ⟨rfl, hb2⟩
      have hB2 : Below w.heap.size w w2 := by
        refine Below.trans ?_ (hb2.mono ?_)
        · repeat first | exact hB | refine Below.alloc ?_ (by have := hB.size; first | omega | (simp; omega)) _ | refine Below.setCell ?_ (by have := hB.size; simp; omega) _
        · have := hB.size; simp; omega
      clear hb2
      go_wp2
      refine ⟨⟨j + 1, by omega, by rw [← unhide hs], by go_num, hB2⟩, by simp [intOf]; omega⟩
    · obtain rfl : j = 5 := by omega
      rw [Um.off_five]
      go_wp2
      go_ret
      exact ⟨rfl, hB⟩
set_option maxHeartbeats 2000000 in
theorem cAt_any (t s k g : Int) (q : Nat) (x : Int) (w : World) (hx : x ≤ 9223372036854775807) :
    Calls Tryz.prog 36 #[(.agg #[.int .i64 t, .int .i64 s, .int .i64 k, .int .i64 g, .int .u64 (q : Int)]), .int .i64 x] w fun e w' => e = .returned (.agg #[.int .i64 (Um.atK (Um.rt t s k g q) t s k x), .int .i64 (Um.atO (Um.rt t s k g q) t s k x)]) ∧ Below w.heap.size w w' := by
  have hR := cRuns_any t s k g q
  have hb := Um.rt_rb t s k g q
  generalize Um.rt t s k g q = r at *
  by_cases hneg : x < 0
  · rw [(Um.at_neg hneg).1, (Um.at_neg hneg).2]
    go_enter Tryz.func36, Tryz.ntmps36
    go_wp2
    refine bodyPost_ret (v := (.agg #[.int .i64 0, .int .i64 0])) (by simp [results, Tryz.results36, go_sem]) rfl ⟨rfl, ?_⟩
    repeat first | exact Below.refl _ _ | refine Below.setCell ?_ (by simp) _ | refine Below.alloc ?_ (by simp) _
  · have hz : w.heap.size < w.heap.size + 2 := by omega
    go_enter Tryz.func36, Tryz.ntmps36
    go_wp2_with fail
    refine (hR _).mono ?_
    rintro e w1 ⟨v, rfl, hv, hb1⟩
    obtain ⟨hc1, hf1⟩ := bcell hb1
    have hB1 : Below w.heap.size w w1 := (((Below.refl w.heap.size w).alloc (Nat.le_refl _) _).alloc (by simp) _).trans (hb1.mono (by simp; omega))
    have hz1 : w.heap.size + 1 < w1.heap.size := by have := hb1.size; simp at this; omega
    have c0 : w1.cell? ⟨w.heap.size + 1, 0, none⟩ = some (.int .i64 0) := by go_simp
    have f0 : w1.frozen? ⟨w.heap.size + 1, 0, none⟩ = false := by go_simp
    have c1 : w1.cell? ⟨w.heap.size + 1, 1, none⟩ = some (.int .i64 0) := by go_simp
    have f1 : w1.frozen? ⟨w.heap.size + 1, 1, none⟩ = false := by go_simp
    clear hb1 hR hc1 hf1 hz
    have HV := hide hv
    have HB := hide hb
    clear hv hb
    go_wp2_with fail
    go_loopw [1, 12] (fun n i wr => ∃ j : Nat, j ≤ 5 ∧ Um.offN r t s k j ≤ x ∧ n = .int .i64 (x - Um.offN r t s k j) ∧ i = .int .i64 j ∧ Below w.heap.size w wr ∧ w.heap.size + 1 < wr.heap.size ∧
      wr.cell? ⟨w.heap.size + 1, 0, none⟩ = some (.int .i64 0) ∧ wr.cell? ⟨w.heap.size + 1, 1, none⟩ = some (.int .i64 0) ∧ wr.frozen? ⟨w.heap.size + 1, 0, none⟩ = false ∧ wr.frozen? ⟨w.heap.size + 1, 1, none⟩ = false) (fun _ i _ => 5 - (intOf i).toNat)
    case atStart => exact ⟨0, by omega, by rw [Um.off_zero]; omega, by rw [Um.off_zero, Int.sub_zero], rfl, hB1, hz1, c0, c1, f0, f1⟩
    case round =>
      clear hB1 hz1 c0 c1 f0 f1
      rename_i wr
      obtain ⟨j, hj, hxo, rfl, rfl, hB, hz1, c0, c1, f0, f1⟩ := hrel
      by_cases hlt : j < 5
      · have hi := (unhide HV) j hlt
        have hs := Um.off_succ r t s k hlt
        have hl := Um.ln_bd (unhide HB) j
        have ho := Um.off_bd (unhide HB) j
        have hL := hide (Um.ln_eq r t s k hlt)
        by_cases hin : x - Um.offN r t s k j < Um.lnN r t s k j
        · have hki := Um.ki_pos (r := r) (t := t) (s := s) (k := k) (j := j) (by omega)
          have hK := hide (Um.at_run (unhide HB) hlt hxo hin)
          have hfb := Um.fi_bd r hlt
          have hkb := Um.ki_bd r j
          clear hs
          generalize Um.lnN r t s k j = len at *
          generalize Um.thN r t s k j = th at *
          generalize Um.offN r t s k j = off at *
          generalize Um.kiN r j = ki at *
          generalize Um.fiN r j = fi at *
          obtain ⟨hl0, hl1⟩ := hl
          obtain ⟨ho0, ho1⟩ := ho
          obtain ⟨hfb0, hfb1⟩ := hfb
          obtain ⟨hkb0, hkb1⟩ := hkb
          go_wp2_with fail
          refine (cLenOf_any _ _ _ len _ (unhide hL) hl0 hl1).mono ?_
          rintro e w2 ⟨rfl, hb2⟩
          obtain ⟨hc2, hf2⟩ := bcell hb2
          have hzz : w.heap.size + 1 < wr.heap.size + 1 := by omega
          have d0 : w2.cell? ⟨w.heap.size + 1, 0, none⟩ = some (.int .i64 0) := by go_simp
          have e0 : w2.frozen? ⟨w.heap.size + 1, 0, none⟩ = false := by go_simp
          have d1 : w2.cell? ⟨w.heap.size + 1, 1, none⟩ = some (.int .i64 0) := by go_simp
          have e1 : w2.frozen? ⟨w.heap.size + 1, 1, none⟩ = false := by go_simp
          have r0 : w2.cell? ⟨wr.heap.size, 0, none⟩ = some (.int .i64 th) := by go_simp
          have r1 : w2.cell? ⟨wr.heap.size, 1, none⟩ = some (.int .i64 ki) := by go_simp
          have r2 : w2.cell? ⟨wr.heap.size, 2, none⟩ = some (.int .i64 fi) := by go_simp
          have hB2 : Below w.heap.size w w2 := by
            refine Below.trans ?_ (hb2.mono ?_)
            · repeat first | exact hB | refine Below.alloc ?_ (by have := hB.size; first | omega | (simp; omega)) _ | refine Below.setCell ?_ (by have := hB.size; simp; omega) _
            · have := hB.size; simp; omega
          have hm0 : 0 ≤ (x - off) % ki := Int.emod_nonneg _ (by omega)
          have hm1 : (x - off) % ki < ki := Int.emod_lt_of_pos _ (by omega)
          go_wp2_with fail
          go_region
          all_goals
            go_wp2
            obtain ⟨hk0, hk1⟩ := unhide hK
            rw [hk0, hk1]
            generalize hW : World.setCell _ _ _ = W
            have k0 : W.cell? ⟨w.heap.size + 1, 0, none⟩ = some (.int .i64 (Um.atK r t s k x)) := by subst hW; go_simp
            have k1 : W.cell? ⟨w.heap.size + 1, 1, none⟩ = some (.int .i64 (Um.atO r t s k x)) := by subst hW; go_simp
            refine bodyPost_ret (v := (.agg #[.int .i64 (Um.atK r t s k x), .int .i64 (Um.atO r t s k x)])) (by simp [results, Tryz.results36, go_sem, k0, k1]) rfl ⟨rfl, ?_⟩
            subst hW
            exact ((hB2.setCell (by simp) _).setCell (by simp) _).drew
        · clear HV
          generalize Um.lnN r t s k j = len at *
          generalize Um.thN r t s k j = th at *
          generalize Um.offN r t s k j = off at *
          generalize hoff : Um.offN r t s k (j + 1) = off' at *
          generalize Um.kiN r j = ki at *
          generalize Um.fiN r j = fi at *
          have HO := hide hoff
          have HS := hide hs
          clear hoff hs
          obtain ⟨hl0, hl1⟩ := hl
          obtain ⟨ho0, ho1⟩ := ho
          go_wp2_with fail
          refine (cLenOf_any _ _ _ len _ (unhide hL) hl0 hl1).mono ?_
          rintro e w2 ⟨rfl, hb2⟩
          obtain ⟨hc2, hf2⟩ := bcell hb2
          have hzz : w.heap.size + 1 < wr.heap.size + 1 := by omega
          have hz2 : wr.heap.size < w2.heap.size := by have := hb2.size; simp at this; omega
          have d0 : w2.cell? ⟨w.heap.size + 1, 0, none⟩ = some (.int .i64 0) := by go_simp
          have e0 : w2.frozen? ⟨w.heap.size + 1, 0, none⟩ = false := by go_simp
          have d1 : w2.cell? ⟨w.heap.size + 1, 1, none⟩ = some (.int .i64 0) := by go_simp
          have e1 : w2.frozen? ⟨w.heap.size + 1, 1, none⟩ = false := by go_simp
          have r0 : w2.cell? ⟨wr.heap.size, 0, none⟩ = some (.int .i64 th) := by go_simp
          have r1 : w2.cell? ⟨wr.heap.size, 1, none⟩ = some (.int .i64 ki) := by go_simp
          have r2 : w2.cell? ⟨wr.heap.size, 2, none⟩ = some (.int .i64 fi) := by go_simp
          have hB2 : Below w.heap.size w w2 := by
            refine Below.trans ?_ (hb2.mono ?_)
            · repeat first | exact hB | refine Below.alloc ?_ (by have := hB.size; first | omega | (simp; omega)) _ | refine Below.setCell ?_ (by have := hB.size; simp; omega) _
            · have := hB.size; simp; omega
          clear hc2 hf2 hb2
          go_wp2_with fail
          refine (cLenOf_any _ _ _ len _ (unhide hL) hl0 hl1).mono ?_
          rintro e w3 ⟨rfl, hb3⟩
          have hB3 : Below w.heap.size w w3 := hB2.trans (hb3.mono hB2.size)
          have d0' := (hb3.cell (p := ⟨w.heap.size + 1, 0, none⟩) (show w.heap.size + 1 < w2.heap.size by omega)).trans d0
          have d1' := (hb3.cell (p := ⟨w.heap.size + 1, 1, none⟩) (show w.heap.size + 1 < w2.heap.size by omega)).trans d1
          have e0' := (hb3.frozen (p := ⟨w.heap.size + 1, 0, none⟩) (show w.heap.size + 1 < w2.heap.size by omega)).trans e0
          have e1' := (hb3.frozen (p := ⟨w.heap.size + 1, 1, none⟩) (show w.heap.size + 1 < w2.heap.size by omega)).trans e1
          have hz3 : w.heap.size + 1 < w3.heap.size := by have := hb3.size; omega
          clear hb3
          go_wp2
          have hs := unhide HS
          refine ⟨⟨j + 1, by omega, by rw [unhide HO]; omega, by rw [unhide HO, ← hs, Int.sub_sub], by go_num, hB3, hz3, d0', d1', e0', e1'⟩, by simp [intOf]; omega⟩
      · obtain rfl : j = 5 := by omega
        rw [Um.off_five] at hxo
        obtain ⟨hk0, hk1⟩ := Um.at_out (unhide HB) hxo
        have K0 := hide hk0
        have K1 := hide hk1
        clear hk0 hk1
        go_wp2
        refine bodyPost_ret (v := (.agg #[.int .i64 0, .int .i64 0])) (by simp [results, Tryz.results36, go_sem, c0, c1]) rfl ⟨by rw [unhide K0, unhide K1], ?_⟩
        repeat first | exact hB | refine Below.setCell ?_ (by simp) _
theorem wraps (o b a f : Int) : wrap64 (wrap64 (wrap64 (o + wrap64 b) + a) - f) = Um.wr (o + b + a - f) := by
  unfold wrap64 Um.wr
  omega
set_option maxHeartbeats 2000000 in
theorem cPlace_any (t s k g : Int) (q : Nat) (a b : Int) (w : World) :
    Calls Tryz.prog 110 #[(.agg #[.int .i64 t, .int .i64 s, .int .i64 k, .int .i64 g, .int .u64 (q : Int)]), (.agg #[.int .i64 a, .int .i64 b])] w fun e w' => e = .returned (.int .i64 (Um.plc (Um.rt t s k g q) t s a b)) ∧ Below w.heap.size w w' := by
  have hR := cRuns_any t s k g q
  have hb := Um.rt_rb t s k g q
  generalize Um.rt t s k g q = r at *
  have hz : w.heap.size < w.heap.size + 2 := by omega
  go_enter Tryz.func110, Tryz.ntmps110
  go_wp2_with fail
  refine (hR _).mono ?_
  rintro e w1 ⟨v, rfl, hv, hb1⟩
  obtain ⟨hc1, hf1⟩ := bcell hb1
  have hB1 : Below w.heap.size w w1 := (((Below.refl w.heap.size w).alloc (Nat.le_refl _) _).alloc (by simp) _).trans (hb1.mono (by simp; omega))
  have hz1 : w.heap.size + 1 < w1.heap.size := by have := hb1.size; simp at this; omega
  have c0 : w1.cell? ⟨w.heap.size + 1, 0, none⟩ = some (.int .i64 a) := by go_simp
  have c1 : w1.cell? ⟨w.heap.size + 1, 1, none⟩ = some (.int .i64 b) := by go_simp
  clear hb1 hR hc1 hf1 hz
  have HV := hide hv
  have HB := hide hb
  clear hv hb
  go_wp2_with fail
  go_loopw [5, 10] (fun n i wr => ∃ j : Nat, j ≤ 5 ∧ Hid (∀ i, i < j → ¬ (Um.fiN r i ≤ a ∧ a ≤ Um.fiN r i + Um.kiN r i - 1)) ∧ n = .int .i64 (Um.offN r t s k j) ∧ i = .int .i64 j ∧ Below w.heap.size w wr ∧ w.heap.size + 1 < wr.heap.size ∧
    wr.cell? ⟨w.heap.size + 1, 0, none⟩ = some (.int .i64 a) ∧ wr.cell? ⟨w.heap.size + 1, 1, none⟩ = some (.int .i64 b)) (fun _ i _ => 5 - (intOf i).toNat)
  case atStart => exact ⟨0, by omega, fun i hi => absurd hi (Nat.not_lt_zero i), by rw [Um.off_zero], rfl, hB1, hz1, c0, c1⟩
  case round =>
    clear hB1 hz1 c0 c1
    rename_i wr
    obtain ⟨j, hj, hmiss, rfl, rfl, hB, hz1, c0, c1⟩ := hrel
    by_cases hlt : j < 5
    · have hi := (unhide HV) j hlt
      have hs := hide (Um.off_succ r t s k hlt)
      have hl := Um.ln_bd (unhide HB) j
      have ho := Um.off_bd (unhide HB) j
      have hL := hide (Um.ln_eq r t s k hlt)
      have hfb := Um.fi_bd r hlt
      have hkb := Um.ki_bd r j
      obtain ⟨hl0, hl1⟩ := hl
      obtain ⟨ho0, ho1⟩ := ho
      obtain ⟨hfb0, hfb1⟩ := hfb
      obtain ⟨hkb0, hkb1⟩ := hkb
      have hzz : w.heap.size + 1 < wr.heap.size + 1 := by omega
      by_cases hin : Um.fiN r j ≤ a ∧ a ≤ Um.fiN r j + Um.kiN r j - 1
      · have hP := hide (Um.plc_hit (t := t) (s := s) (k := k) (b := b) hlt hin.1 hin.2)
        have hW := cWithin_any a (Um.fiN r j) (Um.fiN r j + Um.kiN r j - 1)
        rw [show decide (Um.fiN r j ≤ a ∧ a ≤ Um.fiN r j + Um.kiN r j - 1) = true from decide_eq_true hin] at hW
        clear hin
        generalize Um.lnN r t s k j = len at *
        generalize Um.thN r t s k j = th at *
        generalize Um.offN r t s k j = off at *
        generalize Um.kiN r j = ki at *
        generalize Um.fiN r j = fi at *
        go_wp2_with fail
        refine (hW _).mono ?_
        rintro e w2 ⟨rfl, rfl⟩
        go_wp2
        go_ret
        refine ⟨ret_i64 ?_, ?_⟩
        · rw [← unhide hP, ← wraps]
        · repeat first | exact hB | refine Below.setCell ?_ (by have := hB.size; simp; omega) _ | refine Below.alloc ?_ (by have := hB.size; first | omega | (simp; omega)) _
      · have hmiss' : Hid (∀ i, i < j + 1 → ¬ (Um.fiN r i ≤ a ∧ a ≤ Um.fiN r i + Um.kiN r i - 1)) := by
          intro i hi'
          by_cases e : i = j
          · subst e; exact hin
          · exact (unhide hmiss) i (by omega)
        have hW := cWithin_any a (Um.fiN r j) (Um.fiN r j + Um.kiN r j - 1)
        rw [show decide (Um.fiN r j ≤ a ∧ a ≤ Um.fiN r j + Um.kiN r j - 1) = false from decide_eq_false hin] at hW
        clear hin hmiss
        generalize Um.lnN r t s k j = len at *
        generalize Um.thN r t s k j = th at *
        generalize Um.offN r t s k j = off at *
        generalize Um.kiN r j = ki at *
        generalize Um.fiN r j = fi at *
        go_wp2_with fail
        refine (hW _).mono ?_
        rintro e w2 ⟨rfl, rfl⟩
        go_wp2_with fail
        refine (cLenOf_any _ _ _ len _ (unhide hL) hl0 hl1).mono ?_
        rintro e w3 ⟨rfl, hb3⟩
        obtain ⟨hc3, hf3⟩ := bcell hb3
        have hz3 : w.heap.size + 1 < w3.heap.size := by have := hb3.size; simp at this; omega
        have d0 : w3.cell? ⟨w.heap.size + 1, 0, none⟩ = some (.int .i64 a) := by go_simp
        have d1 : w3.cell? ⟨w.heap.size + 1, 1, none⟩ = some (.int .i64 b) := by go_simp
        have hB3 : Below w.heap.size w w3 := by
          refine Below.trans ?_ (hb3.mono ?_)
          · repeat first | exact hB | refine Below.alloc ?_ (by have := hB.size; first | omega | (simp; omega)) _ | refine Below.setCell ?_ (by have := hB.size; simp; omega) _
          · have := hB.size; simp; omega
        clear hc3 hf3 hb3
        go_wp2
        refine ⟨⟨j + 1, by omega, hmiss', by rw [← unhide hs], by go_num, hB3, hz3, d0, d1⟩, by simp [intOf]; omega⟩
    · obtain rfl : j = 5 := by omega
      have hP := hide (Um.plc_miss (t := t) (s := s) (b := b) (unhide hmiss))
      clear hmiss
      go_wp2
      go_ret
      exact ⟨ret_i64 (unhide hP).symm, hB⟩
set_option maxHeartbeats 2000000 in
theorem cCell_any (t s k g : Int) (q : Nat) (a b : Int) (w : World) (hb0 : -9223372036854775808 ≤ b) (hb1 : b ≤ 9223372036854775807) :
    Calls Tryz.prog 98 #[(.agg #[.int .i64 t, .int .i64 s, .int .i64 k, .int .i64 g, .int .u64 (q : Int)]), (.agg #[.int .i64 a, .int .i64 b])] w fun e w' => e = .returned (.int .i64 (Um.cellN (Um.rt t s k g q) t s k a b)) ∧ Below w.heap.size w w' := by
  have hR := cPlace_any t s k g q a b
  have hA := fun x => cAt_any t s k g q x
  have hp := Um.plc_cell (a := a) (Um.rt_rb t s k g q) hb0 hb1
  have hpb : Um.plc (Um.rt t s k g q) t s a b ≤ 9223372036854775807 := by
    simp only [Um.plc, Um.wr]
    (repeat' split) <;> omega
  generalize Um.rt t s k g q = r at *
  generalize Um.plc r t s a b = p at *
  have hAp := fun w => hA p w hpb
  clear hA
  have hn : ∀ w, (binOp .neq 67 (.agg #[.int .i64 (Um.atK r t s k p), .int .i64 (Um.atO r t s k p)]) (.agg #[.int .i64 a, .int .i64 b])).run Tryz.prog w = .ok (.bool (!decide (Um.atK r t s k p = a ∧ Um.atO r t s k p = b))) w := neqSpot _ (Or.inl rfl) rfl
  have hP := hide hp
  clear hp hpb hb0 hb1
  have hz : w.heap.size < w.heap.size + 2 := by omega
  by_cases heq : Um.atK r t s k p = a ∧ Um.atO r t s k p = b
  · rw [decide_eq_true heq] at hn
    rw [← (unhide hP).1 heq]
    clear hP heq
    generalize Um.atK r t s k p = u at *
    generalize Um.atO r t s k p = v at *
    go_enter Tryz.func98, Tryz.ntmps98
    go_wp2_with fail
    refine (hR _).mono ?_
    rintro e w1 ⟨rfl, hb1⟩
    obtain ⟨hc1, hf1⟩ := bcell hb1
    have hB1 : Below w.heap.size w w1 := (((Below.refl w.heap.size w).alloc (Nat.le_refl _) _).alloc (by simp) _).trans (hb1.mono (by simp; omega))
    have k0 : ∀ d os, (grow (redrawn w1 d) os).cell? ⟨w.heap.size, 0, none⟩ = some (.int .i64 t) := fun d os => cell_regrown (by go_simp) d os
    have k1 : ∀ d os, (grow (redrawn w1 d) os).cell? ⟨w.heap.size, 1, none⟩ = some (.int .i64 s) := fun d os => cell_regrown (by go_simp) d os
    have k2 : ∀ d os, (grow (redrawn w1 d) os).cell? ⟨w.heap.size, 2, none⟩ = some (.int .i64 k) := fun d os => cell_regrown (by go_simp) d os
    have k3 : ∀ d os, (grow (redrawn w1 d) os).cell? ⟨w.heap.size, 3, none⟩ = some (.int .i64 g) := fun d os => cell_regrown (by go_simp) d os
    have k4 : ∀ d os, (grow (redrawn w1 d) os).cell? ⟨w.heap.size, 4, none⟩ = some (.int .u64 q) := fun d os => cell_regrown (by go_simp) d os
    have k5 : ∀ d os, (grow (redrawn w1 d) os).cell? ⟨w.heap.size + 1, 0, none⟩ = some (.int .i64 a) := fun d os => cell_regrown (by go_simp) d os
    have k6 : ∀ d os, (grow (redrawn w1 d) os).cell? ⟨w.heap.size + 1, 1, none⟩ = some (.int .i64 b) := fun d os => cell_regrown (by go_simp) d os
    clear hb1 hc1 hf1 hz hR
    go_wp2_with fail
    refine wp_region_quiet_below (by kernel_rfl) (by kernel_rfl) ?_
    repeat (go_big_quiet_step (first
      | (go_at_call 36; exact Calls.regrown_of (hAp _))))
    refine wpQuiet_nil ?_
    intro _ hw'
    obtain ⟨⟨dq, osq⟩, hw''⟩ := hw'
    subst hw''
    go_wp2
    go_ret
    exact ⟨rfl, hB1.trans ((below_regrown w1 dq osq).mono hB1.size)⟩
  · rw [decide_eq_false heq] at hn
    rw [(unhide hP).2 heq]
    clear hP heq
    generalize Um.atK r t s k p = u at *
    generalize Um.atO r t s k p = v at *
    go_enter Tryz.func98, Tryz.ntmps98
    go_wp2_with fail
    refine (hR _).mono ?_
    rintro e w1 ⟨rfl, hb1⟩
    obtain ⟨hc1, hf1⟩ := bcell hb1
    have hB1 : Below w.heap.size w w1 := (((Below.refl w.heap.size w).alloc (Nat.le_refl _) _).alloc (by simp) _).trans (hb1.mono (by simp; omega))
    have k0 : ∀ d os, (grow (redrawn w1 d) os).cell? ⟨w.heap.size, 0, none⟩ = some (.int .i64 t) := fun d os => cell_regrown (by go_simp) d os
    have k1 : ∀ d os, (grow (redrawn w1 d) os).cell? ⟨w.heap.size, 1, none⟩ = some (.int .i64 s) := fun d os => cell_regrown (by go_simp) d os
    have k2 : ∀ d os, (grow (redrawn w1 d) os).cell? ⟨w.heap.size, 2, none⟩ = some (.int .i64 k) := fun d os => cell_regrown (by go_simp) d os
    have k3 : ∀ d os, (grow (redrawn w1 d) os).cell? ⟨w.heap.size, 3, none⟩ = some (.int .i64 g) := fun d os => cell_regrown (by go_simp) d os
    have k4 : ∀ d os, (grow (redrawn w1 d) os).cell? ⟨w.heap.size, 4, none⟩ = some (.int .u64 q) := fun d os => cell_regrown (by go_simp) d os
    have k5 : ∀ d os, (grow (redrawn w1 d) os).cell? ⟨w.heap.size + 1, 0, none⟩ = some (.int .i64 a) := fun d os => cell_regrown (by go_simp) d os
    have k6 : ∀ d os, (grow (redrawn w1 d) os).cell? ⟨w.heap.size + 1, 1, none⟩ = some (.int .i64 b) := fun d os => cell_regrown (by go_simp) d os
    clear hb1 hc1 hf1 hz hR
    go_wp2_with fail
    refine wp_region_quiet_below (by kernel_rfl) (by kernel_rfl) ?_
    repeat (go_big_quiet_step (first
      | (go_at_call 36; exact Calls.regrown_of (hAp _))))
    refine wpQuiet_nil ?_
    intro _ hw'
    obtain ⟨⟨dq, osq⟩, hw''⟩ := hw'
    subst hw''
    go_wp2
    go_ret
    exact ⟨rfl, hB1.trans ((below_regrown w1 dq osq).mono hB1.size)⟩
end
section
set_option maxRecDepth 100000
open Go.RowKit
theorem own_base {W : World} {base base' : Nat} {e : TypeId} {size : Nat} {v : Value} {k : Nat} {xs : List Value} (h : W.ownsRow base e size v k xs) (hb : base' ≤ base) : W.ownsRow base' e size v k xs := by
  refine ⟨h.1, ?_⟩
  rcases h.2 with h | ⟨g, cap, cur, rfl, hg, h1, h2, h3, h4, h5⟩
  · exact .inl h
  · exact .inr ⟨g, cap, cur, rfl, by omega, h1, h2, h3, h4, h5⟩
theorem own_append {W w1 : World} {n₀ base : Nat} {e : TypeId} {size : Nat} {v : Value} {k : Nat} {xs : List Value} {tmp : Obj}
    (hrow : W.ownsRow base e size v k xs) (hb : n₀ ≤ base) (hbs : n₀ ≤ W.heap.size) (hgrow : (W.alloc tmp).grownBy w1 v.ownBlock) : Below n₀ W w1 := by
  refine ((Below.refl n₀ W).alloc hbs tmp).grown hgrow (by simp; omega) fun j ej => ?_
  rcases hrow.2 with ⟨rfl, _⟩ | ⟨g, cap, cur, rfl, hg, _, _⟩
  · simp [Value.ownBlock] at ej
  · obtain rfl : g = j := by simpa [Value.ownBlock] using ej
    omega
end
end Go.Proofs.YtapgghciieloaaaGreat
namespace Um
set_option maxRecDepth 100000
structure Cf where
  t : Int
  s : Int
  k : Int
  g : Int
  q : Nat
structure Tch where
  kind : Int
  a : Int
  b : Int
  old : Nat
  new : Nat
  done : Bool
structure Mm where
  ws : Nat → Nat
  cnt : Int
  l : Tch
def Cf.r (c : Cf) : Bool := rt c.t c.s c.k c.g c.q
def Cf.n (c : Cf) : Nat := (clen c.r c.t c.s c.k).toNat
def Cf.cl (c : Cf) (a b : Int) : Int := cellN c.r c.t c.s c.k a b
def addW (x y : Nat) : Nat := (x + y) % 18446744073709551616
def nextI (x : Int) : Int := (x + 1 + 9223372036854775808) % 18446744073709551616 - 9223372036854775808
def trn (kind : Int) (old v x : Nat) : Nat := if kind = 2 then v else if kind = 3 then (if x = old then v else x) else if kind = 4 then addW x v else x
def trd (kind : Int) (old x : Nat) : Bool := if kind = 3 then x == old else true
def putW (ws : Nat → Nat) (j v : Nat) : Nat → Nat := fun i => if i = j then v else ws i
def noT : Tch := ⟨0, 0, 0, 0, 0, false⟩
def mhit (m : Mm) (p : Nat) (kind a b : Int) (old v : Nat) : Mm :=
  ⟨putW m.ws p (trn kind old v (m.ws p)), nextI m.cnt, ⟨kind, a, b, m.ws p, trn kind old v (m.ws p), trd kind old (m.ws p)⟩⟩
def mmiss (m : Mm) (kind a b : Int) : Mm := ⟨m.ws, nextI m.cnt, ⟨kind, a, b, 0, 0, false⟩⟩
def mtouch (c : Cf) (m : Mm) (kind a b : Int) (old v : Nat) : Mm :=
  if 0 ≤ c.cl a b then mhit m (c.cl a b).toNat kind a b old v else mmiss m kind a b
theorem word_addW (x y : Nat) : Word (addW x y) := Nat.mod_lt _ (by decide)
theorem word_trn {kind : Int} {old v x : Nat} (hv : Word v) (hx : Word x) : Word (trn kind old v x) := by
  unfold trn
  (repeat' split) <;> first | exact hv | exact hx | exact word_addW _ _
theorem Cf.rb (c : Cf) : Rb c.r c.t c.s c.k := rt_rb _ _ _ _ _
theorem Cf.n_eq {c : Cf} : ((c.n : Nat) : Int) = clen c.r c.t c.s c.k := by
  have := (clen_bd c.rb).1
  unfold Cf.n
  omega
theorem Cf.n_le (c : Cf) : c.n ≤ 66 := by
  have := (clen_bd c.rb).2
  have := c.n_eq
  omega
theorem Cf.n_pos {c : Cf} (h : c.r = true) : 8 ≤ c.n := by
  have h1 := c.rb h
  have h2 := c.n_eq
  rw [h] at h2
  simp [clen] at h2
  omega
theorem Cf.cl_lt {c : Cf} {a b : Int} (h : 0 ≤ c.cl a b) : (c.cl a b).toNat < c.n := by
  have h1 := (cell_at c.rb h).1
  have h2 := c.n_eq
  unfold Cf.cl at *
  omega
theorem Cf.cl_ge (c : Cf) (a b : Int) : -1 ≤ c.cl a b := (cell_bd c.rb a b).1
theorem putW_same (ws : Nat → Nat) (j v : Nat) : putW ws j v j = v := by simp [putW]
theorem putW_other {ws : Nat → Nat} {i j v : Nat} (h : i ≠ j) : putW ws j v i = ws i := by simp [putW, h]
theorem putW_id {ws : Nat → Nat} {j v : Nat} (h : v = ws j) : putW ws j v = ws := by
  funext i
  by_cases e : i = j
  · subst e; rw [putW_same, h]
  · exact putW_other e
theorem word_putW {ws : Nat → Nat} {n j v : Nat} (h : ∀ i, i < n → Word (ws i)) (hv : Word v) : ∀ i, i < n → Word (putW ws j v i) := by
  intro i hi
  by_cases e : i = j
  · subst e; rw [putW_same]; exact hv
  · rw [putW_other e]; exact h i hi
theorem word_touch {c : Cf} {m : Mm} {kind a b : Int} {old v : Nat} (h : ∀ i, i < c.n → Word (m.ws i)) (hv : Word v) : ∀ i, i < c.n → Word ((mtouch c m kind a b old v).ws i) := by
  unfold mtouch
  split
  · rename_i hp
    exact word_putW h (word_trn hv (h _ (Cf.cl_lt hp)))
  · exact h
end Um
namespace Go.Proofs.YtapgghciieloaaaGreat
section
set_option maxRecDepth 100000
open Go.RowKit Go.Sort
structure Off (B C : Nat) (w w' : World) : Prop where
  os : w'.os = w.os
  tape : w'.tape = w.tape
  output : w'.output = w.output
  size : w.heap.size ≤ w'.heap.size
  block : ∀ k, k < w.heap.size → k ≠ B → k ≠ C → w'.heap[k]? = w.heap[k]?
theorem Off.refl (B C : Nat) (w : World) : Off B C w w := ⟨rfl, rfl, rfl, Nat.le_refl _, fun _ _ _ _ => rfl⟩
theorem Off.trans {B C : Nat} {a b c : World} (h : Off B C a b) (k : Off B C b c) : Off B C a c :=
  ⟨k.os.trans h.os, k.tape.trans h.tape, k.output.trans h.output, Nat.le_trans h.size k.size, fun i hi h1 h2 => (k.block i (Nat.lt_of_lt_of_le hi h.size) h1 h2).trans (h.block i hi h1 h2)⟩
theorem Off.of_below {B C : Nat} {w w' : World} (h : Below w.heap.size w w') : Off B C w w' := ⟨h.os, h.tape, h.output, h.size, fun k hk _ _ => h.block k hk⟩
theorem Off.then {B C : Nat} {a w w' : World} (h : Off B C a w) (k : Below w.heap.size w w') : Off B C a w' := h.trans (Off.of_below k)
theorem Off.alloc {B C : Nat} {a w : World} (h : Off B C a w) (o : Obj) : Off B C a (w.alloc o) := h.then ((Below.refl _ _).alloc (Nat.le_refl _) o)
theorem Off.drew {B C : Nat} {a w : World} (h : Off B C a w) : Off B C a w.drew := ⟨h.os, h.tape, h.output, h.size, h.block⟩
theorem Off.set {B C : Nat} {a w : World} (h : Off B C a w) {p : Addr} (hp : p.block = B ∨ p.block = C ∨ a.heap.size ≤ p.block) (u : Value) : Off B C a (w.setCell p u) :=
  ⟨h.os, h.tape, h.output, by simpa [World.setCell] using h.size, fun k hk h1 h2 => (Below.heap_setCell _ _ _ _ (by rcases hp with e | e | e <;> omega)).trans (h.block k hk h1 h2)⟩
theorem Off.below {B C n₀ : Nat} {w w' : World} (h : Off B C w w') (h0 : n₀ ≤ w.heap.size) (h1 : n₀ ≤ B) (h2 : n₀ ≤ C) : Below n₀ w w' :=
  ⟨h.os, h.tape, h.output, h.size, fun k hk => h.block k (by omega) (by omega) (by omega)⟩
theorem Off.cell {B C : Nat} {w w' : World} (h : Off B C w w') {p : Addr} (h0 : p.block < w.heap.size) (h1 : p.block ≠ B) (h2 : p.block ≠ C) : w'.cell? p = w.cell? p := World.cell?_of_block (w := w) (h.block p.block h0 h1 h2)
theorem Off.frozen {B C : Nat} {w w' : World} (h : Off B C w w') {p : Addr} (h0 : p.block < w.heap.size) (h1 : p.block ≠ B) (h2 : p.block ≠ C) : w'.frozen? p = w.frozen? p := World.frozen?_of_block (w := w) (h.block p.block h0 h1 h2)
structure MemAt (W : World) (B C : Nat) (c : Um.Cf) (m : Um.Mm) : Prop where
  hB : B < W.heap.size
  hC : C < W.heap.size
  ne : B ≠ C
  rt : c.r = true
  cf0 : W.cell? ⟨B, 0, none⟩ = some (.int .i64 c.t)
  cf1 : W.cell? ⟨B, 1, none⟩ = some (.int .i64 c.s)
  cf2 : W.cell? ⟨B, 2, none⟩ = some (.int .i64 c.k)
  cf3 : W.cell? ⟨B, 3, none⟩ = some (.int .i64 c.g)
  cf4 : W.cell? ⟨B, 4, none⟩ = some (.int .u64 c.q)
  sl : W.cell? ⟨B, 5, none⟩ = some (.slice (some ⟨C, 0, none⟩) c.n c.n)
  ct : W.cell? ⟨B, 6, none⟩ = some (.int .i64 m.cnt)
  l0 : W.cell? ⟨B, 7, none⟩ = some (.int .i64 m.l.kind)
  l1 : W.cell? ⟨B, 8, none⟩ = some (.int .i64 m.l.a)
  l2 : W.cell? ⟨B, 9, none⟩ = some (.int .i64 m.l.b)
  l3 : W.cell? ⟨B, 10, none⟩ = some (.int .u64 m.l.old)
  l4 : W.cell? ⟨B, 11, none⟩ = some (.int .u64 m.l.new)
  l5 : W.cell? ⟨B, 12, none⟩ = some (.bool m.l.done)
  fB : ∀ o, W.frozen? ⟨B, o, none⟩ = false
  fC : ∀ o, W.frozen? ⟨C, o, none⟩ = false
  ws : ∀ j, j < c.n → W.cell? ⟨C, j, none⟩ = some (.int .u64 (m.ws j))
  wd : ∀ j, j < c.n → Um.Word (m.ws j)
theorem MemAt.kept {W W' : World} {B C : Nat} {c : Um.Cf} {m : Um.Mm} (h : MemAt W B C c m) (hs : W.heap.size ≤ W'.heap.size) (hb : W'.heap[B]? = W.heap[B]?) (hc : W'.heap[C]? = W.heap[C]?) : MemAt W' B C c m :=
  have eb : ∀ o, W'.cell? ⟨B, o, none⟩ = W.cell? ⟨B, o, none⟩ := fun _ => World.cell?_of_block (w := W) hb
  have ec : ∀ o, W'.cell? ⟨C, o, none⟩ = W.cell? ⟨C, o, none⟩ := fun _ => World.cell?_of_block (w := W) hc
  ⟨Nat.lt_of_lt_of_le h.hB hs, Nat.lt_of_lt_of_le h.hC hs, h.ne, h.rt, (eb _).trans h.cf0, (eb _).trans h.cf1, (eb _).trans h.cf2, (eb _).trans h.cf3, (eb _).trans h.cf4, (eb _).trans h.sl, (eb _).trans h.ct,
    (eb _).trans h.l0, (eb _).trans h.l1, (eb _).trans h.l2, (eb _).trans h.l3, (eb _).trans h.l4, (eb _).trans h.l5, fun o => (World.frozen?_of_block (w := W) hb).trans (h.fB o), fun o => (World.frozen?_of_block (w := W) hc).trans (h.fC o),
    fun j hj => (ec j).trans (h.ws j hj), h.wd⟩
theorem MemAt.below {W W' : World} {B C n₀ : Nat} {c : Um.Cf} {m : Um.Mm} (h : MemAt W B C c m) (b : Below n₀ W W') (h1 : B < n₀) (h2 : C < n₀) : MemAt W' B C c m := h.kept b.size (b.block B h1) (b.block C h2)
theorem MemAt.off {W W' : World} {B C B' C' : Nat} {c : Um.Cf} {m : Um.Mm} (h : MemAt W B C c m) (b : Off B' C' W W') (h1 : B ≠ B' ∧ B ≠ C') (h2 : C ≠ B' ∧ C ≠ C') : MemAt W' B C c m := h.kept b.size (b.block B h.hB h1.1 h1.2) (b.block C h.hC h2.1 h2.2)
structure CfAt (W : World) (B : Nat) (c : Um.Cf) : Prop where
  lt : B < W.heap.size
  c0 : W.cell? ⟨B, 0, none⟩ = some (.int .i64 c.t)
  c1 : W.cell? ⟨B, 1, none⟩ = some (.int .i64 c.s)
  c2 : W.cell? ⟨B, 2, none⟩ = some (.int .i64 c.k)
  c3 : W.cell? ⟨B, 3, none⟩ = some (.int .i64 c.g)
  c4 : W.cell? ⟨B, 4, none⟩ = some (.int .u64 c.q)
theorem CfAt.kept {W W' : World} {B : Nat} {c : Um.Cf} (h : CfAt W B c) (hs : W.heap.size ≤ W'.heap.size) (hb : W'.heap[B]? = W.heap[B]?) : CfAt W' B c :=
  have eb : ∀ o, W'.cell? ⟨B, o, none⟩ = W.cell? ⟨B, o, none⟩ := fun _ => World.cell?_of_block (w := W) hb
  ⟨Nat.lt_of_lt_of_le h.lt hs, (eb _).trans h.c0, (eb _).trans h.c1, (eb _).trans h.c2, (eb _).trans h.c3, (eb _).trans h.c4⟩
theorem CfAt.below {W W' : World} {B : Nat} {c : Um.Cf} (h : CfAt W B c) (b : Below W.heap.size W W') : CfAt W' B c := h.kept b.size (b.block B h.lt)
theorem CfAt.off {W W' : World} {B B' C' : Nat} {c : Um.Cf} (h : CfAt W B c) (b : Off B' C' W W') (h1 : B ≠ B') (h2 : B ≠ C') : CfAt W' B c := h.kept b.size (b.block B h.lt h1 h2)
theorem CfAt.drew {W : World} {B : Nat} {c : Um.Cf} (h : CfAt W B c) : CfAt W.drew B c := ⟨h.lt, h.c0, h.c1, h.c2, h.c3, h.c4⟩
theorem cfAt_alloc (w : World) (c : Um.Cf) (e : TypeId) : CfAt (w.alloc (.cells #[.int .i64 c.t, .int .i64 c.s, .int .i64 c.k, .int .i64 c.g, .int .u64 c.q] e)) w.heap.size c := by
  have hn := heap_alloc_new w (.cells #[.int .i64 c.t, .int .i64 c.s, .int .i64 c.k, .int .i64 c.g, .int .u64 c.q] e)
  have hc : ∀ j, (w.alloc (.cells #[.int .i64 c.t, .int .i64 c.s, .int .i64 c.k, .int .i64 c.g, .int .u64 c.q] e)).cell? ⟨w.heap.size, j, none⟩ = (#[.int .i64 c.t, .int .i64 c.s, .int .i64 c.k, .int .i64 c.g, .int .u64 c.q] : Array Value)[j]? := by
    intro j
    generalize w.alloc _ = W at *
    simp [World.cell?, hn]
  exact ⟨by simp, hc 0, hc 1, hc 2, hc 3, hc 4⟩
def IsWords (W : World) (v : Value) (n : Nat) (ws : Nat → Nat) : Prop :=
  (∃ a cap, v = .slice a 0 cap ∧ n = 0) ∨ ∃ b off cap, v = .slice (some ⟨b, off, none⟩) n cap ∧ 0 < n ∧ n ≤ cap ∧ cap ≤ maxLen ∧ b < W.heap.size ∧ ∀ j, j < n → W.cell? ⟨b, off + j, none⟩ = some (.int .u64 (ws j)) ∧ Um.Word (ws j)
theorem IsWords.below {n₀ n : Nat} {A B : World} {v : Value} {ws : Nat → Nat} (h : IsWords A v n ws) (b : Below n₀ A B) (hn : A.heap.size ≤ n₀) : IsWords B v n ws := by
  rcases h with h | ⟨g, off, cap, rfl, h0, h1, h2, h3, h4⟩
  · exact .inl h
  · exact .inr ⟨g, off, cap, rfl, h0, h1, h2, Nat.lt_of_lt_of_le h3 b.size, fun j hj => ⟨(b.cell (p := ⟨g, off + j, none⟩) (by show g < n₀; omega)).trans (h4 j hj).1, (h4 j hj).2⟩⟩
def LowWords (B : Nat) (W : World) (v : Value) (n : Nat) (ws : Nat → Nat) : Prop :=
  (∃ a cap, v = .slice a 0 cap ∧ n = 0) ∨ ∃ b off cap, v = .slice (some ⟨b, off, none⟩) n cap ∧ 0 < n ∧ n ≤ cap ∧ cap ≤ maxLen ∧ b < B ∧ ∀ j, j < n → W.cell? ⟨b, off + j, none⟩ = some (.int .u64 (ws j)) ∧ Um.Word (ws j)
theorem IsWords.low {n : Nat} {A : World} {v : Value} {ws : Nat → Nat} (h : IsWords A v n ws) : LowWords A.heap.size A v n ws := h
theorem LowWords.is {n B : Nat} {A : World} {v : Value} {ws : Nat → Nat} (h : LowWords B A v n ws) (hB : B ≤ A.heap.size) : IsWords A v n ws := by
  rcases h with h | ⟨g, off, cap, rfl, h0, h1, h2, h3, h4⟩
  · exact .inl h
  · exact .inr ⟨g, off, cap, rfl, h0, h1, h2, by omega, h4⟩
theorem LowWords.below {n₀ n : Nat} {A B : World} {v : Value} {ws : Nat → Nat} (h : LowWords n₀ A v n ws) (b : Below n₀ A B) : LowWords n₀ B v n ws := by
  rcases h with h | ⟨g, off, cap, rfl, h0, h1, h2, h3, h4⟩
  · exact .inl h
  · exact .inr ⟨g, off, cap, rfl, h0, h1, h2, h3, fun j hj => ⟨(b.cell (p := ⟨g, off + j, none⟩) h3).trans (h4 j hj).1, (h4 j hj).2⟩⟩
def rowW (ws : Nat → Nat) : Nat → List Value
  | 0 => []
  | n + 1 => rowW ws n ++ [.int .u64 (ws n)]
theorem rowW_len (ws : Nat → Nat) (n : Nat) : (rowW ws n).length = n := by
  induction n with
  | zero => rfl
  | succ n ih => simp [rowW, ih]
theorem rowW_get (ws : Nat → Nat) (n j : Nat) (h : j < n) : (rowW ws n)[j]? = some (.int .u64 (ws j)) := by
  induction n with
  | zero => omega
  | succ n ih =>
    rw [rowW]
    by_cases e : j = n
    · subst e
      rw [List.getElem?_append_right (by rw [rowW_len]; exact Nat.le_refl _), rowW_len]
      simp
    · rw [List.getElem?_append_left (by rw [rowW_len]; omega)]
      exact ih (by omega)
theorem rowW_mem {ws : Nat → Nat} {n : Nat} : ∀ v ∈ rowW ws n, v.oneCell' = true := by
  induction n with
  | zero => simp [rowW]
  | succ n ih =>
    intro v hv
    rw [rowW] at hv
    rcases List.mem_append.1 hv with h | h
    · exact ih v h
    · obtain rfl : v = _ := by simpa using h
      rfl
theorem row_cell {W : World} {g : Nat} {ws : Nat → Nat} {n : Nat} {e : TypeId} (h : W.heap[g]? = some (.cells (rowW ws n).toArray e (0, 0))) (j : Nat) (hj : j < n) : W.cell? ⟨g, j, none⟩ = some (.int .u64 (ws j)) := by
  have := rowW_get ws n j hj
  simp [World.cell?, h, this]
theorem row_frozen {W : World} {g : Nat} {cs : Array Value} {e : TypeId} (h : W.heap[g]? = some (.cells cs e (0, 0))) (o : Nat) : W.frozen? ⟨g, o, none⟩ = false := by
  simp [World.frozen?, h]
theorem infoU : (Tryz.prog.info? 22).map (fun i => (i.zero, i.size, i.bytes)) = some (some (.int .u64 0), 1, 8) := by kernel_rfl
theorem made_zero (n : Nat) : (madeCells (Value.int .u64 0).cells (n * 1)).toList = rowW (fun _ => 0) n := by
  rw [Nat.mul_one]
  apply List.ext_getElem?
  intro j
  by_cases h : j < n
  · rw [rowW_get _ _ _ h]
    simp [madeCells, Value.cells, h, Nat.mod_one]
  · rw [List.getElem?_eq_none (l := rowW _ n) (by rw [rowW_len]; omega), List.getElem?_eq_none (by simp [madeCells, Value.cells]; omega)]
end
section
set_option maxRecDepth 100000
open Go.ChangeShapes Go.WideShapes Go.ChangeAt Go.RowKit
theorem cellsWU : Tryz.prog.cellsOf 22 = 1 := by kernel_rfl
theorem cellsWI : Tryz.prog.cellsOf 3 = 1 := by kernel_rfl
theorem open_words {H : Type} {enc : TypeId × Value → H} {W : World} {base : Nat} {v : Value} {d : DataW H} {p : List MemPlace}
    (hv : Value.okWide Tryz.prog W .any base 25 v) (h : DataW.Trod enc Tryz.prog W 0 (fun _ => true) true 25 v d p) :
    ∃ n ws, IsWords W v n ws := by
  obtain ⟨a0, len0, cap0, rfl⟩ := okWide_slice Tryz.underlying25 hv
  obtain ⟨fuel, hf⟩ := h
  rcases open_ints Tryz.underlying25 Tryz.underlying22 cellsWU hf with ⟨hcs, _⟩ | ⟨a, len, cap, zs, hcs, _, hl, hm, hz, _, hcell, hwf⟩
  · simp [Value.cells] at hcs
    obtain ⟨rfl, rfl, rfl⟩ := hcs
    exact ⟨0, fun _ => 0, Or.inl ⟨_, _, rfl, rfl⟩⟩
  · simp [Value.cells] at hcs
    obtain ⟨rfl, rfl, rfl⟩ := hcs
    by_cases h0 : len0 = 0
    · subst h0
      exact ⟨0, fun _ => 0, Or.inl ⟨_, _, rfl, rfl⟩⟩
    have hzc : zs.length = cap0 := hz
    obtain ⟨b, off, rfl, hc⟩ := ints_at hcell (by omega)
    have hw : ∀ j, j < zs.length → ∃ x : Nat, zs.getD j 0 = x ∧ Um.Word x := by
      intro j hj
      have e : zs.getD j 0 = zs[j] := by simp [hj]
      rw [e]
      exact word_of (hwf _ (List.getElem_mem hj))
    refine ⟨len0, fun j => (zs.getD j 0).toNat, Or.inr ⟨b, off, cap0, rfl, by omega, hl, hm, ?_, fun j hj => ?_⟩⟩
    · exact World.block_lt_of_cell? W _ (hc 0 (by omega))
    · obtain ⟨x, hx, hw'⟩ := hw j (by omega)
      have e : (zs.getD j 0).toNat = x := by rw [hx]; rfl
      exact ⟨by rw [hc j (by omega), hx, ← e], by rw [← e] at hw'; exact hw'⟩
end
section
set_option maxRecDepth 100000
open Go.ChangeShapes Go.WideShapes Go.ChangeAt Go.RowKit
theorem cellsPoke : Tryz.prog.cellsOf 98 = 4 := by kernel_rfl
theorem cellsPokes : Tryz.prog.cellsOf 26 = 1 := by kernel_rfl
theorem ls4 {α : Type} {cs : List α} (h : cs.length = 4) : ∃ c0 c1 c2 c3, cs = [c0, c1, c2, c3] := by
  match cs, h with
  | [c0, c1, c2, c3], _ => exact ⟨c0, c1, c2, c3, rfl⟩
structure Pok where
  st : Int
  k : Int
  a : Int
  v : Nat
def PokesAt (w : World) (la : Option Addr) (nl : Nat) (Z : Nat → Pok) : Prop :=
  nl = 0 ∨ ∃ lb off, la = some ⟨lb, off, none⟩ ∧ lb < w.heap.size ∧
      ∀ i, i < nl → (w.cell? ⟨lb, off + i * 4, none⟩ = some (.int .i64 (Z i).st) ∧ w.cell? ⟨lb, off + (i * 4 + 1), none⟩ = some (.int .i64 (Z i).k) ∧ w.cell? ⟨lb, off + (i * 4 + 2), none⟩ = some (.int .i64 (Z i).a) ∧ w.cell? ⟨lb, off + (i * 4 + 3), none⟩ = some (.int .u64 ((Z i).v : Nat))) ∧
        (-9223372036854775808 ≤ (Z i).a ∧ (Z i).a ≤ 9223372036854775807) ∧ Um.Word (Z i).v
theorem open_pokes {H : Type} {enc : TypeId × Value → H} {W : World} {fuel : Nat} {cs : List Value} {x : DataW H × List MemPlace}
    (h : DataW.trod enc Tryz.prog W 0 (fun _ => true) true fuel 26 cs = some x) :
    ∃ la nl cl Z, cs = [.slice la nl cl] ∧ nl ≤ cl ∧ PokesAt W la nl Z := by
  rcases Deep.open_slice Tryz.underlying26 h with ⟨hcs, _⟩ | ⟨a, len, cap, m, n, D, Pl, hcs, _, hl, hm, hmm, _, hx⟩
  · exact ⟨none, 0, 0, fun _ => ⟨0, 0, 0, 0⟩, hcs, Nat.le_refl _, .inl rfl⟩
  · by_cases h0 : len = 0
    · subst h0
      exact ⟨some a, 0, cap, fun _ => ⟨0, 0, 0, 0⟩, hcs, Nat.zero_le _, .inl rfl⟩
    have hmc : m = cap := by rw [hmm]; rfl
    subst hmc
    have each : ∀ i, i < len → ∃ q : Pok, (W.cell? (a.add (i * 4)) = some (.int .i64 q.st) ∧ W.cell? (a.add (i * 4 + 1)) = some (.int .i64 q.k) ∧ W.cell? (a.add (i * 4 + 2)) = some (.int .i64 q.a) ∧ W.cell? (a.add (i * 4 + 3)) = some (.int .u64 (q.v : Nat))) ∧
        (-9223372036854775808 ≤ q.a ∧ q.a ≤ 9223372036854775807) ∧ Um.Word q.v := by
      intro i hi
      obtain ⟨cs', h1, h2⟩ := hx i (by omega)
      rw [cellsPoke] at h1
      obtain ⟨_, hlen, hcell⟩ := World.cells?_some h1
      obtain ⟨v0, v1, v2, v3, rfl⟩ := ls4 hlen
      obtain ⟨xs, n, _, _, hl, hxl, hfx⟩ := DataW.trod_struct Tryz.underlying98 h2
      obtain ⟨y0, y1, y2, y3, rfl⟩ := ls4 hxl
      obtain ⟨q0, e0, _, _⟩ := DataW.trod_int Tryz.underlying3 (hfx 0 _ rfl)
      obtain ⟨q1, e1, _, _⟩ := DataW.trod_int Tryz.underlying3 (hfx 1 _ rfl)
      obtain ⟨q2, e2, _, k2⟩ := DataW.trod_int Tryz.underlying3 (hfx 2 _ rfl)
      obtain ⟨q3, e3, _, k3⟩ := DataW.trod_int Tryz.underlying22 (hfx 3 _ rfl)
      obtain ⟨x', rfl, w3⟩ := word_of k3
      simp [cellsWI, cellsWU] at e0 e1 e2 e3
      subst e0 e1 e2 e3
      have c0 := hcell 0 (by omega)
      have c1 := hcell 1 (by omega)
      have c2 := hcell 2 (by omega)
      have c3 := hcell 3 (by omega)
      rw [Deep.add_add] at c0 c1 c2 c3
      exact ⟨⟨q0, q1, q2, x'⟩, ⟨by simpa using c0, by simpa using c1, by simpa using c2, by simpa using c3⟩, int_of k2, w3⟩
    have : ∃ Z : Nat → Pok, ∀ i, i < len → (W.cell? (a.add (i * 4)) = some (.int .i64 (Z i).st) ∧ W.cell? (a.add (i * 4 + 1)) = some (.int .i64 (Z i).k) ∧ W.cell? (a.add (i * 4 + 2)) = some (.int .i64 (Z i).a) ∧ W.cell? (a.add (i * 4 + 3)) = some (.int .u64 ((Z i).v : Nat))) ∧
        (-9223372036854775808 ≤ (Z i).a ∧ (Z i).a ≤ 9223372036854775807) ∧ Um.Word (Z i).v :=
      ⟨fun i => if hi : i < len then (each i hi).choose else ⟨0, 0, 0, 0⟩, fun i hi => by simp only [hi, dite_true]; exact (each i hi).choose_spec⟩
    obtain ⟨q, hq⟩ := this
    obtain ⟨b, off, spot⟩ := a
    have hspot : spot = none := by simpa [Addr.add] using World.cell?_spot (hq 0 (by omega)).1.1
    subst hspot
    refine ⟨_, len, m, q, hcs, hl, .inr ⟨b, off, rfl, ?_, fun i hi => ?_⟩⟩
    · have := (hq 0 (by omega)).1.1
      rw [Go.WideShapes.add_plain] at this
      exact World.block_lt_of_cell? W _ this
    · have := hq i hi
      simp only [Go.WideShapes.add_plain] at this
      exact this
end
section
set_option maxRecDepth 100000
open Go.ChangeShapes Go.WideShapes Go.ChangeAt Go.RowKit
theorem ls2 {α : Type} {cs : List α} (h : cs.length = 2) : ∃ c0 c1, cs = [c0, c1] := by
  match cs, h with
  | [c0, c1], _ => exact ⟨c0, c1, rfl⟩
def RowOf (w : World) (la : Option Addr) (nl : Nat) (Z : Nat → Value) : Prop :=
  nl = 0 ∨ ∃ lb off, la = some ⟨lb, off, none⟩ ∧ lb < w.heap.size ∧ ∀ i, i < nl → w.cell? ⟨lb, off + i, none⟩ = some (Z i)
end
section
set_option maxRecDepth 100000
open Go.RowKit Go.Sort
theorem addW_wrap (x y : Nat) : IntKind.u64.wrap ((x : Int) + (y : Int)) = ((Um.addW x y : Nat) : Int) := by
  rw [IntKind.wrap_u64]
  unfold Um.addW
  omega
theorem ret_ub {a b : Int} {c d : Bool} (h : a = b) (h' : c = d) : Ending.returned (.tuple #[.int .u64 a, .bool c]) = .returned (.tuple #[.int .u64 b, .bool d]) := by rw [h, h']
set_option maxHeartbeats 400000 in
theorem wLoad_any (o v x : Nat) (w : World) :
    Calls Tryz.prog 75 #[.agg #[.int .u64 o, .int .u64 v], .int .u64 x] w fun e w' => e = .returned (.tuple #[.int .u64 (Um.trn 1 o v x : Nat), .bool (Um.trd 1 o x)]) ∧ Below w.heap.size w w' := by
  go_enter Tryz.func75, Tryz.ntmps75
  go_wp2
  go_ret2
  exact ⟨ret_ub rfl rfl, (Below.refl _ _).alloc (Nat.le_refl _) _⟩
set_option maxHeartbeats 400000 in
theorem wStore_any (o v x : Nat) (w : World) :
    Calls Tryz.prog 73 #[.agg #[.int .u64 o, .int .u64 v], .int .u64 x] w fun e w' => e = .returned (.tuple #[.int .u64 (Um.trn 2 o v x : Nat), .bool (Um.trd 2 o x)]) ∧ Below w.heap.size w w' := by
  go_enter Tryz.func73, Tryz.ntmps73
  go_wp2
  go_ret2
  exact ⟨ret_ub rfl rfl, (Below.refl _ _).alloc (Nat.le_refl _) _⟩
set_option maxHeartbeats 400000 in
theorem wSwap_any (o v x : Nat) (w : World) :
    Calls Tryz.prog 139 #[.agg #[.int .u64 o, .int .u64 v], .int .u64 x] w fun e w' => e = .returned (.tuple #[.int .u64 (Um.trn 3 o v x : Nat), .bool (Um.trd 3 o x)]) ∧ Below w.heap.size w w' := by
  by_cases h : x = o
  · subst h
    go_enter Tryz.func139, Tryz.ntmps139
    go_wp2
    go_ret2
    exact ⟨ret_ub (by simp [Um.trn]) (by simp [Um.trd]), (Below.refl _ _).alloc (Nat.le_refl _) _⟩
  · have hne : ((x : Int) == (o : Int)) = false := by simp; omega
    go_enter Tryz.func139, Tryz.ntmps139
    go_wp2
    go_ret2
    exact ⟨ret_ub (by simp [Um.trn, h]) (by simp [Um.trd, h]), (Below.refl _ _).alloc (Nat.le_refl _) _⟩
set_option maxHeartbeats 400000 in
theorem mCount_any {W : World} {B C : Nat} {c : Um.Cf} {m : Um.Mm} (h : MemAt W B C c m) :
    Calls Tryz.prog 57 #[.pointer (some ⟨B, 0, none⟩)] W fun e w' => e = .returned (.int .i64 m.cnt) ∧ w' = W := by
  have h6 := h.ct
  clear h
  go_enter Tryz.func57, Tryz.ntmps57
  go_wp2
  go_ret
  exact ⟨rfl, rfl⟩
set_option maxHeartbeats 1000000 in
theorem mConfig_any {W : World} {B C : Nat} {c : Um.Cf} {m : Um.Mm} (h : MemAt W B C c m) :
    Calls Tryz.prog 123 #[.pointer (some ⟨B, 0, none⟩)] W fun e w' => e = .returned (.agg #[.int .i64 (c.t), .int .i64 (c.s), .int .i64 (c.k), .int .i64 (c.g), .int .u64 (c.q : Int)]) ∧ Below W.heap.size W w' := by
  obtain ⟨hB, _, _, _, h0, h1, h2, h3, h4, _⟩ := h
  go_enter Tryz.func123, Tryz.ntmps123
  go_wp2
  refine bodyPost_ret (v := (.agg #[.int .i64 (c.t), .int .i64 (c.s), .int .i64 (c.k), .int .i64 (c.g), .int .u64 (c.q : Int)])) (by simp [results, Tryz.results123, go_sem]) rfl ⟨rfl, (Below.refl _ _).alloc (Nat.le_refl _) _⟩
set_option maxHeartbeats 1000000 in
theorem mLast_any {W : World} {B C : Nat} {c : Um.Cf} {m : Um.Mm} (h : MemAt W B C c m) :
    Calls Tryz.prog 56 #[.pointer (some ⟨B, 0, none⟩)] W fun e w' => e = .returned (.agg #[.int .i64 (m.l.kind), .int .i64 (m.l.a), .int .i64 (m.l.b), .int .u64 (m.l.old : Int), .int .u64 (m.l.new : Int), .bool (m.l.done)]) ∧ Below W.heap.size W w' := by
  obtain ⟨hB, _, _, _, _, _, _, _, _, _, _, h0, h1, h2, h3, h4, h5, _⟩ := h
  go_enter Tryz.func56, Tryz.ntmps56
  go_wp2
  refine bodyPost_ret (v := (.agg #[.int .i64 (m.l.kind), .int .i64 (m.l.a), .int .i64 (m.l.b), .int .u64 (m.l.old : Int), .int .u64 (m.l.new : Int), .bool (m.l.done)])) (by simp [results, Tryz.results56, go_sem]) rfl ⟨rfl, (Below.refl _ _).alloc (Nat.le_refl _) _⟩
end
end Go.Proofs.YtapgghciieloaaaGreat
