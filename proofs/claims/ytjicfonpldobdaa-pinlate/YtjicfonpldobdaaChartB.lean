/-
  The walks of layer 5's functions: what is told by the runs of cells.
-/
import Derived.Test.YtjicfonpldobdaaChartR
import Derived.LoopTactic
namespace Go.Proofs.Ytjicfonpldobdaa
set_option maxRecDepth 100000
open Go.RowKit Go.Sort

set_option maxHeartbeats 2000000 in
theorem cLen_any (t s k g : Int) (q : Nat) (w : World) :
    Calls Try.prog 59 #[(.agg #[.int .i64 t, .int .i64 s, .int .i64 k, .int .i64 g, .int .u64 (q : Int)])] w fun e w' => e = .returned (.int .i64 (Um.clen (Um.rt t s k g q) t s k)) ∧ Below w.heap.size w w' := by
  have hR := cRuns_any t s k g q
  have hb := Um.rt_rb t s k g q
  generalize Um.rt t s k g q = r at *
  go_enter Try.func59, Try.ntmps59
  go_wp2_with fail
  refine (hR _).mono ?_
  rintro e w1 ⟨v, rfl, hv, hb1⟩
  have hB1 : Below w.heap.size w w1 := (((Below.refl w.heap.size w).alloc (Nat.le_refl _) _)).trans (hb1.mono (by simp))
  clear hb1 hR
  have HV := hide hv
  have HB := hide hb
  clear hv hb
  go_wp2_with fail
  go_loopw [3, 8] (fun n i wr => ∃ j : Nat, j ≤ 5 ∧ n = .int .i64 (Um.offN r t s k j) ∧ i = .int .i64 j ∧ Below w.heap.size w wr) (fun _ i _ => 5 - (intOf i).toNat)
  case atStart => exact ⟨0, by omega, by rw [Um.off_zero], rfl, hB1⟩
  case round =>
    clear hB1
    rename_i wr
    obtain ⟨j, hj, rfl, rfl, hB⟩ := hrel
    by_cases hlt : j < 5
    · have hi := (unhide HV) j hlt
      have hs := hide (Um.off_succ r t s k hlt)
      have hl := Um.ln_bd (unhide HB) j
      have ho := Um.off_bd (unhide HB) j
      have hL := hide (Um.ln_eq r t s k hlt)
      generalize Um.offN r t s k j = off at *
      generalize Um.lnN r t s k j = len at *
      generalize Um.thN r t s k j = th at *
      generalize Um.kiN r j = ki at *
      generalize Um.fiN r j = fi at *
      obtain ⟨hl0, hl1⟩ := hl
      obtain ⟨ho0, ho1⟩ := ho
      go_wp2_with fail
      refine (cLenOf_any _ _ _ len _ (unhide hL) hl0 hl1).mono ?_
      rintro e w2 ⟨rfl, hb2⟩
      have hB2 : Below w.heap.size w w2 := by
        refine Below.trans ?_ (hb2.mono ?_)
        · repeat first | exact hB | refine Below.alloc ?_ (by have := hB.size; first | omega | (simp; omega)) _ | refine Below.setCell ?_ (by have := hB.size; simp; omega) _
        · have := hB.size; simp; omega
      clear hb2
      go_wp2
      refine ⟨⟨j + 1, by omega, by rw [← unhide hs], by go_num, hB2⟩, by simp [intOf]; omega⟩
    · obtain rfl : j = 5 := by omega
      rw [Um.off_five]
      go_wp2
      go_ret
      exact ⟨rfl, hB⟩

set_option maxHeartbeats 2000000 in
theorem cAt_any (t s k g : Int) (q : Nat) (x : Int) (w : World) (hx : x ≤ 9223372036854775807) :
    Calls Try.prog 38 #[(.agg #[.int .i64 t, .int .i64 s, .int .i64 k, .int .i64 g, .int .u64 (q : Int)]), .int .i64 x] w fun e w' => e = .returned (.agg #[.int .i64 (Um.atK (Um.rt t s k g q) t s k x), .int .i64 (Um.atO (Um.rt t s k g q) t s k x)]) ∧ Below w.heap.size w w' := by
  have hR := cRuns_any t s k g q
  have hb := Um.rt_rb t s k g q
  generalize Um.rt t s k g q = r at *
  by_cases hneg : x < 0
  · rw [(Um.at_neg hneg).1, (Um.at_neg hneg).2]
    go_enter Try.func38, Try.ntmps38
    go_wp2
    refine bodyPost_ret (v := (.agg #[.int .i64 0, .int .i64 0])) (by simp [results, Try.results38, go_sem]) rfl ⟨rfl, ?_⟩
    repeat first | exact Below.refl _ _ | refine Below.setCell ?_ (by simp) _ | refine Below.alloc ?_ (by simp) _
  · have hz : w.heap.size < w.heap.size + 2 := by omega
    go_enter Try.func38, Try.ntmps38
    go_wp2_with fail
    refine (hR _).mono ?_
    rintro e w1 ⟨v, rfl, hv, hb1⟩
    obtain ⟨hc1, hf1⟩ := bcell hb1
    have hB1 : Below w.heap.size w w1 := (((Below.refl w.heap.size w).alloc (Nat.le_refl _) _).alloc (by simp) _).trans (hb1.mono (by simp; omega))
    have hz1 : w.heap.size + 1 < w1.heap.size := by have := hb1.size; simp at this; omega
    have c0 : w1.cell? ⟨w.heap.size + 1, 0, none⟩ = some (.int .i64 0) := by go_simp
    have f0 : w1.frozen? ⟨w.heap.size + 1, 0, none⟩ = false := by go_simp
    have c1 : w1.cell? ⟨w.heap.size + 1, 1, none⟩ = some (.int .i64 0) := by go_simp
    have f1 : w1.frozen? ⟨w.heap.size + 1, 1, none⟩ = false := by go_simp
    clear hb1 hR hc1 hf1 hz
    have HV := hide hv
    have HB := hide hb
    clear hv hb
    go_wp2_with fail
    go_loopw [1, 12] (fun n i wr => ∃ j : Nat, j ≤ 5 ∧ Um.offN r t s k j ≤ x ∧ n = .int .i64 (x - Um.offN r t s k j) ∧ i = .int .i64 j ∧ Below w.heap.size w wr ∧ w.heap.size + 1 < wr.heap.size ∧
      wr.cell? ⟨w.heap.size + 1, 0, none⟩ = some (.int .i64 0) ∧ wr.cell? ⟨w.heap.size + 1, 1, none⟩ = some (.int .i64 0) ∧ wr.frozen? ⟨w.heap.size + 1, 0, none⟩ = false ∧ wr.frozen? ⟨w.heap.size + 1, 1, none⟩ = false) (fun _ i _ => 5 - (intOf i).toNat)
    case atStart => exact ⟨0, by omega, by rw [Um.off_zero]; omega, by rw [Um.off_zero, Int.sub_zero], rfl, hB1, hz1, c0, c1, f0, f1⟩
    case round =>
      clear hB1 hz1 c0 c1 f0 f1
      rename_i wr
      obtain ⟨j, hj, hxo, rfl, rfl, hB, hz1, c0, c1, f0, f1⟩ := hrel
      by_cases hlt : j < 5
      · have hi := (unhide HV) j hlt
        have hs := Um.off_succ r t s k hlt
        have hl := Um.ln_bd (unhide HB) j
        have ho := Um.off_bd (unhide HB) j
        have hL := hide (Um.ln_eq r t s k hlt)
        by_cases hin : x - Um.offN r t s k j < Um.lnN r t s k j
        · have hki := Um.ki_pos (r := r) (t := t) (s := s) (k := k) (j := j) (by omega)
          have hK := hide (Um.at_run (unhide HB) hlt hxo hin)
          have hfb := Um.fi_bd r hlt
          have hkb := Um.ki_bd r j
          clear hs
          generalize Um.lnN r t s k j = len at *
          generalize Um.thN r t s k j = th at *
          generalize Um.offN r t s k j = off at *
          generalize Um.kiN r j = ki at *
          generalize Um.fiN r j = fi at *
          obtain ⟨hl0, hl1⟩ := hl
          obtain ⟨ho0, ho1⟩ := ho
          obtain ⟨hfb0, hfb1⟩ := hfb
          obtain ⟨hkb0, hkb1⟩ := hkb
          go_wp2_with fail
          refine (cLenOf_any _ _ _ len _ (unhide hL) hl0 hl1).mono ?_
          rintro e w2 ⟨rfl, hb2⟩
          obtain ⟨hc2, hf2⟩ := bcell hb2
          have hzz : w.heap.size + 1 < wr.heap.size + 1 := by omega
          have d0 : w2.cell? ⟨w.heap.size + 1, 0, none⟩ = some (.int .i64 0) := by go_simp
          have e0 : w2.frozen? ⟨w.heap.size + 1, 0, none⟩ = false := by go_simp
          have d1 : w2.cell? ⟨w.heap.size + 1, 1, none⟩ = some (.int .i64 0) := by go_simp
          have e1 : w2.frozen? ⟨w.heap.size + 1, 1, none⟩ = false := by go_simp
          have r0 : w2.cell? ⟨wr.heap.size, 0, none⟩ = some (.int .i64 th) := by go_simp
          have r1 : w2.cell? ⟨wr.heap.size, 1, none⟩ = some (.int .i64 ki) := by go_simp
          have r2 : w2.cell? ⟨wr.heap.size, 2, none⟩ = some (.int .i64 fi) := by go_simp
          have hB2 : Below w.heap.size w w2 := by
            refine Below.trans ?_ (hb2.mono ?_)
            · repeat first | exact hB | refine Below.alloc ?_ (by have := hB.size; first | omega | (simp; omega)) _ | refine Below.setCell ?_ (by have := hB.size; simp; omega) _
            · have := hB.size; simp; omega
          have hm0 : 0 ≤ (x - off) % ki := Int.emod_nonneg _ (by omega)
          have hm1 : (x - off) % ki < ki := Int.emod_lt_of_pos _ (by omega)
          go_wp2_with fail
          go_region
          all_goals
            go_wp2
            obtain ⟨hk0, hk1⟩ := unhide hK
            rw [hk0, hk1]
            generalize hW : World.setCell _ _ _ = W
            have k0 : W.cell? ⟨w.heap.size + 1, 0, none⟩ = some (.int .i64 (Um.atK r t s k x)) := by subst hW; go_simp
            have k1 : W.cell? ⟨w.heap.size + 1, 1, none⟩ = some (.int .i64 (Um.atO r t s k x)) := by subst hW; go_simp
            refine bodyPost_ret (v := (.agg #[.int .i64 (Um.atK r t s k x), .int .i64 (Um.atO r t s k x)])) (by simp [results, Try.results38, go_sem, k0, k1]) rfl ⟨rfl, ?_⟩
            subst hW
            exact ((hB2.setCell (by simp) _).setCell (by simp) _).drew
        · clear HV
          generalize Um.lnN r t s k j = len at *
          generalize Um.thN r t s k j = th at *
          generalize Um.offN r t s k j = off at *
          generalize hoff : Um.offN r t s k (j + 1) = off' at *
          generalize Um.kiN r j = ki at *
          generalize Um.fiN r j = fi at *
          have HO := hide hoff
          have HS := hide hs
          clear hoff hs
          obtain ⟨hl0, hl1⟩ := hl
          obtain ⟨ho0, ho1⟩ := ho
          go_wp2_with fail
          refine (cLenOf_any _ _ _ len _ (unhide hL) hl0 hl1).mono ?_
          rintro e w2 ⟨rfl, hb2⟩
          obtain ⟨hc2, hf2⟩ := bcell hb2
          have hzz : w.heap.size + 1 < wr.heap.size + 1 := by omega
          have hz2 : wr.heap.size < w2.heap.size := by have := hb2.size; simp at this; omega
          have d0 : w2.cell? ⟨w.heap.size + 1, 0, none⟩ = some (.int .i64 0) := by go_simp
          have e0 : w2.frozen? ⟨w.heap.size + 1, 0, none⟩ = false := by go_simp
          have d1 : w2.cell? ⟨w.heap.size + 1, 1, none⟩ = some (.int .i64 0) := by go_simp
          have e1 : w2.frozen? ⟨w.heap.size + 1, 1, none⟩ = false := by go_simp
          have r0 : w2.cell? ⟨wr.heap.size, 0, none⟩ = some (.int .i64 th) := by go_simp
          have r1 : w2.cell? ⟨wr.heap.size, 1, none⟩ = some (.int .i64 ki) := by go_simp
          have r2 : w2.cell? ⟨wr.heap.size, 2, none⟩ = some (.int .i64 fi) := by go_simp
          have hB2 : Below w.heap.size w w2 := by
            refine Below.trans ?_ (hb2.mono ?_)
            · repeat first | exact hB | refine Below.alloc ?_ (by have := hB.size; first | omega | (simp; omega)) _ | refine Below.setCell ?_ (by have := hB.size; simp; omega) _
            · have := hB.size; simp; omega
          clear hc2 hf2 hb2
          go_wp2_with fail
          refine (cLenOf_any _ _ _ len _ (unhide hL) hl0 hl1).mono ?_
          rintro e w3 ⟨rfl, hb3⟩
          have hB3 : Below w.heap.size w w3 := hB2.trans (hb3.mono hB2.size)
          have d0' := (hb3.cell (p := ⟨w.heap.size + 1, 0, none⟩) (show w.heap.size + 1 < w2.heap.size by omega)).trans d0
          have d1' := (hb3.cell (p := ⟨w.heap.size + 1, 1, none⟩) (show w.heap.size + 1 < w2.heap.size by omega)).trans d1
          have e0' := (hb3.frozen (p := ⟨w.heap.size + 1, 0, none⟩) (show w.heap.size + 1 < w2.heap.size by omega)).trans e0
          have e1' := (hb3.frozen (p := ⟨w.heap.size + 1, 1, none⟩) (show w.heap.size + 1 < w2.heap.size by omega)).trans e1
          have hz3 : w.heap.size + 1 < w3.heap.size := by have := hb3.size; omega
          clear hb3
          go_wp2
          have hs := unhide HS
          refine ⟨⟨j + 1, by omega, by rw [unhide HO]; omega, by rw [unhide HO, ← hs, Int.sub_sub], by go_num, hB3, hz3, d0', d1', e0', e1'⟩, by simp [intOf]; omega⟩
      · obtain rfl : j = 5 := by omega
        rw [Um.off_five] at hxo
        obtain ⟨hk0, hk1⟩ := Um.at_out (unhide HB) hxo
        have K0 := hide hk0
        have K1 := hide hk1
        clear hk0 hk1
        go_wp2
        refine bodyPost_ret (v := (.agg #[.int .i64 0, .int .i64 0])) (by simp [results, Try.results38, go_sem, c0, c1]) rfl ⟨by rw [unhide K0, unhide K1], ?_⟩
        repeat first | exact hB | refine Below.setCell ?_ (by simp) _

theorem wraps (o b a f : Int) : wrap64 (wrap64 (wrap64 (o + wrap64 b) + a) - f) = Um.wr (o + b + a - f) := by
  unfold wrap64 Um.wr
  omega

set_option maxHeartbeats 2000000 in
theorem cPlace_any (t s k g : Int) (q : Nat) (a b : Int) (w : World) :
    Calls Try.prog 70 #[(.agg #[.int .i64 t, .int .i64 s, .int .i64 k, .int .i64 g, .int .u64 (q : Int)]), (.agg #[.int .i64 a, .int .i64 b])] w fun e w' => e = .returned (.int .i64 (Um.plc (Um.rt t s k g q) t s a b)) ∧ Below w.heap.size w w' := by
  have hR := cRuns_any t s k g q
  have hb := Um.rt_rb t s k g q
  generalize Um.rt t s k g q = r at *
  have hz : w.heap.size < w.heap.size + 2 := by omega
  go_enter Try.func70, Try.ntmps70
  go_wp2_with fail
  refine (hR _).mono ?_
  rintro e w1 ⟨v, rfl, hv, hb1⟩
  obtain ⟨hc1, hf1⟩ := bcell hb1
  have hB1 : Below w.heap.size w w1 := (((Below.refl w.heap.size w).alloc (Nat.le_refl _) _).alloc (by simp) _).trans (hb1.mono (by simp; omega))
  have hz1 : w.heap.size + 1 < w1.heap.size := by have := hb1.size; simp at this; omega
  have c0 : w1.cell? ⟨w.heap.size + 1, 0, none⟩ = some (.int .i64 a) := by go_simp
  have c1 : w1.cell? ⟨w.heap.size + 1, 1, none⟩ = some (.int .i64 b) := by go_simp
  clear hb1 hR hc1 hf1 hz
  have HV := hide hv
  have HB := hide hb
  clear hv hb
  go_wp2_with fail
  go_loopw [5, 10] (fun n i wr => ∃ j : Nat, j ≤ 5 ∧ Hid (∀ i, i < j → ¬ (Um.fiN r i ≤ a ∧ a ≤ Um.fiN r i + Um.kiN r i - 1)) ∧ n = .int .i64 (Um.offN r t s k j) ∧ i = .int .i64 j ∧ Below w.heap.size w wr ∧ w.heap.size + 1 < wr.heap.size ∧
    wr.cell? ⟨w.heap.size + 1, 0, none⟩ = some (.int .i64 a) ∧ wr.cell? ⟨w.heap.size + 1, 1, none⟩ = some (.int .i64 b)) (fun _ i _ => 5 - (intOf i).toNat)
  case atStart => exact ⟨0, by omega, fun i hi => absurd hi (Nat.not_lt_zero i), by rw [Um.off_zero], rfl, hB1, hz1, c0, c1⟩
  case round =>
    clear hB1 hz1 c0 c1
    rename_i wr
    obtain ⟨j, hj, hmiss, rfl, rfl, hB, hz1, c0, c1⟩ := hrel
    by_cases hlt : j < 5
    · have hi := (unhide HV) j hlt
      have hs := hide (Um.off_succ r t s k hlt)
      have hl := Um.ln_bd (unhide HB) j
      have ho := Um.off_bd (unhide HB) j
      have hL := hide (Um.ln_eq r t s k hlt)
      have hfb := Um.fi_bd r hlt
      have hkb := Um.ki_bd r j
      obtain ⟨hl0, hl1⟩ := hl
      obtain ⟨ho0, ho1⟩ := ho
      obtain ⟨hfb0, hfb1⟩ := hfb
      obtain ⟨hkb0, hkb1⟩ := hkb
      have hzz : w.heap.size + 1 < wr.heap.size + 1 := by omega
      by_cases hin : Um.fiN r j ≤ a ∧ a ≤ Um.fiN r j + Um.kiN r j - 1
      · have hP := hide (Um.plc_hit (t := t) (s := s) (k := k) (b := b) hlt hin.1 hin.2)
        have hW := cWithin_any a (Um.fiN r j) (Um.fiN r j + Um.kiN r j - 1)
        rw [show decide (Um.fiN r j ≤ a ∧ a ≤ Um.fiN r j + Um.kiN r j - 1) = true from decide_eq_true hin] at hW
        clear hin
        generalize Um.lnN r t s k j = len at *
        generalize Um.thN r t s k j = th at *
        generalize Um.offN r t s k j = off at *
        generalize Um.kiN r j = ki at *
        generalize Um.fiN r j = fi at *
        go_wp2_with fail
        refine (hW _).mono ?_
        rintro e w2 ⟨rfl, rfl⟩
        go_wp2
        go_ret
        refine ⟨ret_i64 ?_, ?_⟩
        · rw [← unhide hP, ← wraps]
        · repeat first | exact hB | refine Below.setCell ?_ (by have := hB.size; simp; omega) _ | refine Below.alloc ?_ (by have := hB.size; first | omega | (simp; omega)) _
      · have hmiss' : Hid (∀ i, i < j + 1 → ¬ (Um.fiN r i ≤ a ∧ a ≤ Um.fiN r i + Um.kiN r i - 1)) := by
          intro i hi'
          by_cases e : i = j
          · subst e; exact hin
          · exact (unhide hmiss) i (by omega)
        have hW := cWithin_any a (Um.fiN r j) (Um.fiN r j + Um.kiN r j - 1)
        rw [show decide (Um.fiN r j ≤ a ∧ a ≤ Um.fiN r j + Um.kiN r j - 1) = false from decide_eq_false hin] at hW
        clear hin hmiss
        generalize Um.lnN r t s k j = len at *
        generalize Um.thN r t s k j = th at *
        generalize Um.offN r t s k j = off at *
        generalize Um.kiN r j = ki at *
        generalize Um.fiN r j = fi at *
        go_wp2_with fail
        refine (hW _).mono ?_
        rintro e w2 ⟨rfl, rfl⟩
        go_wp2_with fail
        refine (cLenOf_any _ _ _ len _ (unhide hL) hl0 hl1).mono ?_
        rintro e w3 ⟨rfl, hb3⟩
        obtain ⟨hc3, hf3⟩ := bcell hb3
        have hz3 : w.heap.size + 1 < w3.heap.size := by have := hb3.size; simp at this; omega
        have d0 : w3.cell? ⟨w.heap.size + 1, 0, none⟩ = some (.int .i64 a) := by go_simp
        have d1 : w3.cell? ⟨w.heap.size + 1, 1, none⟩ = some (.int .i64 b) := by go_simp
        have hB3 : Below w.heap.size w w3 := by
          refine Below.trans ?_ (hb3.mono ?_)
          · repeat first | exact hB | refine Below.alloc ?_ (by have := hB.size; first | omega | (simp; omega)) _ | refine Below.setCell ?_ (by have := hB.size; simp; omega) _
          · have := hB.size; simp; omega
        clear hc3 hf3 hb3
        go_wp2
        refine ⟨⟨j + 1, by omega, hmiss', by rw [← unhide hs], by go_num, hB3, hz3, d0, d1⟩, by simp [intOf]; omega⟩
    · obtain rfl : j = 5 := by omega
      have hP := hide (Um.plc_miss (t := t) (s := s) (b := b) (unhide hmiss))
      clear hmiss
      go_wp2
      go_ret
      exact ⟨ret_i64 (unhide hP).symm, hB⟩

set_option maxHeartbeats 2000000 in
theorem cCell_any (t s k g : Int) (q : Nat) (a b : Int) (w : World) (hb0 : -9223372036854775808 ≤ b) (hb1 : b ≤ 9223372036854775807) :
    Calls Try.prog 65 #[(.agg #[.int .i64 t, .int .i64 s, .int .i64 k, .int .i64 g, .int .u64 (q : Int)]), (.agg #[.int .i64 a, .int .i64 b])] w fun e w' => e = .returned (.int .i64 (Um.cellN (Um.rt t s k g q) t s k a b)) ∧ Below w.heap.size w w' := by
  have hR := cPlace_any t s k g q a b
  have hA := fun x => cAt_any t s k g q x
  have hp := Um.plc_cell (a := a) (Um.rt_rb t s k g q) hb0 hb1
  have hpb : Um.plc (Um.rt t s k g q) t s a b ≤ 9223372036854775807 := by
    simp only [Um.plc, Um.wr]
    (repeat' split) <;> omega
  generalize Um.rt t s k g q = r at *
  generalize Um.plc r t s a b = p at *
  have hAp := fun w => hA p w hpb
  clear hA
  have hn : ∀ w, (binOp .neq 39 (.agg #[.int .i64 (Um.atK r t s k p), .int .i64 (Um.atO r t s k p)]) (.agg #[.int .i64 a, .int .i64 b])).run Try.prog w = .ok (.bool (!decide (Um.atK r t s k p = a ∧ Um.atO r t s k p = b))) w := neqSpot _ (Or.inl rfl) rfl
  have hP := hide hp
  clear hp hpb hb0 hb1
  have hz : w.heap.size < w.heap.size + 2 := by omega
  by_cases heq : Um.atK r t s k p = a ∧ Um.atO r t s k p = b
  · rw [decide_eq_true heq] at hn
    rw [← (unhide hP).1 heq]
    clear hP heq
    generalize Um.atK r t s k p = u at *
    generalize Um.atO r t s k p = v at *
    go_enter Try.func65, Try.ntmps65
    go_wp2_with fail
    refine (hR _).mono ?_
    rintro e w1 ⟨rfl, hb1⟩
    obtain ⟨hc1, hf1⟩ := bcell hb1
    have hB1 : Below w.heap.size w w1 := (((Below.refl w.heap.size w).alloc (Nat.le_refl _) _).alloc (by simp) _).trans (hb1.mono (by simp; omega))
    have k0 : ∀ d os, (grow (redrawn w1 d) os).cell? ⟨w.heap.size, 0, none⟩ = some (.int .i64 t) := fun d os => cell_regrown (by go_simp) d os
    have k1 : ∀ d os, (grow (redrawn w1 d) os).cell? ⟨w.heap.size, 1, none⟩ = some (.int .i64 s) := fun d os => cell_regrown (by go_simp) d os
    have k2 : ∀ d os, (grow (redrawn w1 d) os).cell? ⟨w.heap.size, 2, none⟩ = some (.int .i64 k) := fun d os => cell_regrown (by go_simp) d os
    have k3 : ∀ d os, (grow (redrawn w1 d) os).cell? ⟨w.heap.size, 3, none⟩ = some (.int .i64 g) := fun d os => cell_regrown (by go_simp) d os
    have k4 : ∀ d os, (grow (redrawn w1 d) os).cell? ⟨w.heap.size, 4, none⟩ = some (.int .u64 q) := fun d os => cell_regrown (by go_simp) d os
    have k5 : ∀ d os, (grow (redrawn w1 d) os).cell? ⟨w.heap.size + 1, 0, none⟩ = some (.int .i64 a) := fun d os => cell_regrown (by go_simp) d os
    have k6 : ∀ d os, (grow (redrawn w1 d) os).cell? ⟨w.heap.size + 1, 1, none⟩ = some (.int .i64 b) := fun d os => cell_regrown (by go_simp) d os
    clear hb1 hc1 hf1 hz hR
    go_wp2_with fail
    refine wp_region_quiet_below (by kernel_rfl) (by kernel_rfl) ?_
    repeat (go_big_quiet_step (first
      | (go_at_call 38; exact Calls.regrown_of (hAp _))))
    refine wpQuiet_nil ?_
    intro _ hw'
    obtain ⟨⟨dq, osq⟩, hw''⟩ := hw'
    subst hw''
    go_wp2
    go_ret
    exact ⟨rfl, hB1.trans ((below_regrown w1 dq osq).mono hB1.size)⟩
  · rw [decide_eq_false heq] at hn
    rw [(unhide hP).2 heq]
    clear hP heq
    generalize Um.atK r t s k p = u at *
    generalize Um.atO r t s k p = v at *
    go_enter Try.func65, Try.ntmps65
    go_wp2_with fail
    refine (hR _).mono ?_
    rintro e w1 ⟨rfl, hb1⟩
    obtain ⟨hc1, hf1⟩ := bcell hb1
    have hB1 : Below w.heap.size w w1 := (((Below.refl w.heap.size w).alloc (Nat.le_refl _) _).alloc (by simp) _).trans (hb1.mono (by simp; omega))
    have k0 : ∀ d os, (grow (redrawn w1 d) os).cell? ⟨w.heap.size, 0, none⟩ = some (.int .i64 t) := fun d os => cell_regrown (by go_simp) d os
    have k1 : ∀ d os, (grow (redrawn w1 d) os).cell? ⟨w.heap.size, 1, none⟩ = some (.int .i64 s) := fun d os => cell_regrown (by go_simp) d os
    have k2 : ∀ d os, (grow (redrawn w1 d) os).cell? ⟨w.heap.size, 2, none⟩ = some (.int .i64 k) := fun d os => cell_regrown (by go_simp) d os
    have k3 : ∀ d os, (grow (redrawn w1 d) os).cell? ⟨w.heap.size, 3, none⟩ = some (.int .i64 g) := fun d os => cell_regrown (by go_simp) d os
    have k4 : ∀ d os, (grow (redrawn w1 d) os).cell? ⟨w.heap.size, 4, none⟩ = some (.int .u64 q) := fun d os => cell_regrown (by go_simp) d os
    have k5 : ∀ d os, (grow (redrawn w1 d) os).cell? ⟨w.heap.size + 1, 0, none⟩ = some (.int .i64 a) := fun d os => cell_regrown (by go_simp) d os
    have k6 : ∀ d os, (grow (redrawn w1 d) os).cell? ⟨w.heap.size + 1, 1, none⟩ = some (.int .i64 b) := fun d os => cell_regrown (by go_simp) d os
    clear hb1 hc1 hf1 hz hR
    go_wp2_with fail
    refine wp_region_quiet_below (by kernel_rfl) (by kernel_rfl) ?_
    repeat (go_big_quiet_step (first
      | (go_at_call 38; exact Calls.regrown_of (hAp _))))
    refine wpQuiet_nil ?_
    intro _ hw'
    obtain ⟨⟨dq, osq⟩, hw''⟩ := hw'
    subst hw''
    go_wp2
    go_ret
    exact ⟨rfl, hB1.trans ((below_regrown w1 dq osq).mono hB1.size)⟩

end Go.Proofs.Ytjicfonpldobdaa
