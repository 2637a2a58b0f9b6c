/-
  Texts that the laws stand on, merged (StoreU2, StoreU3, StoreU4).
-/
import Derived.Test.YtapgghciieloaaaGreatQ5

namespace Go.Proofs.YtapgghciieloaaaGreat
section
set_option maxRecDepth 100000
open Go.RowKit Go.Sort
set_option maxHeartbeats 2000000 in
theorem rTouch_2a (c : Um.Cf) (g off cap0 : Nat) (cnt : Int) (l : Um.Tch) (a b : Int) (o x p z : Nat) (ws : Nat → Nat) (w : World) (hp : c.cl a b = p) (hpn : p < c.n) (hv : IsWords w (.slice (some ⟨g, off, none⟩) c.n cap0) c.n ws) (hz : ws p = z) (hx : Um.Word x) (he : z = x) :
    Calls Tryz.prog 90 #[.agg #[.int .i64 c.t, .int .i64 c.s, .int .i64 c.k, .int .i64 c.g, .int .u64 c.q, .slice (some ⟨g, off, none⟩) c.n cap0, .int .i64 cnt, .int .i64 l.kind, .int .i64 l.a, .int .i64 l.b, .int .u64 l.old, .int .u64 l.new, .bool l.done], .int .i64 2, (.agg #[.int .i64 a, .int .i64 b]), .int .u64 (o : Nat), .int .u64 (x : Nat)] w fun e W' =>
      ∃ v', e = .returned (.tuple #[(.agg #[.int .i64 (c.t), .int .i64 (c.s), .int .i64 (c.k), .int .i64 (c.g), .int .u64 (c.q : Int), v', .int .i64 (Um.nextI cnt), .int .i64 2, .int .i64 a, .int .i64 b, .int .u64 (z : Nat), .int .u64 (z : Nat), .bool true]), (.agg #[.int .i64 2, .int .i64 a, .int .i64 b, .int .u64 (z : Nat), .int .u64 (z : Nat), .bool true])]) ∧ IsWords W' v' c.n (Um.putW ws p z) ∧ (v' = .slice (some ⟨g, off, none⟩) c.n cap0 ∨ RFresh w W' v' c.n (Um.putW ws p z)) ∧ Below w.heap.size w W' := by
  have HV := hide hv
  have hword : w.cell? ⟨g, off + p, none⟩ = some (.int .u64 (z : Nat)) := hz ▸ words_cell hv p hpn
  have hg : g < w.heap.size := words_lt hv (by omega)
  have HZ := hide hz
  have HX := hide hx
  clear hv hz hx
  subst he
  have hcl := fun w => rCell_any c.t c.s c.k c.g c.q a b w
  rw [show Um.cellN (Um.rt c.t c.s c.k c.g c.q) c.t c.s c.k a b = p from hp] at hcl
  clear hp
  go_enter Tryz.func90, Tryz.ntmps90
  go_wp2_with fail
  refine (hcl _).mono ?_
  rintro e W2 ⟨rfl, hb2⟩
  generalize hW1 : (((((w.alloc (.cells #[.int .i64 c.t, .int .i64 c.s, .int .i64 c.k, .int .i64 c.g, .int .u64 c.q, .slice (some ⟨g, off, none⟩) c.n cap0, .int .i64 cnt, .int .i64 l.kind, .int .i64 l.a, .int .i64 l.b, .int .u64 l.old, .int .u64 l.new, .bool l.done] 35)).alloc (.cells #[.int .i64 a, .int .i64 b] 31)).alloc (.cells #[.int .i64 0, .int .i64 0, .int .i64 0, .int .i64 0, .int .u64 0, .slice none 0 0, .int .i64 0, .int .i64 0, .int .i64 0, .int .i64 0, .int .u64 0, .int .u64 0, .bool false] 35)).alloc (.cells #[.int .i64 0, .int .i64 0, .int .i64 0, .int .u64 0, .int .u64 0, .bool false] 33)).alloc (.cells #[.int .i64 2, .int .i64 a, .int .i64 b, .int .u64 0, .int .u64 0, .bool false] 33)).alloc (.cells #[.int .i64 c.t, .int .i64 c.s, .int .i64 c.k, .int .i64 c.g, .int .u64 c.q, .slice (some ⟨g, off, none⟩) c.n cap0, .int .i64 (wrap64 (cnt + 1)), .int .i64 0, .int .i64 0, .int .i64 0, .int .u64 0, .int .u64 0, .bool false] 35) = W1 at hb2
  obtain ⟨hM1, hS1, hR1, hQ1, hT1, hO1, hB1, hsz1⟩ := alloc6_at w (.cells #[.int .i64 c.t, .int .i64 c.s, .int .i64 c.k, .int .i64 c.g, .int .u64 c.q, .slice (some ⟨g, off, none⟩) c.n cap0, .int .i64 cnt, .int .i64 l.kind, .int .i64 l.a, .int .i64 l.b, .int .u64 l.old, .int .u64 l.new, .bool l.done] 35) (.cells #[.int .i64 a, .int .i64 b] 31) (.cells #[.int .i64 0, .int .i64 0, .int .i64 0, .int .i64 0, .int .u64 0, .slice none 0 0, .int .i64 0, .int .i64 0, .int .i64 0, .int .i64 0, .int .u64 0, .int .u64 0, .bool false] 35) (.cells #[.int .i64 0, .int .i64 0, .int .i64 0, .int .u64 0, .int .u64 0, .bool false] 33) (.cells #[.int .i64 2, .int .i64 a, .int .i64 b, .int .u64 0, .int .u64 0, .bool false] 33) (.cells #[.int .i64 c.t, .int .i64 c.s, .int .i64 c.k, .int .i64 c.g, .int .u64 c.q, .slice (some ⟨g, off, none⟩) c.n cap0, .int .i64 (wrap64 (cnt + 1)), .int .i64 0, .int .i64 0, .int .i64 0, .int .u64 0, .int .u64 0, .bool false] 35) hW1
  have MB := hide ((blkAt_new hM1).below hb2)
  have SB := hide ((blkAt_new hS1).below hb2)
  have RB := hide ((blkAt_new hR1).below hb2)
  have QB := hide ((blkAt_new hQ1).below hb2)
  have TB := hide ((blkAt_new hT1).below hb2)
  have OB := hide ((blkAt_new hO1).below hb2)
  have hB2 := hB1.trans (hb2.mono hB1.size)
  have hm0 : w.heap.size ≤ w.heap.size := Nat.le_refl _
  have hr0 : w.heap.size ≤ w.heap.size + 1 + 1 := by omega
  have hq0 : w.heap.size ≤ w.heap.size + 1 + 1 + 1 := by omega
  have ht0 : w.heap.size ≤ w.heap.size + 1 + 1 + 1 + 1 := by omega
  have ho0 : w.heap.size ≤ w.heap.size + 1 + 1 + 1 + 1 + 1 := by omega
  have nOT : w.heap.size + 1 + 1 + 1 + 1 + 1 ≠ w.heap.size + 1 + 1 + 1 + 1 := by omega
  have nOQ : w.heap.size + 1 + 1 + 1 + 1 + 1 ≠ w.heap.size + 1 + 1 + 1 := by omega
  have nOR : w.heap.size + 1 + 1 + 1 + 1 + 1 ≠ w.heap.size + 1 + 1 := by omega
  have nTQ : w.heap.size + 1 + 1 + 1 + 1 ≠ w.heap.size + 1 + 1 + 1 := by omega
  have nTR : w.heap.size + 1 + 1 + 1 + 1 ≠ w.heap.size + 1 + 1 := by omega
  have nQR : w.heap.size + 1 + 1 + 1 ≠ w.heap.size + 1 + 1 := by omega
  have nTM : w.heap.size + 1 + 1 + 1 + 1 ≠ w.heap.size := by omega
  have nOM : w.heap.size + 1 + 1 + 1 + 1 + 1 ≠ w.heap.size := by omega
  clear hb2 hW1 hM1 hS1 hR1 hQ1 hT1 hO1 hB1 hsz1 hcl
  generalize w.heap.size + 1 + 1 + 1 + 1 + 1 = O at *
  generalize w.heap.size + 1 + 1 + 1 + 1 = T at *
  generalize w.heap.size + 1 + 1 + 1 = Q at *
  generalize w.heap.size + 1 + 1 = R at *
  have hw2 := (hB2.cell (p := ⟨g, off + p, none⟩) hg).trans hword
  have m5 := (unhide MB).cell 5 _ rfl
  have hpi : (p : Int) < (c.n : Int) := by omega
  clear hword
  have t0 := (unhide TB).cell 0 _ rfl
  have tz0 := (unhide TB).fz 0
  have t1 := (unhide TB).cell 1 _ rfl
  have tz1 := (unhide TB).fz 1
  have t2 := (unhide TB).cell 2 _ rfl
  have tz2 := (unhide TB).fz 2
  have t3 := (unhide TB).cell 3 _ rfl
  have tz3 := (unhide TB).fz 3
  have t4 := (unhide TB).cell 4 _ rfl
  have tz4 := (unhide TB).fz 4
  have t5 := (unhide TB).cell 5 _ rfl
  have tz5 := (unhide TB).fz 5
  have o0 := (unhide OB).cell 0 _ rfl
  have oz0 := (unhide OB).fz 0
  have o1 := (unhide OB).cell 1 _ rfl
  have oz1 := (unhide OB).fz 1
  have o2 := (unhide OB).cell 2 _ rfl
  have oz2 := (unhide OB).fz 2
  have o3 := (unhide OB).cell 3 _ rfl
  have oz3 := (unhide OB).fz 3
  have o4 := (unhide OB).cell 4 _ rfl
  have oz4 := (unhide OB).fz 4
  have o5 := (unhide OB).cell 5 _ rfl
  have oz5 := (unhide OB).fz 5
  have o6 := (unhide OB).cell 6 _ rfl
  have oz6 := (unhide OB).fz 6
  have o7 := (unhide OB).cell 7 _ rfl
  have oz7 := (unhide OB).fz 7
  have o8 := (unhide OB).cell 8 _ rfl
  have oz8 := (unhide OB).fz 8
  have o9 := (unhide OB).cell 9 _ rfl
  have oz9 := (unhide OB).fz 9
  have o10 := (unhide OB).cell 10 _ rfl
  have oz10 := (unhide OB).fz 10
  have o11 := (unhide OB).cell 11 _ rfl
  have oz11 := (unhide OB).fz 11
  have o12 := (unhide OB).cell 12 _ rfl
  have oz12 := (unhide OB).fz 12
  have hx4 : ((((W2.setCell ⟨T, 3, none⟩ (.int .u64 (z : Nat))).setCell ⟨T, 4, none⟩ (.int .u64 (z : Nat))).setCell ⟨T, 5, none⟩ (.bool true)).setCell ⟨T, 4, none⟩ (.int .u64 (z : Nat))).cell? ⟨T, 4, none⟩ = some (.int .u64 (z : Nat)) := (((((unhide TB).put 3 (.int .u64 (z : Nat))).put 4 (.int .u64 (z : Nat))).put 5 (.bool true)).put 4 (.int .u64 (z : Nat))).cell 4 _ rfl
  go_wp2_with fail
  have OB2 := (((((((((((unhide OB).set (p := ⟨T, 3, none⟩) (u := .int .u64 (z : Nat)) (Ne.symm nOT)).set (p := ⟨T, 4, none⟩) (u := .int .u64 (z : Nat)) (Ne.symm nOT)).set (p := ⟨T, 5, none⟩) (u := .bool true) (Ne.symm nOT)).set (p := ⟨T, 4, none⟩) (u := .int .u64 (z : Nat)) (Ne.symm nOT)).put 7 (.int .i64 2)).put 8 (.int .i64 a)).put 9 (.int .i64 b)).put 10 (.int .u64 (z : Nat))).put 11 (.int .u64 (z : Nat))).put 12 (.bool true))
  have TB2 := (((((((((((unhide TB).put 3 (.int .u64 (z : Nat))).put 4 (.int .u64 (z : Nat))).put 5 (.bool true)).put 4 (.int .u64 (z : Nat))).set (p := ⟨O, 7, none⟩) (u := .int .i64 2) nOT).set (p := ⟨O, 8, none⟩) (u := .int .i64 a) nOT).set (p := ⟨O, 9, none⟩) (u := .int .i64 b) nOT).set (p := ⟨O, 10, none⟩) (u := .int .u64 (z : Nat)) nOT).set (p := ⟨O, 11, none⟩) (u := .int .u64 (z : Nat)) nOT).set (p := ⟨O, 12, none⟩) (u := .bool true) nOT)
  have RB2 := (((((((((((unhide RB).set (p := ⟨T, 3, none⟩) (u := .int .u64 (z : Nat)) nTR).set (p := ⟨T, 4, none⟩) (u := .int .u64 (z : Nat)) nTR).set (p := ⟨T, 5, none⟩) (u := .bool true) nTR).set (p := ⟨T, 4, none⟩) (u := .int .u64 (z : Nat)) nTR).set (p := ⟨O, 7, none⟩) (u := .int .i64 2) nOR).set (p := ⟨O, 8, none⟩) (u := .int .i64 a) nOR).set (p := ⟨O, 9, none⟩) (u := .int .i64 b) nOR).set (p := ⟨O, 10, none⟩) (u := .int .u64 (z : Nat)) nOR).set (p := ⟨O, 11, none⟩) (u := .int .u64 (z : Nat)) nOR).set (p := ⟨O, 12, none⟩) (u := .bool true) nOR)
  have QB2 := (((((((((((unhide QB).set (p := ⟨T, 3, none⟩) (u := .int .u64 (z : Nat)) nTQ).set (p := ⟨T, 4, none⟩) (u := .int .u64 (z : Nat)) nTQ).set (p := ⟨T, 5, none⟩) (u := .bool true) nTQ).set (p := ⟨T, 4, none⟩) (u := .int .u64 (z : Nat)) nTQ).set (p := ⟨O, 7, none⟩) (u := .int .i64 2) nOQ).set (p := ⟨O, 8, none⟩) (u := .int .i64 a) nOQ).set (p := ⟨O, 9, none⟩) (u := .int .i64 b) nOQ).set (p := ⟨O, 10, none⟩) (u := .int .u64 (z : Nat)) nOQ).set (p := ⟨O, 11, none⟩) (u := .int .u64 (z : Nat)) nOQ).set (p := ⟨O, 12, none⟩) (u := .bool true) nOQ)
  have hB3 := ((((((((((hB2.setCell (p := ⟨T, 3, none⟩) ht0 (.int .u64 (z : Nat))).setCell (p := ⟨T, 4, none⟩) ht0 (.int .u64 (z : Nat))).setCell (p := ⟨T, 5, none⟩) ht0 (.bool true)).setCell (p := ⟨T, 4, none⟩) ht0 (.int .u64 (z : Nat))).setCell (p := ⟨O, 7, none⟩) ho0 (.int .i64 2)).setCell (p := ⟨O, 8, none⟩) ho0 (.int .i64 a)).setCell (p := ⟨O, 9, none⟩) ho0 (.int .i64 b)).setCell (p := ⟨O, 10, none⟩) ho0 (.int .u64 (z : Nat))).setCell (p := ⟨O, 11, none⟩) ho0 (.int .u64 (z : Nat))).setCell (p := ⟨O, 12, none⟩) ho0 (.bool true))
  simp only [List.set] at OB2 TB2
  clear t0 tz0 t1 tz1 t2 tz2 t3 tz3 t4 tz4 t5 tz5 o0 oz0 o1 oz1 o2 oz2 o3 oz3 o4 oz4 o5 oz5 o6 oz6 o7 oz7 o8 oz8 o9 oz9 o10 oz10 o11 oz11 o12 oz12 OB TB RB QB hB2
  generalize (((((((((W2.setCell ⟨T, 3, none⟩ (.int .u64 (z : Nat))).setCell ⟨T, 4, none⟩ (.int .u64 (z : Nat))).setCell ⟨T, 5, none⟩ (.bool true)).setCell ⟨T, 4, none⟩ (.int .u64 (z : Nat))).setCell ⟨O, 7, none⟩ (.int .i64 2)).setCell ⟨O, 8, none⟩ (.int .i64 a)).setCell ⟨O, 9, none⟩ (.int .i64 b)).setCell ⟨O, 10, none⟩ (.int .u64 (z : Nat))).setCell ⟨O, 11, none⟩ (.int .u64 (z : Nat))).setCell ⟨O, 12, none⟩ (.bool true) = X at *
  have OB := hide OB2
  have TB := hide TB2
  have RB := hide RB2
  have QB := hide QB2
  clear OB2 TB2 RB2 QB2
  have t0 := (unhide TB).cell 0 _ rfl
  have t1 := (unhide TB).cell 1 _ rfl
  have t2 := (unhide TB).cell 2 _ rfl
  have t3 := (unhide TB).cell 3 _ rfl
  have t4 := (unhide TB).cell 4 _ rfl
  have t5 := (unhide TB).cell 5 _ rfl
  have o0 := (unhide OB).cell 0 _ rfl
  have o1 := (unhide OB).cell 1 _ rfl
  have o2 := (unhide OB).cell 2 _ rfl
  have o3 := (unhide OB).cell 3 _ rfl
  have o4 := (unhide OB).cell 4 _ rfl
  have o5 := (unhide OB).cell 5 _ rfl
  have o6 := (unhide OB).cell 6 _ rfl
  have o7 := (unhide OB).cell 7 _ rfl
  have o8 := (unhide OB).cell 8 _ rfl
  have o9 := (unhide OB).cell 9 _ rfl
  have o10 := (unhide OB).cell 10 _ rfl
  have o11 := (unhide OB).cell 11 _ rfl
  have o12 := (unhide OB).cell 12 _ rfl
  have r0 := (unhide RB).cell 0 _ rfl
  have rz0 := (unhide RB).fz 0
  have r1 := (unhide RB).cell 1 _ rfl
  have rz1 := (unhide RB).fz 1
  have r2 := (unhide RB).cell 2 _ rfl
  have rz2 := (unhide RB).fz 2
  have r3 := (unhide RB).cell 3 _ rfl
  have rz3 := (unhide RB).fz 3
  have r4 := (unhide RB).cell 4 _ rfl
  have rz4 := (unhide RB).fz 4
  have r5 := (unhide RB).cell 5 _ rfl
  have rz5 := (unhide RB).fz 5
  have r6 := (unhide RB).cell 6 _ rfl
  have rz6 := (unhide RB).fz 6
  have r7 := (unhide RB).cell 7 _ rfl
  have rz7 := (unhide RB).fz 7
  have r8 := (unhide RB).cell 8 _ rfl
  have rz8 := (unhide RB).fz 8
  have r9 := (unhide RB).cell 9 _ rfl
  have rz9 := (unhide RB).fz 9
  have r10 := (unhide RB).cell 10 _ rfl
  have rz10 := (unhide RB).fz 10
  have r11 := (unhide RB).cell 11 _ rfl
  have rz11 := (unhide RB).fz 11
  have r12 := (unhide RB).cell 12 _ rfl
  have rz12 := (unhide RB).fz 12
  have q0 := (unhide QB).cell 0 _ rfl
  have qz0 := (unhide QB).fz 0
  have q1 := (unhide QB).cell 1 _ rfl
  have qz1 := (unhide QB).fz 1
  have q2 := (unhide QB).cell 2 _ rfl
  have qz2 := (unhide QB).fz 2
  have q3 := (unhide QB).cell 3 _ rfl
  have qz3 := (unhide QB).fz 3
  have q4 := (unhide QB).cell 4 _ rfl
  have qz4 := (unhide QB).fz 4
  have q5 := (unhide QB).cell 5 _ rfl
  have qz5 := (unhide QB).fz 5
  go_region
  all_goals
    have RB2 := (((((((((((((((((((((unhide RB).put 0 (.int .i64 c.t)).put 1 (.int .i64 c.s)).put 2 (.int .i64 c.k)).put 3 (.int .i64 c.g)).put 4 (.int .u64 c.q)).put 5 (.slice (some ⟨g, off, none⟩) c.n cap0)).put 6 (.int .i64 (wrap64 (cnt + 1)))).put 7 (.int .i64 2)).put 8 (.int .i64 a)).put 9 (.int .i64 b)).put 10 (.int .u64 (z : Nat))).put 11 (.int .u64 (z : Nat))).put 12 (.bool true)).set (p := ⟨Q, 0, none⟩) (u := .int .i64 2) nQR).set (p := ⟨Q, 1, none⟩) (u := .int .i64 a) nQR).set (p := ⟨Q, 2, none⟩) (u := .int .i64 b) nQR).set (p := ⟨Q, 3, none⟩) (u := .int .u64 (z : Nat)) nQR).set (p := ⟨Q, 4, none⟩) (u := .int .u64 (z : Nat)) nQR).set (p := ⟨Q, 5, none⟩) (u := .bool true) nQR)).drew
    have QB2 := (((((((((((((((((((((unhide QB).set (p := ⟨R, 0, none⟩) (u := .int .i64 c.t) (Ne.symm nQR)).set (p := ⟨R, 1, none⟩) (u := .int .i64 c.s) (Ne.symm nQR)).set (p := ⟨R, 2, none⟩) (u := .int .i64 c.k) (Ne.symm nQR)).set (p := ⟨R, 3, none⟩) (u := .int .i64 c.g) (Ne.symm nQR)).set (p := ⟨R, 4, none⟩) (u := .int .u64 c.q) (Ne.symm nQR)).set (p := ⟨R, 5, none⟩) (u := .slice (some ⟨g, off, none⟩) c.n cap0) (Ne.symm nQR)).set (p := ⟨R, 6, none⟩) (u := .int .i64 (wrap64 (cnt + 1))) (Ne.symm nQR)).set (p := ⟨R, 7, none⟩) (u := .int .i64 2) (Ne.symm nQR)).set (p := ⟨R, 8, none⟩) (u := .int .i64 a) (Ne.symm nQR)).set (p := ⟨R, 9, none⟩) (u := .int .i64 b) (Ne.symm nQR)).set (p := ⟨R, 10, none⟩) (u := .int .u64 (z : Nat)) (Ne.symm nQR)).set (p := ⟨R, 11, none⟩) (u := .int .u64 (z : Nat)) (Ne.symm nQR)).set (p := ⟨R, 12, none⟩) (u := .bool true) (Ne.symm nQR)).put 0 (.int .i64 2)).put 1 (.int .i64 a)).put 2 (.int .i64 b)).put 3 (.int .u64 (z : Nat))).put 4 (.int .u64 (z : Nat))).put 5 (.bool true))).drew
    have hB4 := ((((((((((((((((((((hB3.setCell (p := ⟨R, 0, none⟩) hr0 (.int .i64 c.t)).setCell (p := ⟨R, 1, none⟩) hr0 (.int .i64 c.s)).setCell (p := ⟨R, 2, none⟩) hr0 (.int .i64 c.k)).setCell (p := ⟨R, 3, none⟩) hr0 (.int .i64 c.g)).setCell (p := ⟨R, 4, none⟩) hr0 (.int .u64 c.q)).setCell (p := ⟨R, 5, none⟩) hr0 (.slice (some ⟨g, off, none⟩) c.n cap0)).setCell (p := ⟨R, 6, none⟩) hr0 (.int .i64 (wrap64 (cnt + 1)))).setCell (p := ⟨R, 7, none⟩) hr0 (.int .i64 2)).setCell (p := ⟨R, 8, none⟩) hr0 (.int .i64 a)).setCell (p := ⟨R, 9, none⟩) hr0 (.int .i64 b)).setCell (p := ⟨R, 10, none⟩) hr0 (.int .u64 (z : Nat))).setCell (p := ⟨R, 11, none⟩) hr0 (.int .u64 (z : Nat))).setCell (p := ⟨R, 12, none⟩) hr0 (.bool true)).setCell (p := ⟨Q, 0, none⟩) hq0 (.int .i64 2)).setCell (p := ⟨Q, 1, none⟩) hq0 (.int .i64 a)).setCell (p := ⟨Q, 2, none⟩) hq0 (.int .i64 b)).setCell (p := ⟨Q, 3, none⟩) hq0 (.int .u64 (z : Nat))).setCell (p := ⟨Q, 4, none⟩) hq0 (.int .u64 (z : Nat))).setCell (p := ⟨Q, 5, none⟩) hq0 (.bool true))).drew
    simp only [List.set] at RB2 QB2
    have RH := hide RB2
    have QH := hide QB2
    have HB4 := hide hB4
    clear RB2 QB2 hB4 t0 t1 t2 t3 t4 t5 o0 o1 o2 o3 o4 o5 o6 o7 o8 o9 o10 o11 o12 r0 rz0 r1 rz1 r2 rz2 r3 rz3 r4 rz4 r5 rz5 r6 rz6 r7 rz7 r8 rz8 r9 rz9 r10 rz10 r11 rz11 r12 rz12 q0 qz0 q1 qz1 q2 qz2 q3 qz3 q4 qz4 q5 qz5
    go_wp2
    have RB2 := unhide RH
    have QB2 := unhide QH
    have hB4 := unhide HB4
    generalize World.drew _ = Wf at RB2 QB2 hB4 ⊢
    refine bodyPost_ret (v := .tuple #[.agg #[.int .i64 c.t, .int .i64 c.s, .int .i64 c.k, .int .i64 c.g, .int .u64 c.q, .slice (some ⟨g, off, none⟩) c.n cap0, .int .i64 (wrap64 (cnt + 1)), .int .i64 2, .int .i64 a, .int .i64 b, .int .u64 (z : Nat), .int .u64 (z : Nat), .bool true], .agg #[.int .i64 2, .int .i64 a, .int .i64 b, .int .u64 (z : Nat), .int .u64 (z : Nat), .bool true]]) (by simp [results, Tryz.results90, go_sem, RB2.cell 0 _ rfl, RB2.cell 1 _ rfl, RB2.cell 2 _ rfl, RB2.cell 3 _ rfl, RB2.cell 4 _ rfl, RB2.cell 5 _ rfl, RB2.cell 6 _ rfl, RB2.cell 7 _ rfl, RB2.cell 8 _ rfl, RB2.cell 9 _ rfl, RB2.cell 10 _ rfl, RB2.cell 11 _ rfl, RB2.cell 12 _ rfl, QB2.cell 0 _ rfl, QB2.cell 1 _ rfl, QB2.cell 2 _ rfl, QB2.cell 3 _ rfl, QB2.cell 4 _ rfl, QB2.cell 5 _ rfl]) rfl ?_
    refine ⟨.slice (some ⟨g, off, none⟩) c.n cap0, by rw [next_eq], ?_, .inl rfl, hB4⟩
    rw [Um.putW_id (by rw [unhide HZ])]
    exact ((unhide HV).low.below hB4).is hB4.size
end
section
set_option maxRecDepth 100000
open Go.RowKit Go.Sort
set_option maxHeartbeats 2000000 in
theorem rTouch_3a (c : Um.Cf) (g off cap0 : Nat) (cnt : Int) (l : Um.Tch) (a b : Int) (o x p z : Nat) (ws : Nat → Nat) (w : World) (hp : c.cl a b = p) (hpn : p < c.n) (hv : IsWords w (.slice (some ⟨g, off, none⟩) c.n cap0) c.n ws) (hz : ws p = z) (hx : Um.Word x) (he : ((z : Int) == (o : Int)) = false) :
    Calls Tryz.prog 90 #[.agg #[.int .i64 c.t, .int .i64 c.s, .int .i64 c.k, .int .i64 c.g, .int .u64 c.q, .slice (some ⟨g, off, none⟩) c.n cap0, .int .i64 cnt, .int .i64 l.kind, .int .i64 l.a, .int .i64 l.b, .int .u64 l.old, .int .u64 l.new, .bool l.done], .int .i64 3, (.agg #[.int .i64 a, .int .i64 b]), .int .u64 (o : Nat), .int .u64 (x : Nat)] w fun e W' =>
      ∃ v', e = .returned (.tuple #[(.agg #[.int .i64 (c.t), .int .i64 (c.s), .int .i64 (c.k), .int .i64 (c.g), .int .u64 (c.q : Int), v', .int .i64 (Um.nextI cnt), .int .i64 3, .int .i64 a, .int .i64 b, .int .u64 (z : Nat), .int .u64 (z : Nat), .bool false]), (.agg #[.int .i64 3, .int .i64 a, .int .i64 b, .int .u64 (z : Nat), .int .u64 (z : Nat), .bool false])]) ∧ IsWords W' v' c.n (Um.putW ws p z) ∧ (v' = .slice (some ⟨g, off, none⟩) c.n cap0 ∨ RFresh w W' v' c.n (Um.putW ws p z)) ∧ Below w.heap.size w W' := by
  have HV := hide hv
  have hword : w.cell? ⟨g, off + p, none⟩ = some (.int .u64 (z : Nat)) := hz ▸ words_cell hv p hpn
  have hg : g < w.heap.size := words_lt hv (by omega)
  have HZ := hide hz
  have HX := hide hx
  clear hv hz hx
  have hcl := fun w => rCell_any c.t c.s c.k c.g c.q a b w
  rw [show Um.cellN (Um.rt c.t c.s c.k c.g c.q) c.t c.s c.k a b = p from hp] at hcl
  clear hp
  go_enter Tryz.func90, Tryz.ntmps90
  go_wp2_with fail
  refine (hcl _).mono ?_
  rintro e W2 ⟨rfl, hb2⟩
  generalize hW1 : (((((w.alloc (.cells #[.int .i64 c.t, .int .i64 c.s, .int .i64 c.k, .int .i64 c.g, .int .u64 c.q, .slice (some ⟨g, off, none⟩) c.n cap0, .int .i64 cnt, .int .i64 l.kind, .int .i64 l.a, .int .i64 l.b, .int .u64 l.old, .int .u64 l.new, .bool l.done] 35)).alloc (.cells #[.int .i64 a, .int .i64 b] 31)).alloc (.cells #[.int .i64 0, .int .i64 0, .int .i64 0, .int .i64 0, .int .u64 0, .slice none 0 0, .int .i64 0, .int .i64 0, .int .i64 0, .int .i64 0, .int .u64 0, .int .u64 0, .bool false] 35)).alloc (.cells #[.int .i64 0, .int .i64 0, .int .i64 0, .int .u64 0, .int .u64 0, .bool false] 33)).alloc (.cells #[.int .i64 3, .int .i64 a, .int .i64 b, .int .u64 0, .int .u64 0, .bool false] 33)).alloc (.cells #[.int .i64 c.t, .int .i64 c.s, .int .i64 c.k, .int .i64 c.g, .int .u64 c.q, .slice (some ⟨g, off, none⟩) c.n cap0, .int .i64 (wrap64 (cnt + 1)), .int .i64 0, .int .i64 0, .int .i64 0, .int .u64 0, .int .u64 0, .bool false] 35) = W1 at hb2
  obtain ⟨hM1, hS1, hR1, hQ1, hT1, hO1, hB1, hsz1⟩ := alloc6_at w (.cells #[.int .i64 c.t, .int .i64 c.s, .int .i64 c.k, .int .i64 c.g, .int .u64 c.q, .slice (some ⟨g, off, none⟩) c.n cap0, .int .i64 cnt, .int .i64 l.kind, .int .i64 l.a, .int .i64 l.b, .int .u64 l.old, .int .u64 l.new, .bool l.done] 35) (.cells #[.int .i64 a, .int .i64 b] 31) (.cells #[.int .i64 0, .int .i64 0, .int .i64 0, .int .i64 0, .int .u64 0, .slice none 0 0, .int .i64 0, .int .i64 0, .int .i64 0, .int .i64 0, .int .u64 0, .int .u64 0, .bool false] 35) (.cells #[.int .i64 0, .int .i64 0, .int .i64 0, .int .u64 0, .int .u64 0, .bool false] 33) (.cells #[.int .i64 3, .int .i64 a, .int .i64 b, .int .u64 0, .int .u64 0, .bool false] 33) (.cells #[.int .i64 c.t, .int .i64 c.s, .int .i64 c.k, .int .i64 c.g, .int .u64 c.q, .slice (some ⟨g, off, none⟩) c.n cap0, .int .i64 (wrap64 (cnt + 1)), .int .i64 0, .int .i64 0, .int .i64 0, .int .u64 0, .int .u64 0, .bool false] 35) hW1
  have MB := hide ((blkAt_new hM1).below hb2)
  have SB := hide ((blkAt_new hS1).below hb2)
  have RB := hide ((blkAt_new hR1).below hb2)
  have QB := hide ((blkAt_new hQ1).below hb2)
  have TB := hide ((blkAt_new hT1).below hb2)
  have OB := hide ((blkAt_new hO1).below hb2)
  have hB2 := hB1.trans (hb2.mono hB1.size)
  have hm0 : w.heap.size ≤ w.heap.size := Nat.le_refl _
  have hr0 : w.heap.size ≤ w.heap.size + 1 + 1 := by omega
  have hq0 : w.heap.size ≤ w.heap.size + 1 + 1 + 1 := by omega
  have ht0 : w.heap.size ≤ w.heap.size + 1 + 1 + 1 + 1 := by omega
  have ho0 : w.heap.size ≤ w.heap.size + 1 + 1 + 1 + 1 + 1 := by omega
  have nOT : w.heap.size + 1 + 1 + 1 + 1 + 1 ≠ w.heap.size + 1 + 1 + 1 + 1 := by omega
  have nOQ : w.heap.size + 1 + 1 + 1 + 1 + 1 ≠ w.heap.size + 1 + 1 + 1 := by omega
  have nOR : w.heap.size + 1 + 1 + 1 + 1 + 1 ≠ w.heap.size + 1 + 1 := by omega
  have nTQ : w.heap.size + 1 + 1 + 1 + 1 ≠ w.heap.size + 1 + 1 + 1 := by omega
  have nTR : w.heap.size + 1 + 1 + 1 + 1 ≠ w.heap.size + 1 + 1 := by omega
  have nQR : w.heap.size + 1 + 1 + 1 ≠ w.heap.size + 1 + 1 := by omega
  have nTM : w.heap.size + 1 + 1 + 1 + 1 ≠ w.heap.size := by omega
  have nOM : w.heap.size + 1 + 1 + 1 + 1 + 1 ≠ w.heap.size := by omega
  clear hb2 hW1 hM1 hS1 hR1 hQ1 hT1 hO1 hB1 hsz1 hcl
  generalize w.heap.size + 1 + 1 + 1 + 1 + 1 = O at *
  generalize w.heap.size + 1 + 1 + 1 + 1 = T at *
  generalize w.heap.size + 1 + 1 + 1 = Q at *
  generalize w.heap.size + 1 + 1 = R at *
  have hw2 := (hB2.cell (p := ⟨g, off + p, none⟩) hg).trans hword
  have m5 := (unhide MB).cell 5 _ rfl
  have hpi : (p : Int) < (c.n : Int) := by omega
  clear hword
  have t0 := (unhide TB).cell 0 _ rfl
  have tz0 := (unhide TB).fz 0
  have t1 := (unhide TB).cell 1 _ rfl
  have tz1 := (unhide TB).fz 1
  have t2 := (unhide TB).cell 2 _ rfl
  have tz2 := (unhide TB).fz 2
  have t3 := (unhide TB).cell 3 _ rfl
  have tz3 := (unhide TB).fz 3
  have t4 := (unhide TB).cell 4 _ rfl
  have tz4 := (unhide TB).fz 4
  have t5 := (unhide TB).cell 5 _ rfl
  have tz5 := (unhide TB).fz 5
  have o0 := (unhide OB).cell 0 _ rfl
  have oz0 := (unhide OB).fz 0
  have o1 := (unhide OB).cell 1 _ rfl
  have oz1 := (unhide OB).fz 1
  have o2 := (unhide OB).cell 2 _ rfl
  have oz2 := (unhide OB).fz 2
  have o3 := (unhide OB).cell 3 _ rfl
  have oz3 := (unhide OB).fz 3
  have o4 := (unhide OB).cell 4 _ rfl
  have oz4 := (unhide OB).fz 4
  have o5 := (unhide OB).cell 5 _ rfl
  have oz5 := (unhide OB).fz 5
  have o6 := (unhide OB).cell 6 _ rfl
  have oz6 := (unhide OB).fz 6
  have o7 := (unhide OB).cell 7 _ rfl
  have oz7 := (unhide OB).fz 7
  have o8 := (unhide OB).cell 8 _ rfl
  have oz8 := (unhide OB).fz 8
  have o9 := (unhide OB).cell 9 _ rfl
  have oz9 := (unhide OB).fz 9
  have o10 := (unhide OB).cell 10 _ rfl
  have oz10 := (unhide OB).fz 10
  have o11 := (unhide OB).cell 11 _ rfl
  have oz11 := (unhide OB).fz 11
  have o12 := (unhide OB).cell 12 _ rfl
  have oz12 := (unhide OB).fz 12
  go_wp2_with fail
  have OB2 := ((((((((((unhide OB).set (p := ⟨T, 3, none⟩) (u := .int .u64 (z : Nat)) (Ne.symm nOT)).set (p := ⟨T, 4, none⟩) (u := .int .u64 (z : Nat)) (Ne.symm nOT)).set (p := ⟨T, 5, none⟩) (u := .bool false) (Ne.symm nOT)).put 7 (.int .i64 3)).put 8 (.int .i64 a)).put 9 (.int .i64 b)).put 10 (.int .u64 (z : Nat))).put 11 (.int .u64 (z : Nat))).put 12 (.bool false))
  have TB2 := ((((((((((unhide TB).put 3 (.int .u64 (z : Nat))).put 4 (.int .u64 (z : Nat))).put 5 (.bool false)).set (p := ⟨O, 7, none⟩) (u := .int .i64 3) nOT).set (p := ⟨O, 8, none⟩) (u := .int .i64 a) nOT).set (p := ⟨O, 9, none⟩) (u := .int .i64 b) nOT).set (p := ⟨O, 10, none⟩) (u := .int .u64 (z : Nat)) nOT).set (p := ⟨O, 11, none⟩) (u := .int .u64 (z : Nat)) nOT).set (p := ⟨O, 12, none⟩) (u := .bool false) nOT)
  have RB2 := ((((((((((unhide RB).set (p := ⟨T, 3, none⟩) (u := .int .u64 (z : Nat)) nTR).set (p := ⟨T, 4, none⟩) (u := .int .u64 (z : Nat)) nTR).set (p := ⟨T, 5, none⟩) (u := .bool false) nTR).set (p := ⟨O, 7, none⟩) (u := .int .i64 3) nOR).set (p := ⟨O, 8, none⟩) (u := .int .i64 a) nOR).set (p := ⟨O, 9, none⟩) (u := .int .i64 b) nOR).set (p := ⟨O, 10, none⟩) (u := .int .u64 (z : Nat)) nOR).set (p := ⟨O, 11, none⟩) (u := .int .u64 (z : Nat)) nOR).set (p := ⟨O, 12, none⟩) (u := .bool false) nOR)
  have QB2 := ((((((((((unhide QB).set (p := ⟨T, 3, none⟩) (u := .int .u64 (z : Nat)) nTQ).set (p := ⟨T, 4, none⟩) (u := .int .u64 (z : Nat)) nTQ).set (p := ⟨T, 5, none⟩) (u := .bool false) nTQ).set (p := ⟨O, 7, none⟩) (u := .int .i64 3) nOQ).set (p := ⟨O, 8, none⟩) (u := .int .i64 a) nOQ).set (p := ⟨O, 9, none⟩) (u := .int .i64 b) nOQ).set (p := ⟨O, 10, none⟩) (u := .int .u64 (z : Nat)) nOQ).set (p := ⟨O, 11, none⟩) (u := .int .u64 (z : Nat)) nOQ).set (p := ⟨O, 12, none⟩) (u := .bool false) nOQ)
  have hB3 := (((((((((hB2.setCell (p := ⟨T, 3, none⟩) ht0 (.int .u64 (z : Nat))).setCell (p := ⟨T, 4, none⟩) ht0 (.int .u64 (z : Nat))).setCell (p := ⟨T, 5, none⟩) ht0 (.bool false)).setCell (p := ⟨O, 7, none⟩) ho0 (.int .i64 3)).setCell (p := ⟨O, 8, none⟩) ho0 (.int .i64 a)).setCell (p := ⟨O, 9, none⟩) ho0 (.int .i64 b)).setCell (p := ⟨O, 10, none⟩) ho0 (.int .u64 (z : Nat))).setCell (p := ⟨O, 11, none⟩) ho0 (.int .u64 (z : Nat))).setCell (p := ⟨O, 12, none⟩) ho0 (.bool false))
  simp only [List.set] at OB2 TB2
  clear t0 tz0 t1 tz1 t2 tz2 t3 tz3 t4 tz4 t5 tz5 o0 oz0 o1 oz1 o2 oz2 o3 oz3 o4 oz4 o5 oz5 o6 oz6 o7 oz7 o8 oz8 o9 oz9 o10 oz10 o11 oz11 o12 oz12 OB TB RB QB hB2
  generalize ((((((((W2.setCell ⟨T, 3, none⟩ (.int .u64 (z : Nat))).setCell ⟨T, 4, none⟩ (.int .u64 (z : Nat))).setCell ⟨T, 5, none⟩ (.bool false)).setCell ⟨O, 7, none⟩ (.int .i64 3)).setCell ⟨O, 8, none⟩ (.int .i64 a)).setCell ⟨O, 9, none⟩ (.int .i64 b)).setCell ⟨O, 10, none⟩ (.int .u64 (z : Nat))).setCell ⟨O, 11, none⟩ (.int .u64 (z : Nat))).setCell ⟨O, 12, none⟩ (.bool false) = X at *
  have OB := hide OB2
  have TB := hide TB2
  have RB := hide RB2
  have QB := hide QB2
  clear OB2 TB2 RB2 QB2
  have t0 := (unhide TB).cell 0 _ rfl
  have t1 := (unhide TB).cell 1 _ rfl
  have t2 := (unhide TB).cell 2 _ rfl
  have t3 := (unhide TB).cell 3 _ rfl
  have t4 := (unhide TB).cell 4 _ rfl
  have t5 := (unhide TB).cell 5 _ rfl
  have o0 := (unhide OB).cell 0 _ rfl
  have o1 := (unhide OB).cell 1 _ rfl
  have o2 := (unhide OB).cell 2 _ rfl
  have o3 := (unhide OB).cell 3 _ rfl
  have o4 := (unhide OB).cell 4 _ rfl
  have o5 := (unhide OB).cell 5 _ rfl
  have o6 := (unhide OB).cell 6 _ rfl
  have o7 := (unhide OB).cell 7 _ rfl
  have o8 := (unhide OB).cell 8 _ rfl
  have o9 := (unhide OB).cell 9 _ rfl
  have o10 := (unhide OB).cell 10 _ rfl
  have o11 := (unhide OB).cell 11 _ rfl
  have o12 := (unhide OB).cell 12 _ rfl
  have r0 := (unhide RB).cell 0 _ rfl
  have rz0 := (unhide RB).fz 0
  have r1 := (unhide RB).cell 1 _ rfl
  have rz1 := (unhide RB).fz 1
  have r2 := (unhide RB).cell 2 _ rfl
  have rz2 := (unhide RB).fz 2
  have r3 := (unhide RB).cell 3 _ rfl
  have rz3 := (unhide RB).fz 3
  have r4 := (unhide RB).cell 4 _ rfl
  have rz4 := (unhide RB).fz 4
  have r5 := (unhide RB).cell 5 _ rfl
  have rz5 := (unhide RB).fz 5
  have r6 := (unhide RB).cell 6 _ rfl
  have rz6 := (unhide RB).fz 6
  have r7 := (unhide RB).cell 7 _ rfl
  have rz7 := (unhide RB).fz 7
  have r8 := (unhide RB).cell 8 _ rfl
  have rz8 := (unhide RB).fz 8
  have r9 := (unhide RB).cell 9 _ rfl
  have rz9 := (unhide RB).fz 9
  have r10 := (unhide RB).cell 10 _ rfl
  have rz10 := (unhide RB).fz 10
  have r11 := (unhide RB).cell 11 _ rfl
  have rz11 := (unhide RB).fz 11
  have r12 := (unhide RB).cell 12 _ rfl
  have rz12 := (unhide RB).fz 12
  have q0 := (unhide QB).cell 0 _ rfl
  have qz0 := (unhide QB).fz 0
  have q1 := (unhide QB).cell 1 _ rfl
  have qz1 := (unhide QB).fz 1
  have q2 := (unhide QB).cell 2 _ rfl
  have qz2 := (unhide QB).fz 2
  have q3 := (unhide QB).cell 3 _ rfl
  have qz3 := (unhide QB).fz 3
  have q4 := (unhide QB).cell 4 _ rfl
  have qz4 := (unhide QB).fz 4
  have q5 := (unhide QB).cell 5 _ rfl
  have qz5 := (unhide QB).fz 5
  go_region
  all_goals
    have RB2 := (((((((((((((((((((((unhide RB).put 0 (.int .i64 c.t)).put 1 (.int .i64 c.s)).put 2 (.int .i64 c.k)).put 3 (.int .i64 c.g)).put 4 (.int .u64 c.q)).put 5 (.slice (some ⟨g, off, none⟩) c.n cap0)).put 6 (.int .i64 (wrap64 (cnt + 1)))).put 7 (.int .i64 3)).put 8 (.int .i64 a)).put 9 (.int .i64 b)).put 10 (.int .u64 (z : Nat))).put 11 (.int .u64 (z : Nat))).put 12 (.bool false)).set (p := ⟨Q, 0, none⟩) (u := .int .i64 3) nQR).set (p := ⟨Q, 1, none⟩) (u := .int .i64 a) nQR).set (p := ⟨Q, 2, none⟩) (u := .int .i64 b) nQR).set (p := ⟨Q, 3, none⟩) (u := .int .u64 (z : Nat)) nQR).set (p := ⟨Q, 4, none⟩) (u := .int .u64 (z : Nat)) nQR).set (p := ⟨Q, 5, none⟩) (u := .bool false) nQR)).drew
    have QB2 := (((((((((((((((((((((unhide QB).set (p := ⟨R, 0, none⟩) (u := .int .i64 c.t) (Ne.symm nQR)).set (p := ⟨R, 1, none⟩) (u := .int .i64 c.s) (Ne.symm nQR)).set (p := ⟨R, 2, none⟩) (u := .int .i64 c.k) (Ne.symm nQR)).set (p := ⟨R, 3, none⟩) (u := .int .i64 c.g) (Ne.symm nQR)).set (p := ⟨R, 4, none⟩) (u := .int .u64 c.q) (Ne.symm nQR)).set (p := ⟨R, 5, none⟩) (u := .slice (some ⟨g, off, none⟩) c.n cap0) (Ne.symm nQR)).set (p := ⟨R, 6, none⟩) (u := .int .i64 (wrap64 (cnt + 1))) (Ne.symm nQR)).set (p := ⟨R, 7, none⟩) (u := .int .i64 3) (Ne.symm nQR)).set (p := ⟨R, 8, none⟩) (u := .int .i64 a) (Ne.symm nQR)).set (p := ⟨R, 9, none⟩) (u := .int .i64 b) (Ne.symm nQR)).set (p := ⟨R, 10, none⟩) (u := .int .u64 (z : Nat)) (Ne.symm nQR)).set (p := ⟨R, 11, none⟩) (u := .int .u64 (z : Nat)) (Ne.symm nQR)).set (p := ⟨R, 12, none⟩) (u := .bool false) (Ne.symm nQR)).put 0 (.int .i64 3)).put 1 (.int .i64 a)).put 2 (.int .i64 b)).put 3 (.int .u64 (z : Nat))).put 4 (.int .u64 (z : Nat))).put 5 (.bool false))).drew
    have hB4 := ((((((((((((((((((((hB3.setCell (p := ⟨R, 0, none⟩) hr0 (.int .i64 c.t)).setCell (p := ⟨R, 1, none⟩) hr0 (.int .i64 c.s)).setCell (p := ⟨R, 2, none⟩) hr0 (.int .i64 c.k)).setCell (p := ⟨R, 3, none⟩) hr0 (.int .i64 c.g)).setCell (p := ⟨R, 4, none⟩) hr0 (.int .u64 c.q)).setCell (p := ⟨R, 5, none⟩) hr0 (.slice (some ⟨g, off, none⟩) c.n cap0)).setCell (p := ⟨R, 6, none⟩) hr0 (.int .i64 (wrap64 (cnt + 1)))).setCell (p := ⟨R, 7, none⟩) hr0 (.int .i64 3)).setCell (p := ⟨R, 8, none⟩) hr0 (.int .i64 a)).setCell (p := ⟨R, 9, none⟩) hr0 (.int .i64 b)).setCell (p := ⟨R, 10, none⟩) hr0 (.int .u64 (z : Nat))).setCell (p := ⟨R, 11, none⟩) hr0 (.int .u64 (z : Nat))).setCell (p := ⟨R, 12, none⟩) hr0 (.bool false)).setCell (p := ⟨Q, 0, none⟩) hq0 (.int .i64 3)).setCell (p := ⟨Q, 1, none⟩) hq0 (.int .i64 a)).setCell (p := ⟨Q, 2, none⟩) hq0 (.int .i64 b)).setCell (p := ⟨Q, 3, none⟩) hq0 (.int .u64 (z : Nat))).setCell (p := ⟨Q, 4, none⟩) hq0 (.int .u64 (z : Nat))).setCell (p := ⟨Q, 5, none⟩) hq0 (.bool false))).drew
    simp only [List.set] at RB2 QB2
    have RH := hide RB2
    have QH := hide QB2
    have HB4 := hide hB4
    clear RB2 QB2 hB4 t0 t1 t2 t3 t4 t5 o0 o1 o2 o3 o4 o5 o6 o7 o8 o9 o10 o11 o12 r0 rz0 r1 rz1 r2 rz2 r3 rz3 r4 rz4 r5 rz5 r6 rz6 r7 rz7 r8 rz8 r9 rz9 r10 rz10 r11 rz11 r12 rz12 q0 qz0 q1 qz1 q2 qz2 q3 qz3 q4 qz4 q5 qz5
    go_wp2
    have RB2 := unhide RH
    have QB2 := unhide QH
    have hB4 := unhide HB4
    generalize World.drew _ = Wf at RB2 QB2 hB4 ⊢
    refine bodyPost_ret (v := .tuple #[.agg #[.int .i64 c.t, .int .i64 c.s, .int .i64 c.k, .int .i64 c.g, .int .u64 c.q, .slice (some ⟨g, off, none⟩) c.n cap0, .int .i64 (wrap64 (cnt + 1)), .int .i64 3, .int .i64 a, .int .i64 b, .int .u64 (z : Nat), .int .u64 (z : Nat), .bool false], .agg #[.int .i64 3, .int .i64 a, .int .i64 b, .int .u64 (z : Nat), .int .u64 (z : Nat), .bool false]]) (by simp [results, Tryz.results90, go_sem, RB2.cell 0 _ rfl, RB2.cell 1 _ rfl, RB2.cell 2 _ rfl, RB2.cell 3 _ rfl, RB2.cell 4 _ rfl, RB2.cell 5 _ rfl, RB2.cell 6 _ rfl, RB2.cell 7 _ rfl, RB2.cell 8 _ rfl, RB2.cell 9 _ rfl, RB2.cell 10 _ rfl, RB2.cell 11 _ rfl, RB2.cell 12 _ rfl, QB2.cell 0 _ rfl, QB2.cell 1 _ rfl, QB2.cell 2 _ rfl, QB2.cell 3 _ rfl, QB2.cell 4 _ rfl, QB2.cell 5 _ rfl]) rfl ?_
    refine ⟨.slice (some ⟨g, off, none⟩) c.n cap0, by rw [next_eq], ?_, .inl rfl, hB4⟩
    rw [Um.putW_id (by rw [unhide HZ])]
    exact ((unhide HV).low.below hB4).is hB4.size
set_option maxHeartbeats 2000000 in
theorem rTouch_3b (c : Um.Cf) (g off cap0 : Nat) (cnt : Int) (l : Um.Tch) (a b : Int) (o x p z : Nat) (ws : Nat → Nat) (w : World) (hp : c.cl a b = p) (hpn : p < c.n) (hv : IsWords w (.slice (some ⟨g, off, none⟩) c.n cap0) c.n ws) (hz : ws p = z) (hx : Um.Word x) (he : z = o) (he2 : z = x) :
    Calls Tryz.prog 90 #[.agg #[.int .i64 c.t, .int .i64 c.s, .int .i64 c.k, .int .i64 c.g, .int .u64 c.q, .slice (some ⟨g, off, none⟩) c.n cap0, .int .i64 cnt, .int .i64 l.kind, .int .i64 l.a, .int .i64 l.b, .int .u64 l.old, .int .u64 l.new, .bool l.done], .int .i64 3, (.agg #[.int .i64 a, .int .i64 b]), .int .u64 (o : Nat), .int .u64 (x : Nat)] w fun e W' =>
      ∃ v', e = .returned (.tuple #[(.agg #[.int .i64 (c.t), .int .i64 (c.s), .int .i64 (c.k), .int .i64 (c.g), .int .u64 (c.q : Int), v', .int .i64 (Um.nextI cnt), .int .i64 3, .int .i64 a, .int .i64 b, .int .u64 (z : Nat), .int .u64 (z : Nat), .bool true]), (.agg #[.int .i64 3, .int .i64 a, .int .i64 b, .int .u64 (z : Nat), .int .u64 (z : Nat), .bool true])]) ∧ IsWords W' v' c.n (Um.putW ws p z) ∧ (v' = .slice (some ⟨g, off, none⟩) c.n cap0 ∨ RFresh w W' v' c.n (Um.putW ws p z)) ∧ Below w.heap.size w W' := by
  have HV := hide hv
  have hword : w.cell? ⟨g, off + p, none⟩ = some (.int .u64 (z : Nat)) := hz ▸ words_cell hv p hpn
  have hg : g < w.heap.size := words_lt hv (by omega)
  have HZ := hide hz
  have HX := hide hx
  clear hv hz hx
  subst he
  subst he2
  have hcl := fun w => rCell_any c.t c.s c.k c.g c.q a b w
  rw [show Um.cellN (Um.rt c.t c.s c.k c.g c.q) c.t c.s c.k a b = p from hp] at hcl
  clear hp
  go_enter Tryz.func90, Tryz.ntmps90
  go_wp2_with fail
  refine (hcl _).mono ?_
  rintro e W2 ⟨rfl, hb2⟩
  generalize hW1 : (((((w.alloc (.cells #[.int .i64 c.t, .int .i64 c.s, .int .i64 c.k, .int .i64 c.g, .int .u64 c.q, .slice (some ⟨g, off, none⟩) c.n cap0, .int .i64 cnt, .int .i64 l.kind, .int .i64 l.a, .int .i64 l.b, .int .u64 l.old, .int .u64 l.new, .bool l.done] 35)).alloc (.cells #[.int .i64 a, .int .i64 b] 31)).alloc (.cells #[.int .i64 0, .int .i64 0, .int .i64 0, .int .i64 0, .int .u64 0, .slice none 0 0, .int .i64 0, .int .i64 0, .int .i64 0, .int .i64 0, .int .u64 0, .int .u64 0, .bool false] 35)).alloc (.cells #[.int .i64 0, .int .i64 0, .int .i64 0, .int .u64 0, .int .u64 0, .bool false] 33)).alloc (.cells #[.int .i64 3, .int .i64 a, .int .i64 b, .int .u64 0, .int .u64 0, .bool false] 33)).alloc (.cells #[.int .i64 c.t, .int .i64 c.s, .int .i64 c.k, .int .i64 c.g, .int .u64 c.q, .slice (some ⟨g, off, none⟩) c.n cap0, .int .i64 (wrap64 (cnt + 1)), .int .i64 0, .int .i64 0, .int .i64 0, .int .u64 0, .int .u64 0, .bool false] 35) = W1 at hb2
  obtain ⟨hM1, hS1, hR1, hQ1, hT1, hO1, hB1, hsz1⟩ := alloc6_at w (.cells #[.int .i64 c.t, .int .i64 c.s, .int .i64 c.k, .int .i64 c.g, .int .u64 c.q, .slice (some ⟨g, off, none⟩) c.n cap0, .int .i64 cnt, .int .i64 l.kind, .int .i64 l.a, .int .i64 l.b, .int .u64 l.old, .int .u64 l.new, .bool l.done] 35) (.cells #[.int .i64 a, .int .i64 b] 31) (.cells #[.int .i64 0, .int .i64 0, .int .i64 0, .int .i64 0, .int .u64 0, .slice none 0 0, .int .i64 0, .int .i64 0, .int .i64 0, .int .i64 0, .int .u64 0, .int .u64 0, .bool false] 35) (.cells #[.int .i64 0, .int .i64 0, .int .i64 0, .int .u64 0, .int .u64 0, .bool false] 33) (.cells #[.int .i64 3, .int .i64 a, .int .i64 b, .int .u64 0, .int .u64 0, .bool false] 33) (.cells #[.int .i64 c.t, .int .i64 c.s, .int .i64 c.k, .int .i64 c.g, .int .u64 c.q, .slice (some ⟨g, off, none⟩) c.n cap0, .int .i64 (wrap64 (cnt + 1)), .int .i64 0, .int .i64 0, .int .i64 0, .int .u64 0, .int .u64 0, .bool false] 35) hW1
  have MB := hide ((blkAt_new hM1).below hb2)
  have SB := hide ((blkAt_new hS1).below hb2)
  have RB := hide ((blkAt_new hR1).below hb2)
  have QB := hide ((blkAt_new hQ1).below hb2)
  have TB := hide ((blkAt_new hT1).below hb2)
  have OB := hide ((blkAt_new hO1).below hb2)
  have hB2 := hB1.trans (hb2.mono hB1.size)
  have hm0 : w.heap.size ≤ w.heap.size := Nat.le_refl _
  have hr0 : w.heap.size ≤ w.heap.size + 1 + 1 := by omega
  have hq0 : w.heap.size ≤ w.heap.size + 1 + 1 + 1 := by omega
  have ht0 : w.heap.size ≤ w.heap.size + 1 + 1 + 1 + 1 := by omega
  have ho0 : w.heap.size ≤ w.heap.size + 1 + 1 + 1 + 1 + 1 := by omega
  have nOT : w.heap.size + 1 + 1 + 1 + 1 + 1 ≠ w.heap.size + 1 + 1 + 1 + 1 := by omega
  have nOQ : w.heap.size + 1 + 1 + 1 + 1 + 1 ≠ w.heap.size + 1 + 1 + 1 := by omega
  have nOR : w.heap.size + 1 + 1 + 1 + 1 + 1 ≠ w.heap.size + 1 + 1 := by omega
  have nTQ : w.heap.size + 1 + 1 + 1 + 1 ≠ w.heap.size + 1 + 1 + 1 := by omega
  have nTR : w.heap.size + 1 + 1 + 1 + 1 ≠ w.heap.size + 1 + 1 := by omega
  have nQR : w.heap.size + 1 + 1 + 1 ≠ w.heap.size + 1 + 1 := by omega
  have nTM : w.heap.size + 1 + 1 + 1 + 1 ≠ w.heap.size := by omega
  have nOM : w.heap.size + 1 + 1 + 1 + 1 + 1 ≠ w.heap.size := by omega
  clear hb2 hW1 hM1 hS1 hR1 hQ1 hT1 hO1 hB1 hsz1 hcl
  generalize w.heap.size + 1 + 1 + 1 + 1 + 1 = O at *
  generalize w.heap.size + 1 + 1 + 1 + 1 = T at *
  generalize w.heap.size + 1 + 1 + 1 = Q at *
  generalize w.heap.size + 1 + 1 = R at *
  have hw2 := (hB2.cell (p := ⟨g, off + p, none⟩) hg).trans hword
  have m5 := (unhide MB).cell 5 _ rfl
  have hpi : (p : Int) < (c.n : Int) := by omega
  clear hword
  have t0 := (unhide TB).cell 0 _ rfl
  have tz0 := (unhide TB).fz 0
  have t1 := (unhide TB).cell 1 _ rfl
  have tz1 := (unhide TB).fz 1
  have t2 := (unhide TB).cell 2 _ rfl
  have tz2 := (unhide TB).fz 2
  have t3 := (unhide TB).cell 3 _ rfl
  have tz3 := (unhide TB).fz 3
  have t4 := (unhide TB).cell 4 _ rfl
  have tz4 := (unhide TB).fz 4
  have t5 := (unhide TB).cell 5 _ rfl
  have tz5 := (unhide TB).fz 5
  have o0 := (unhide OB).cell 0 _ rfl
  have oz0 := (unhide OB).fz 0
  have o1 := (unhide OB).cell 1 _ rfl
  have oz1 := (unhide OB).fz 1
  have o2 := (unhide OB).cell 2 _ rfl
  have oz2 := (unhide OB).fz 2
  have o3 := (unhide OB).cell 3 _ rfl
  have oz3 := (unhide OB).fz 3
  have o4 := (unhide OB).cell 4 _ rfl
  have oz4 := (unhide OB).fz 4
  have o5 := (unhide OB).cell 5 _ rfl
  have oz5 := (unhide OB).fz 5
  have o6 := (unhide OB).cell 6 _ rfl
  have oz6 := (unhide OB).fz 6
  have o7 := (unhide OB).cell 7 _ rfl
  have oz7 := (unhide OB).fz 7
  have o8 := (unhide OB).cell 8 _ rfl
  have oz8 := (unhide OB).fz 8
  have o9 := (unhide OB).cell 9 _ rfl
  have oz9 := (unhide OB).fz 9
  have o10 := (unhide OB).cell 10 _ rfl
  have oz10 := (unhide OB).fz 10
  have o11 := (unhide OB).cell 11 _ rfl
  have oz11 := (unhide OB).fz 11
  have o12 := (unhide OB).cell 12 _ rfl
  have oz12 := (unhide OB).fz 12
  have hx4 : ((((W2.setCell ⟨T, 3, none⟩ (.int .u64 (z : Nat))).setCell ⟨T, 4, none⟩ (.int .u64 (z : Nat))).setCell ⟨T, 5, none⟩ (.bool true)).setCell ⟨T, 4, none⟩ (.int .u64 (z : Nat))).cell? ⟨T, 4, none⟩ = some (.int .u64 (z : Nat)) := (((((unhide TB).put 3 (.int .u64 (z : Nat))).put 4 (.int .u64 (z : Nat))).put 5 (.bool true)).put 4 (.int .u64 (z : Nat))).cell 4 _ rfl
  go_wp2_with fail
  have OB2 := (((((((((((unhide OB).set (p := ⟨T, 3, none⟩) (u := .int .u64 (z : Nat)) (Ne.symm nOT)).set (p := ⟨T, 4, none⟩) (u := .int .u64 (z : Nat)) (Ne.symm nOT)).set (p := ⟨T, 5, none⟩) (u := .bool true) (Ne.symm nOT)).set (p := ⟨T, 4, none⟩) (u := .int .u64 (z : Nat)) (Ne.symm nOT)).put 7 (.int .i64 3)).put 8 (.int .i64 a)).put 9 (.int .i64 b)).put 10 (.int .u64 (z : Nat))).put 11 (.int .u64 (z : Nat))).put 12 (.bool true))
  have TB2 := (((((((((((unhide TB).put 3 (.int .u64 (z : Nat))).put 4 (.int .u64 (z : Nat))).put 5 (.bool true)).put 4 (.int .u64 (z : Nat))).set (p := ⟨O, 7, none⟩) (u := .int .i64 3) nOT).set (p := ⟨O, 8, none⟩) (u := .int .i64 a) nOT).set (p := ⟨O, 9, none⟩) (u := .int .i64 b) nOT).set (p := ⟨O, 10, none⟩) (u := .int .u64 (z : Nat)) nOT).set (p := ⟨O, 11, none⟩) (u := .int .u64 (z : Nat)) nOT).set (p := ⟨O, 12, none⟩) (u := .bool true) nOT)
  have RB2 := (((((((((((unhide RB).set (p := ⟨T, 3, none⟩) (u := .int .u64 (z : Nat)) nTR).set (p := ⟨T, 4, none⟩) (u := .int .u64 (z : Nat)) nTR).set (p := ⟨T, 5, none⟩) (u := .bool true) nTR).set (p := ⟨T, 4, none⟩) (u := .int .u64 (z : Nat)) nTR).set (p := ⟨O, 7, none⟩) (u := .int .i64 3) nOR).set (p := ⟨O, 8, none⟩) (u := .int .i64 a) nOR).set (p := ⟨O, 9, none⟩) (u := .int .i64 b) nOR).set (p := ⟨O, 10, none⟩) (u := .int .u64 (z : Nat)) nOR).set (p := ⟨O, 11, none⟩) (u := .int .u64 (z : Nat)) nOR).set (p := ⟨O, 12, none⟩) (u := .bool true) nOR)
  have QB2 := (((((((((((unhide QB).set (p := ⟨T, 3, none⟩) (u := .int .u64 (z : Nat)) nTQ).set (p := ⟨T, 4, none⟩) (u := .int .u64 (z : Nat)) nTQ).set (p := ⟨T, 5, none⟩) (u := .bool true) nTQ).set (p := ⟨T, 4, none⟩) (u := .int .u64 (z : Nat)) nTQ).set (p := ⟨O, 7, none⟩) (u := .int .i64 3) nOQ).set (p := ⟨O, 8, none⟩) (u := .int .i64 a) nOQ).set (p := ⟨O, 9, none⟩) (u := .int .i64 b) nOQ).set (p := ⟨O, 10, none⟩) (u := .int .u64 (z : Nat)) nOQ).set (p := ⟨O, 11, none⟩) (u := .int .u64 (z : Nat)) nOQ).set (p := ⟨O, 12, none⟩) (u := .bool true) nOQ)
  have hB3 := ((((((((((hB2.setCell (p := ⟨T, 3, none⟩) ht0 (.int .u64 (z : Nat))).setCell (p := ⟨T, 4, none⟩) ht0 (.int .u64 (z : Nat))).setCell (p := ⟨T, 5, none⟩) ht0 (.bool true)).setCell (p := ⟨T, 4, none⟩) ht0 (.int .u64 (z : Nat))).setCell (p := ⟨O, 7, none⟩) ho0 (.int .i64 3)).setCell (p := ⟨O, 8, none⟩) ho0 (.int .i64 a)).setCell (p := ⟨O, 9, none⟩) ho0 (.int .i64 b)).setCell (p := ⟨O, 10, none⟩) ho0 (.int .u64 (z : Nat))).setCell (p := ⟨O, 11, none⟩) ho0 (.int .u64 (z : Nat))).setCell (p := ⟨O, 12, none⟩) ho0 (.bool true))
  simp only [List.set] at OB2 TB2
  clear t0 tz0 t1 tz1 t2 tz2 t3 tz3 t4 tz4 t5 tz5 o0 oz0 o1 oz1 o2 oz2 o3 oz3 o4 oz4 o5 oz5 o6 oz6 o7 oz7 o8 oz8 o9 oz9 o10 oz10 o11 oz11 o12 oz12 OB TB RB QB hB2
  generalize (((((((((W2.setCell ⟨T, 3, none⟩ (.int .u64 (z : Nat))).setCell ⟨T, 4, none⟩ (.int .u64 (z : Nat))).setCell ⟨T, 5, none⟩ (.bool true)).setCell ⟨T, 4, none⟩ (.int .u64 (z : Nat))).setCell ⟨O, 7, none⟩ (.int .i64 3)).setCell ⟨O, 8, none⟩ (.int .i64 a)).setCell ⟨O, 9, none⟩ (.int .i64 b)).setCell ⟨O, 10, none⟩ (.int .u64 (z : Nat))).setCell ⟨O, 11, none⟩ (.int .u64 (z : Nat))).setCell ⟨O, 12, none⟩ (.bool true) = X at *
  have OB := hide OB2
  have TB := hide TB2
  have RB := hide RB2
  have QB := hide QB2
  clear OB2 TB2 RB2 QB2
  have t0 := (unhide TB).cell 0 _ rfl
  have t1 := (unhide TB).cell 1 _ rfl
  have t2 := (unhide TB).cell 2 _ rfl
  have t3 := (unhide TB).cell 3 _ rfl
  have t4 := (unhide TB).cell 4 _ rfl
  have t5 := (unhide TB).cell 5 _ rfl
  have o0 := (unhide OB).cell 0 _ rfl
  have o1 := (unhide OB).cell 1 _ rfl
  have o2 := (unhide OB).cell 2 _ rfl
  have o3 := (unhide OB).cell 3 _ rfl
  have o4 := (unhide OB).cell 4 _ rfl
  have o5 := (unhide OB).cell 5 _ rfl
  have o6 := (unhide OB).cell 6 _ rfl
  have o7 := (unhide OB).cell 7 _ rfl
  have o8 := (unhide OB).cell 8 _ rfl
  have o9 := (unhide OB).cell 9 _ rfl
  have o10 := (unhide OB).cell 10 _ rfl
  have o11 := (unhide OB).cell 11 _ rfl
  have o12 := (unhide OB).cell 12 _ rfl
  have r0 := (unhide RB).cell 0 _ rfl
  have rz0 := (unhide RB).fz 0
  have r1 := (unhide RB).cell 1 _ rfl
  have rz1 := (unhide RB).fz 1
  have r2 := (unhide RB).cell 2 _ rfl
  have rz2 := (unhide RB).fz 2
  have r3 := (unhide RB).cell 3 _ rfl
  have rz3 := (unhide RB).fz 3
  have r4 := (unhide RB).cell 4 _ rfl
  have rz4 := (unhide RB).fz 4
  have r5 := (unhide RB).cell 5 _ rfl
  have rz5 := (unhide RB).fz 5
  have r6 := (unhide RB).cell 6 _ rfl
  have rz6 := (unhide RB).fz 6
  have r7 := (unhide RB).cell 7 _ rfl
  have rz7 := (unhide RB).fz 7
  have r8 := (unhide RB).cell 8 _ rfl
  have rz8 := (unhide RB).fz 8
  have r9 := (unhide RB).cell 9 _ rfl
  have rz9 := (unhide RB).fz 9
  have r10 := (unhide RB).cell 10 _ rfl
  have rz10 := (unhide RB).fz 10
  have r11 := (unhide RB).cell 11 _ rfl
  have rz11 := (unhide RB).fz 11
  have r12 := (unhide RB).cell 12 _ rfl
  have rz12 := (unhide RB).fz 12
  have q0 := (unhide QB).cell 0 _ rfl
  have qz0 := (unhide QB).fz 0
  have q1 := (unhide QB).cell 1 _ rfl
  have qz1 := (unhide QB).fz 1
  have q2 := (unhide QB).cell 2 _ rfl
  have qz2 := (unhide QB).fz 2
  have q3 := (unhide QB).cell 3 _ rfl
  have qz3 := (unhide QB).fz 3
  have q4 := (unhide QB).cell 4 _ rfl
  have qz4 := (unhide QB).fz 4
  have q5 := (unhide QB).cell 5 _ rfl
  have qz5 := (unhide QB).fz 5
  go_region
  all_goals
    have RB2 := (((((((((((((((((((((unhide RB).put 0 (.int .i64 c.t)).put 1 (.int .i64 c.s)).put 2 (.int .i64 c.k)).put 3 (.int .i64 c.g)).put 4 (.int .u64 c.q)).put 5 (.slice (some ⟨g, off, none⟩) c.n cap0)).put 6 (.int .i64 (wrap64 (cnt + 1)))).put 7 (.int .i64 3)).put 8 (.int .i64 a)).put 9 (.int .i64 b)).put 10 (.int .u64 (z : Nat))).put 11 (.int .u64 (z : Nat))).put 12 (.bool true)).set (p := ⟨Q, 0, none⟩) (u := .int .i64 3) nQR).set (p := ⟨Q, 1, none⟩) (u := .int .i64 a) nQR).set (p := ⟨Q, 2, none⟩) (u := .int .i64 b) nQR).set (p := ⟨Q, 3, none⟩) (u := .int .u64 (z : Nat)) nQR).set (p := ⟨Q, 4, none⟩) (u := .int .u64 (z : Nat)) nQR).set (p := ⟨Q, 5, none⟩) (u := .bool true) nQR)).drew
    have QB2 := (((((((((((((((((((((unhide QB).set (p := ⟨R, 0, none⟩) (u := .int .i64 c.t) (Ne.symm nQR)).set (p := ⟨R, 1, none⟩) (u := .int .i64 c.s) (Ne.symm nQR)).set (p := ⟨R, 2, none⟩) (u := .int .i64 c.k) (Ne.symm nQR)).set (p := ⟨R, 3, none⟩) (u := .int .i64 c.g) (Ne.symm nQR)).set (p := ⟨R, 4, none⟩) (u := .int .u64 c.q) (Ne.symm nQR)).set (p := ⟨R, 5, none⟩) (u := .slice (some ⟨g, off, none⟩) c.n cap0) (Ne.symm nQR)).set (p := ⟨R, 6, none⟩) (u := .int .i64 (wrap64 (cnt + 1))) (Ne.symm nQR)).set (p := ⟨R, 7, none⟩) (u := .int .i64 3) (Ne.symm nQR)).set (p := ⟨R, 8, none⟩) (u := .int .i64 a) (Ne.symm nQR)).set (p := ⟨R, 9, none⟩) (u := .int .i64 b) (Ne.symm nQR)).set (p := ⟨R, 10, none⟩) (u := .int .u64 (z : Nat)) (Ne.symm nQR)).set (p := ⟨R, 11, none⟩) (u := .int .u64 (z : Nat)) (Ne.symm nQR)).set (p := ⟨R, 12, none⟩) (u := .bool true) (Ne.symm nQR)).put 0 (.int .i64 3)).put 1 (.int .i64 a)).put 2 (.int .i64 b)).put 3 (.int .u64 (z : Nat))).put 4 (.int .u64 (z : Nat))).put 5 (.bool true))).drew
    have hB4 := ((((((((((((((((((((hB3.setCell (p := ⟨R, 0, none⟩) hr0 (.int .i64 c.t)).setCell (p := ⟨R, 1, none⟩) hr0 (.int .i64 c.s)).setCell (p := ⟨R, 2, none⟩) hr0 (.int .i64 c.k)).setCell (p := ⟨R, 3, none⟩) hr0 (.int .i64 c.g)).setCell (p := ⟨R, 4, none⟩) hr0 (.int .u64 c.q)).setCell (p := ⟨R, 5, none⟩) hr0 (.slice (some ⟨g, off, none⟩) c.n cap0)).setCell (p := ⟨R, 6, none⟩) hr0 (.int .i64 (wrap64 (cnt + 1)))).setCell (p := ⟨R, 7, none⟩) hr0 (.int .i64 3)).setCell (p := ⟨R, 8, none⟩) hr0 (.int .i64 a)).setCell (p := ⟨R, 9, none⟩) hr0 (.int .i64 b)).setCell (p := ⟨R, 10, none⟩) hr0 (.int .u64 (z : Nat))).setCell (p := ⟨R, 11, none⟩) hr0 (.int .u64 (z : Nat))).setCell (p := ⟨R, 12, none⟩) hr0 (.bool true)).setCell (p := ⟨Q, 0, none⟩) hq0 (.int .i64 3)).setCell (p := ⟨Q, 1, none⟩) hq0 (.int .i64 a)).setCell (p := ⟨Q, 2, none⟩) hq0 (.int .i64 b)).setCell (p := ⟨Q, 3, none⟩) hq0 (.int .u64 (z : Nat))).setCell (p := ⟨Q, 4, none⟩) hq0 (.int .u64 (z : Nat))).setCell (p := ⟨Q, 5, none⟩) hq0 (.bool true))).drew
    simp only [List.set] at RB2 QB2
    have RH := hide RB2
    have QH := hide QB2
    have HB4 := hide hB4
    clear RB2 QB2 hB4 t0 t1 t2 t3 t4 t5 o0 o1 o2 o3 o4 o5 o6 o7 o8 o9 o10 o11 o12 r0 rz0 r1 rz1 r2 rz2 r3 rz3 r4 rz4 r5 rz5 r6 rz6 r7 rz7 r8 rz8 r9 rz9 r10 rz10 r11 rz11 r12 rz12 q0 qz0 q1 qz1 q2 qz2 q3 qz3 q4 qz4 q5 qz5
    go_wp2
    have RB2 := unhide RH
    have QB2 := unhide QH
    have hB4 := unhide HB4
    generalize World.drew _ = Wf at RB2 QB2 hB4 ⊢
    refine bodyPost_ret (v := .tuple #[.agg #[.int .i64 c.t, .int .i64 c.s, .int .i64 c.k, .int .i64 c.g, .int .u64 c.q, .slice (some ⟨g, off, none⟩) c.n cap0, .int .i64 (wrap64 (cnt + 1)), .int .i64 3, .int .i64 a, .int .i64 b, .int .u64 (z : Nat), .int .u64 (z : Nat), .bool true], .agg #[.int .i64 3, .int .i64 a, .int .i64 b, .int .u64 (z : Nat), .int .u64 (z : Nat), .bool true]]) (by simp [results, Tryz.results90, go_sem, RB2.cell 0 _ rfl, RB2.cell 1 _ rfl, RB2.cell 2 _ rfl, RB2.cell 3 _ rfl, RB2.cell 4 _ rfl, RB2.cell 5 _ rfl, RB2.cell 6 _ rfl, RB2.cell 7 _ rfl, RB2.cell 8 _ rfl, RB2.cell 9 _ rfl, RB2.cell 10 _ rfl, RB2.cell 11 _ rfl, RB2.cell 12 _ rfl, QB2.cell 0 _ rfl, QB2.cell 1 _ rfl, QB2.cell 2 _ rfl, QB2.cell 3 _ rfl, QB2.cell 4 _ rfl, QB2.cell 5 _ rfl]) rfl ?_
    refine ⟨.slice (some ⟨g, off, none⟩) c.n cap0, by rw [next_eq], ?_, .inl rfl, hB4⟩
    rw [Um.putW_id (by rw [unhide HZ])]
    exact ((unhide HV).low.below hB4).is hB4.size
end
section
set_option maxRecDepth 100000
open Go.RowKit Go.Sort
set_option maxHeartbeats 2000000 in
theorem rTouch_4a (c : Um.Cf) (g off cap0 : Nat) (cnt : Int) (l : Um.Tch) (a b : Int) (o x p z : Nat) (ws : Nat → Nat) (w : World) (hp : c.cl a b = p) (hpn : p < c.n) (hv : IsWords w (.slice (some ⟨g, off, none⟩) c.n cap0) c.n ws) (hz : ws p = z) (hx : Um.Word x) (he : Um.addW z x = z) :
    Calls Tryz.prog 90 #[.agg #[.int .i64 c.t, .int .i64 c.s, .int .i64 c.k, .int .i64 c.g, .int .u64 c.q, .slice (some ⟨g, off, none⟩) c.n cap0, .int .i64 cnt, .int .i64 l.kind, .int .i64 l.a, .int .i64 l.b, .int .u64 l.old, .int .u64 l.new, .bool l.done], .int .i64 4, (.agg #[.int .i64 a, .int .i64 b]), .int .u64 (o : Nat), .int .u64 (x : Nat)] w fun e W' =>
      ∃ v', e = .returned (.tuple #[(.agg #[.int .i64 (c.t), .int .i64 (c.s), .int .i64 (c.k), .int .i64 (c.g), .int .u64 (c.q : Int), v', .int .i64 (Um.nextI cnt), .int .i64 4, .int .i64 a, .int .i64 b, .int .u64 (z : Nat), .int .u64 (z : Nat), .bool true]), (.agg #[.int .i64 4, .int .i64 a, .int .i64 b, .int .u64 (z : Nat), .int .u64 (z : Nat), .bool true])]) ∧ IsWords W' v' c.n (Um.putW ws p z) ∧ (v' = .slice (some ⟨g, off, none⟩) c.n cap0 ∨ RFresh w W' v' c.n (Um.putW ws p z)) ∧ Below w.heap.size w W' := by
  have HV := hide hv
  have hword : w.cell? ⟨g, off + p, none⟩ = some (.int .u64 (z : Nat)) := hz ▸ words_cell hv p hpn
  have hg : g < w.heap.size := words_lt hv (by omega)
  have HZ := hide hz
  have HX := hide hx
  clear hv hz hx
  have hadd := addW_wrap z x
  rw [he] at hadd
  clear he
  have hcl := fun w => rCell_any c.t c.s c.k c.g c.q a b w
  rw [show Um.cellN (Um.rt c.t c.s c.k c.g c.q) c.t c.s c.k a b = p from hp] at hcl
  clear hp
  go_enter Tryz.func90, Tryz.ntmps90
  go_wp2_with fail
  refine (hcl _).mono ?_
  rintro e W2 ⟨rfl, hb2⟩
  generalize hW1 : (((((w.alloc (.cells #[.int .i64 c.t, .int .i64 c.s, .int .i64 c.k, .int .i64 c.g, .int .u64 c.q, .slice (some ⟨g, off, none⟩) c.n cap0, .int .i64 cnt, .int .i64 l.kind, .int .i64 l.a, .int .i64 l.b, .int .u64 l.old, .int .u64 l.new, .bool l.done] 35)).alloc (.cells #[.int .i64 a, .int .i64 b] 31)).alloc (.cells #[.int .i64 0, .int .i64 0, .int .i64 0, .int .i64 0, .int .u64 0, .slice none 0 0, .int .i64 0, .int .i64 0, .int .i64 0, .int .i64 0, .int .u64 0, .int .u64 0, .bool false] 35)).alloc (.cells #[.int .i64 0, .int .i64 0, .int .i64 0, .int .u64 0, .int .u64 0, .bool false] 33)).alloc (.cells #[.int .i64 4, .int .i64 a, .int .i64 b, .int .u64 0, .int .u64 0, .bool false] 33)).alloc (.cells #[.int .i64 c.t, .int .i64 c.s, .int .i64 c.k, .int .i64 c.g, .int .u64 c.q, .slice (some ⟨g, off, none⟩) c.n cap0, .int .i64 (wrap64 (cnt + 1)), .int .i64 0, .int .i64 0, .int .i64 0, .int .u64 0, .int .u64 0, .bool false] 35) = W1 at hb2
  obtain ⟨hM1, hS1, hR1, hQ1, hT1, hO1, hB1, hsz1⟩ := alloc6_at w (.cells #[.int .i64 c.t, .int .i64 c.s, .int .i64 c.k, .int .i64 c.g, .int .u64 c.q, .slice (some ⟨g, off, none⟩) c.n cap0, .int .i64 cnt, .int .i64 l.kind, .int .i64 l.a, .int .i64 l.b, .int .u64 l.old, .int .u64 l.new, .bool l.done] 35) (.cells #[.int .i64 a, .int .i64 b] 31) (.cells #[.int .i64 0, .int .i64 0, .int .i64 0, .int .i64 0, .int .u64 0, .slice none 0 0, .int .i64 0, .int .i64 0, .int .i64 0, .int .i64 0, .int .u64 0, .int .u64 0, .bool false] 35) (.cells #[.int .i64 0, .int .i64 0, .int .i64 0, .int .u64 0, .int .u64 0, .bool false] 33) (.cells #[.int .i64 4, .int .i64 a, .int .i64 b, .int .u64 0, .int .u64 0, .bool false] 33) (.cells #[.int .i64 c.t, .int .i64 c.s, .int .i64 c.k, .int .i64 c.g, .int .u64 c.q, .slice (some ⟨g, off, none⟩) c.n cap0, .int .i64 (wrap64 (cnt + 1)), .int .i64 0, .int .i64 0, .int .i64 0, .int .u64 0, .int .u64 0, .bool false] 35) hW1
  have MB := hide ((blkAt_new hM1).below hb2)
  have SB := hide ((blkAt_new hS1).below hb2)
  have RB := hide ((blkAt_new hR1).below hb2)
  have QB := hide ((blkAt_new hQ1).below hb2)
  have TB := hide ((blkAt_new hT1).below hb2)
  have OB := hide ((blkAt_new hO1).below hb2)
  have hB2 := hB1.trans (hb2.mono hB1.size)
  have hm0 : w.heap.size ≤ w.heap.size := Nat.le_refl _
  have hr0 : w.heap.size ≤ w.heap.size + 1 + 1 := by omega
  have hq0 : w.heap.size ≤ w.heap.size + 1 + 1 + 1 := by omega
  have ht0 : w.heap.size ≤ w.heap.size + 1 + 1 + 1 + 1 := by omega
  have ho0 : w.heap.size ≤ w.heap.size + 1 + 1 + 1 + 1 + 1 := by omega
  have nOT : w.heap.size + 1 + 1 + 1 + 1 + 1 ≠ w.heap.size + 1 + 1 + 1 + 1 := by omega
  have nOQ : w.heap.size + 1 + 1 + 1 + 1 + 1 ≠ w.heap.size + 1 + 1 + 1 := by omega
  have nOR : w.heap.size + 1 + 1 + 1 + 1 + 1 ≠ w.heap.size + 1 + 1 := by omega
  have nTQ : w.heap.size + 1 + 1 + 1 + 1 ≠ w.heap.size + 1 + 1 + 1 := by omega
  have nTR : w.heap.size + 1 + 1 + 1 + 1 ≠ w.heap.size + 1 + 1 := by omega
  have nQR : w.heap.size + 1 + 1 + 1 ≠ w.heap.size + 1 + 1 := by omega
  have nTM : w.heap.size + 1 + 1 + 1 + 1 ≠ w.heap.size := by omega
  have nOM : w.heap.size + 1 + 1 + 1 + 1 + 1 ≠ w.heap.size := by omega
  clear hb2 hW1 hM1 hS1 hR1 hQ1 hT1 hO1 hB1 hsz1 hcl
  generalize w.heap.size + 1 + 1 + 1 + 1 + 1 = O at *
  generalize w.heap.size + 1 + 1 + 1 + 1 = T at *
  generalize w.heap.size + 1 + 1 + 1 = Q at *
  generalize w.heap.size + 1 + 1 = R at *
  have hw2 := (hB2.cell (p := ⟨g, off + p, none⟩) hg).trans hword
  have m5 := (unhide MB).cell 5 _ rfl
  have hpi : (p : Int) < (c.n : Int) := by omega
  clear hword
  have t0 := (unhide TB).cell 0 _ rfl
  have tz0 := (unhide TB).fz 0
  have t1 := (unhide TB).cell 1 _ rfl
  have tz1 := (unhide TB).fz 1
  have t2 := (unhide TB).cell 2 _ rfl
  have tz2 := (unhide TB).fz 2
  have t3 := (unhide TB).cell 3 _ rfl
  have tz3 := (unhide TB).fz 3
  have t4 := (unhide TB).cell 4 _ rfl
  have tz4 := (unhide TB).fz 4
  have t5 := (unhide TB).cell 5 _ rfl
  have tz5 := (unhide TB).fz 5
  have o0 := (unhide OB).cell 0 _ rfl
  have oz0 := (unhide OB).fz 0
  have o1 := (unhide OB).cell 1 _ rfl
  have oz1 := (unhide OB).fz 1
  have o2 := (unhide OB).cell 2 _ rfl
  have oz2 := (unhide OB).fz 2
  have o3 := (unhide OB).cell 3 _ rfl
  have oz3 := (unhide OB).fz 3
  have o4 := (unhide OB).cell 4 _ rfl
  have oz4 := (unhide OB).fz 4
  have o5 := (unhide OB).cell 5 _ rfl
  have oz5 := (unhide OB).fz 5
  have o6 := (unhide OB).cell 6 _ rfl
  have oz6 := (unhide OB).fz 6
  have o7 := (unhide OB).cell 7 _ rfl
  have oz7 := (unhide OB).fz 7
  have o8 := (unhide OB).cell 8 _ rfl
  have oz8 := (unhide OB).fz 8
  have o9 := (unhide OB).cell 9 _ rfl
  have oz9 := (unhide OB).fz 9
  have o10 := (unhide OB).cell 10 _ rfl
  have oz10 := (unhide OB).fz 10
  have o11 := (unhide OB).cell 11 _ rfl
  have oz11 := (unhide OB).fz 11
  have o12 := (unhide OB).cell 12 _ rfl
  have oz12 := (unhide OB).fz 12
  have hx4 : ((((W2.setCell ⟨T, 3, none⟩ (.int .u64 (z : Nat))).setCell ⟨T, 4, none⟩ (.int .u64 (z : Nat))).setCell ⟨T, 5, none⟩ (.bool true)).setCell ⟨T, 4, none⟩ (.int .u64 (z : Nat))).cell? ⟨T, 4, none⟩ = some (.int .u64 (z : Nat)) := (((((unhide TB).put 3 (.int .u64 (z : Nat))).put 4 (.int .u64 (z : Nat))).put 5 (.bool true)).put 4 (.int .u64 (z : Nat))).cell 4 _ rfl
  go_wp2_with fail
  have OB2 := (((((((((((unhide OB).set (p := ⟨T, 3, none⟩) (u := .int .u64 (z : Nat)) (Ne.symm nOT)).set (p := ⟨T, 4, none⟩) (u := .int .u64 (z : Nat)) (Ne.symm nOT)).set (p := ⟨T, 5, none⟩) (u := .bool true) (Ne.symm nOT)).set (p := ⟨T, 4, none⟩) (u := .int .u64 (z : Nat)) (Ne.symm nOT)).put 7 (.int .i64 4)).put 8 (.int .i64 a)).put 9 (.int .i64 b)).put 10 (.int .u64 (z : Nat))).put 11 (.int .u64 (z : Nat))).put 12 (.bool true))
  have TB2 := (((((((((((unhide TB).put 3 (.int .u64 (z : Nat))).put 4 (.int .u64 (z : Nat))).put 5 (.bool true)).put 4 (.int .u64 (z : Nat))).set (p := ⟨O, 7, none⟩) (u := .int .i64 4) nOT).set (p := ⟨O, 8, none⟩) (u := .int .i64 a) nOT).set (p := ⟨O, 9, none⟩) (u := .int .i64 b) nOT).set (p := ⟨O, 10, none⟩) (u := .int .u64 (z : Nat)) nOT).set (p := ⟨O, 11, none⟩) (u := .int .u64 (z : Nat)) nOT).set (p := ⟨O, 12, none⟩) (u := .bool true) nOT)
  have RB2 := (((((((((((unhide RB).set (p := ⟨T, 3, none⟩) (u := .int .u64 (z : Nat)) nTR).set (p := ⟨T, 4, none⟩) (u := .int .u64 (z : Nat)) nTR).set (p := ⟨T, 5, none⟩) (u := .bool true) nTR).set (p := ⟨T, 4, none⟩) (u := .int .u64 (z : Nat)) nTR).set (p := ⟨O, 7, none⟩) (u := .int .i64 4) nOR).set (p := ⟨O, 8, none⟩) (u := .int .i64 a) nOR).set (p := ⟨O, 9, none⟩) (u := .int .i64 b) nOR).set (p := ⟨O, 10, none⟩) (u := .int .u64 (z : Nat)) nOR).set (p := ⟨O, 11, none⟩) (u := .int .u64 (z : Nat)) nOR).set (p := ⟨O, 12, none⟩) (u := .bool true) nOR)
  have QB2 := (((((((((((unhide QB).set (p := ⟨T, 3, none⟩) (u := .int .u64 (z : Nat)) nTQ).set (p := ⟨T, 4, none⟩) (u := .int .u64 (z : Nat)) nTQ).set (p := ⟨T, 5, none⟩) (u := .bool true) nTQ).set (p := ⟨T, 4, none⟩) (u := .int .u64 (z : Nat)) nTQ).set (p := ⟨O, 7, none⟩) (u := .int .i64 4) nOQ).set (p := ⟨O, 8, none⟩) (u := .int .i64 a) nOQ).set (p := ⟨O, 9, none⟩) (u := .int .i64 b) nOQ).set (p := ⟨O, 10, none⟩) (u := .int .u64 (z : Nat)) nOQ).set (p := ⟨O, 11, none⟩) (u := .int .u64 (z : Nat)) nOQ).set (p := ⟨O, 12, none⟩) (u := .bool true) nOQ)
  have hB3 := ((((((((((hB2.setCell (p := ⟨T, 3, none⟩) ht0 (.int .u64 (z : Nat))).setCell (p := ⟨T, 4, none⟩) ht0 (.int .u64 (z : Nat))).setCell (p := ⟨T, 5, none⟩) ht0 (.bool true)).setCell (p := ⟨T, 4, none⟩) ht0 (.int .u64 (z : Nat))).setCell (p := ⟨O, 7, none⟩) ho0 (.int .i64 4)).setCell (p := ⟨O, 8, none⟩) ho0 (.int .i64 a)).setCell (p := ⟨O, 9, none⟩) ho0 (.int .i64 b)).setCell (p := ⟨O, 10, none⟩) ho0 (.int .u64 (z : Nat))).setCell (p := ⟨O, 11, none⟩) ho0 (.int .u64 (z : Nat))).setCell (p := ⟨O, 12, none⟩) ho0 (.bool true))
  simp only [List.set] at OB2 TB2
  clear t0 tz0 t1 tz1 t2 tz2 t3 tz3 t4 tz4 t5 tz5 o0 oz0 o1 oz1 o2 oz2 o3 oz3 o4 oz4 o5 oz5 o6 oz6 o7 oz7 o8 oz8 o9 oz9 o10 oz10 o11 oz11 o12 oz12 OB TB RB QB hB2
  generalize (((((((((W2.setCell ⟨T, 3, none⟩ (.int .u64 (z : Nat))).setCell ⟨T, 4, none⟩ (.int .u64 (z : Nat))).setCell ⟨T, 5, none⟩ (.bool true)).setCell ⟨T, 4, none⟩ (.int .u64 (z : Nat))).setCell ⟨O, 7, none⟩ (.int .i64 4)).setCell ⟨O, 8, none⟩ (.int .i64 a)).setCell ⟨O, 9, none⟩ (.int .i64 b)).setCell ⟨O, 10, none⟩ (.int .u64 (z : Nat))).setCell ⟨O, 11, none⟩ (.int .u64 (z : Nat))).setCell ⟨O, 12, none⟩ (.bool true) = X at *
  have OB := hide OB2
  have TB := hide TB2
  have RB := hide RB2
  have QB := hide QB2
  clear OB2 TB2 RB2 QB2
  have t0 := (unhide TB).cell 0 _ rfl
  have t1 := (unhide TB).cell 1 _ rfl
  have t2 := (unhide TB).cell 2 _ rfl
  have t3 := (unhide TB).cell 3 _ rfl
  have t4 := (unhide TB).cell 4 _ rfl
  have t5 := (unhide TB).cell 5 _ rfl
  have o0 := (unhide OB).cell 0 _ rfl
  have o1 := (unhide OB).cell 1 _ rfl
  have o2 := (unhide OB).cell 2 _ rfl
  have o3 := (unhide OB).cell 3 _ rfl
  have o4 := (unhide OB).cell 4 _ rfl
  have o5 := (unhide OB).cell 5 _ rfl
  have o6 := (unhide OB).cell 6 _ rfl
  have o7 := (unhide OB).cell 7 _ rfl
  have o8 := (unhide OB).cell 8 _ rfl
  have o9 := (unhide OB).cell 9 _ rfl
  have o10 := (unhide OB).cell 10 _ rfl
  have o11 := (unhide OB).cell 11 _ rfl
  have o12 := (unhide OB).cell 12 _ rfl
  have r0 := (unhide RB).cell 0 _ rfl
  have rz0 := (unhide RB).fz 0
  have r1 := (unhide RB).cell 1 _ rfl
  have rz1 := (unhide RB).fz 1
  have r2 := (unhide RB).cell 2 _ rfl
  have rz2 := (unhide RB).fz 2
  have r3 := (unhide RB).cell 3 _ rfl
  have rz3 := (unhide RB).fz 3
  have r4 := (unhide RB).cell 4 _ rfl
  have rz4 := (unhide RB).fz 4
  have r5 := (unhide RB).cell 5 _ rfl
  have rz5 := (unhide RB).fz 5
  have r6 := (unhide RB).cell 6 _ rfl
  have rz6 := (unhide RB).fz 6
  have r7 := (unhide RB).cell 7 _ rfl
  have rz7 := (unhide RB).fz 7
  have r8 := (unhide RB).cell 8 _ rfl
  have rz8 := (unhide RB).fz 8
  have r9 := (unhide RB).cell 9 _ rfl
  have rz9 := (unhide RB).fz 9
  have r10 := (unhide RB).cell 10 _ rfl
  have rz10 := (unhide RB).fz 10
  have r11 := (unhide RB).cell 11 _ rfl
  have rz11 := (unhide RB).fz 11
  have r12 := (unhide RB).cell 12 _ rfl
  have rz12 := (unhide RB).fz 12
  have q0 := (unhide QB).cell 0 _ rfl
  have qz0 := (unhide QB).fz 0
  have q1 := (unhide QB).cell 1 _ rfl
  have qz1 := (unhide QB).fz 1
  have q2 := (unhide QB).cell 2 _ rfl
  have qz2 := (unhide QB).fz 2
  have q3 := (unhide QB).cell 3 _ rfl
  have qz3 := (unhide QB).fz 3
  have q4 := (unhide QB).cell 4 _ rfl
  have qz4 := (unhide QB).fz 4
  have q5 := (unhide QB).cell 5 _ rfl
  have qz5 := (unhide QB).fz 5
  go_region
  all_goals
    have RB2 := (((((((((((((((((((((unhide RB).put 0 (.int .i64 c.t)).put 1 (.int .i64 c.s)).put 2 (.int .i64 c.k)).put 3 (.int .i64 c.g)).put 4 (.int .u64 c.q)).put 5 (.slice (some ⟨g, off, none⟩) c.n cap0)).put 6 (.int .i64 (wrap64 (cnt + 1)))).put 7 (.int .i64 4)).put 8 (.int .i64 a)).put 9 (.int .i64 b)).put 10 (.int .u64 (z : Nat))).put 11 (.int .u64 (z : Nat))).put 12 (.bool true)).set (p := ⟨Q, 0, none⟩) (u := .int .i64 4) nQR).set (p := ⟨Q, 1, none⟩) (u := .int .i64 a) nQR).set (p := ⟨Q, 2, none⟩) (u := .int .i64 b) nQR).set (p := ⟨Q, 3, none⟩) (u := .int .u64 (z : Nat)) nQR).set (p := ⟨Q, 4, none⟩) (u := .int .u64 (z : Nat)) nQR).set (p := ⟨Q, 5, none⟩) (u := .bool true) nQR)).drew
    have QB2 := (((((((((((((((((((((unhide QB).set (p := ⟨R, 0, none⟩) (u := .int .i64 c.t) (Ne.symm nQR)).set (p := ⟨R, 1, none⟩) (u := .int .i64 c.s) (Ne.symm nQR)).set (p := ⟨R, 2, none⟩) (u := .int .i64 c.k) (Ne.symm nQR)).set (p := ⟨R, 3, none⟩) (u := .int .i64 c.g) (Ne.symm nQR)).set (p := ⟨R, 4, none⟩) (u := .int .u64 c.q) (Ne.symm nQR)).set (p := ⟨R, 5, none⟩) (u := .slice (some ⟨g, off, none⟩) c.n cap0) (Ne.symm nQR)).set (p := ⟨R, 6, none⟩) (u := .int .i64 (wrap64 (cnt + 1))) (Ne.symm nQR)).set (p := ⟨R, 7, none⟩) (u := .int .i64 4) (Ne.symm nQR)).set (p := ⟨R, 8, none⟩) (u := .int .i64 a) (Ne.symm nQR)).set (p := ⟨R, 9, none⟩) (u := .int .i64 b) (Ne.symm nQR)).set (p := ⟨R, 10, none⟩) (u := .int .u64 (z : Nat)) (Ne.symm nQR)).set (p := ⟨R, 11, none⟩) (u := .int .u64 (z : Nat)) (Ne.symm nQR)).set (p := ⟨R, 12, none⟩) (u := .bool true) (Ne.symm nQR)).put 0 (.int .i64 4)).put 1 (.int .i64 a)).put 2 (.int .i64 b)).put 3 (.int .u64 (z : Nat))).put 4 (.int .u64 (z : Nat))).put 5 (.bool true))).drew
    have hB4 := ((((((((((((((((((((hB3.setCell (p := ⟨R, 0, none⟩) hr0 (.int .i64 c.t)).setCell (p := ⟨R, 1, none⟩) hr0 (.int .i64 c.s)).setCell (p := ⟨R, 2, none⟩) hr0 (.int .i64 c.k)).setCell (p := ⟨R, 3, none⟩) hr0 (.int .i64 c.g)).setCell (p := ⟨R, 4, none⟩) hr0 (.int .u64 c.q)).setCell (p := ⟨R, 5, none⟩) hr0 (.slice (some ⟨g, off, none⟩) c.n cap0)).setCell (p := ⟨R, 6, none⟩) hr0 (.int .i64 (wrap64 (cnt + 1)))).setCell (p := ⟨R, 7, none⟩) hr0 (.int .i64 4)).setCell (p := ⟨R, 8, none⟩) hr0 (.int .i64 a)).setCell (p := ⟨R, 9, none⟩) hr0 (.int .i64 b)).setCell (p := ⟨R, 10, none⟩) hr0 (.int .u64 (z : Nat))).setCell (p := ⟨R, 11, none⟩) hr0 (.int .u64 (z : Nat))).setCell (p := ⟨R, 12, none⟩) hr0 (.bool true)).setCell (p := ⟨Q, 0, none⟩) hq0 (.int .i64 4)).setCell (p := ⟨Q, 1, none⟩) hq0 (.int .i64 a)).setCell (p := ⟨Q, 2, none⟩) hq0 (.int .i64 b)).setCell (p := ⟨Q, 3, none⟩) hq0 (.int .u64 (z : Nat))).setCell (p := ⟨Q, 4, none⟩) hq0 (.int .u64 (z : Nat))).setCell (p := ⟨Q, 5, none⟩) hq0 (.bool true))).drew
    simp only [List.set] at RB2 QB2
    have RH := hide RB2
    have QH := hide QB2
    have HB4 := hide hB4
    clear RB2 QB2 hB4 t0 t1 t2 t3 t4 t5 o0 o1 o2 o3 o4 o5 o6 o7 o8 o9 o10 o11 o12 r0 rz0 r1 rz1 r2 rz2 r3 rz3 r4 rz4 r5 rz5 r6 rz6 r7 rz7 r8 rz8 r9 rz9 r10 rz10 r11 rz11 r12 rz12 q0 qz0 q1 qz1 q2 qz2 q3 qz3 q4 qz4 q5 qz5
    go_wp2
    have RB2 := unhide RH
    have QB2 := unhide QH
    have hB4 := unhide HB4
    generalize World.drew _ = Wf at RB2 QB2 hB4 ⊢
    refine bodyPost_ret (v := .tuple #[.agg #[.int .i64 c.t, .int .i64 c.s, .int .i64 c.k, .int .i64 c.g, .int .u64 c.q, .slice (some ⟨g, off, none⟩) c.n cap0, .int .i64 (wrap64 (cnt + 1)), .int .i64 4, .int .i64 a, .int .i64 b, .int .u64 (z : Nat), .int .u64 (z : Nat), .bool true], .agg #[.int .i64 4, .int .i64 a, .int .i64 b, .int .u64 (z : Nat), .int .u64 (z : Nat), .bool true]]) (by simp [results, Tryz.results90, go_sem, RB2.cell 0 _ rfl, RB2.cell 1 _ rfl, RB2.cell 2 _ rfl, RB2.cell 3 _ rfl, RB2.cell 4 _ rfl, RB2.cell 5 _ rfl, RB2.cell 6 _ rfl, RB2.cell 7 _ rfl, RB2.cell 8 _ rfl, RB2.cell 9 _ rfl, RB2.cell 10 _ rfl, RB2.cell 11 _ rfl, RB2.cell 12 _ rfl, QB2.cell 0 _ rfl, QB2.cell 1 _ rfl, QB2.cell 2 _ rfl, QB2.cell 3 _ rfl, QB2.cell 4 _ rfl, QB2.cell 5 _ rfl]) rfl ?_
    refine ⟨.slice (some ⟨g, off, none⟩) c.n cap0, by rw [next_eq], ?_, .inl rfl, hB4⟩
    rw [Um.putW_id (by rw [unhide HZ])]
    exact ((unhide HV).low.below hB4).is hB4.size
end
end Go.Proofs.YtapgghciieloaaaGreat
