/-
  Texts that the laws stand on, merged (StoreE, StoreM, StoreF, ChartC, ChartD, StoreQ, StoreK, StoreL).
-/
import Derived.Test.YtapgghciieloaaaGreatQ1
import Derived.Test.YtapgghciieloaaaGreatQ2
import Derived.Test.YtapgghciieloaaaGreatQ3
import Derived.Deep.AppendLies
import Derived.Deep.RegionHeld3
import Derived.Deep.RegionLawGrows
import Derived.Laws.EntriesVeiled
import Derived.LoopTactic

namespace Go.Proofs.YtapgghciieloaaaGreat
section
set_option maxRecDepth 100000
open Go.RowKit Go.Sort
theorem egL (args : Array Value) (w : World) : (callFunc 75 args).run Tryz.prog w = .ok (.enter 75 args) w := by go_simp
theorem egS (args : Array Value) (w : World) : (callFunc 73 args).run Tryz.prog w = .ok (.enter 73 args) w := by go_simp
theorem egW (args : Array Value) (w : World) : (callFunc 139 args).run Tryz.prog w = .ok (.enter 139 args) w := by go_simp
set_option maxHeartbeats 2000000 in
theorem mAccess_hit {W : World} {B C : Nat} {c : Um.Cf} {m : Um.Mm} (h : MemAt W B C c m) (kind a b : Int) (o v : Nat) (F : FuncId) (eg : ∀ args w, (callFunc F args).run Tryz.prog w = .ok (.enter F args) w)
    (hF : ∀ x w, Calls Tryz.prog F #[.agg #[.int .u64 o, .int .u64 v], .int .u64 (x : Nat)] w fun e w' => e = .returned (.tuple #[.int .u64 (Um.trn kind o v x : Nat), .bool (Um.trd kind o x)]) ∧ Below w.heap.size w w')
    (hb0 : -9223372036854775808 ≤ b) (hb1 : b ≤ 9223372036854775807) (hv : Um.Word v) (p : Nat) (hp : c.cl a b = p) :
    Calls Tryz.prog 72 #[.pointer (some ⟨B, 0, none⟩), .int .i64 kind, (.agg #[.int .i64 a, .int .i64 b]), .func (.func F) #[.agg #[.int .u64 o, .int .u64 v]] #[]] W fun e W' =>
      e = .returned (.agg #[.int .i64 kind, .int .i64 a, .int .i64 b, .int .u64 (m.ws p : Nat), .int .u64 ((Um.trn kind o v (m.ws p) : Nat)), .bool (Um.trd kind o (m.ws p))]) ∧ MemAt W' B C c (Um.mhit m p kind a b o v) ∧ Off B C W W' := by
  have hcl := fun w => cCell_any c.t c.s c.k c.g c.q a b w hb0 hb1
  rw [show Um.cellN (Um.rt c.t c.s c.k c.g c.q) c.t c.s c.k a b = p from hp] at hcl
  have hpn : p < c.n := by have := Um.Cf.cl_lt (c := c) (a := a) (b := b) (by omega); rw [hp] at this; simpa using this
  have hW := hide (h.wd p hpn)
  have hBn : B ≠ W.heap.size ∧ B ≠ W.heap.size + 1 ∧ B ≠ W.heap.size + 1 + 1 := by have := h.hB; omega
  have hCn : C ≠ W.heap.size ∧ C ≠ W.heap.size + 1 ∧ C ≠ W.heap.size + 1 + 1 := by have := h.hC; omega
  clear hp hb0 hb1
  have hne := h.ne
  go_enter Tryz.func72, Tryz.ntmps72
  go_wp2_with fail
  generalize hw1 : ((W.alloc (.cells #[.int .i64 a, .int .i64 b] 67)).alloc (.cells #[.int .i64 0, .int .i64 0, .int .i64 0, .int .u64 0, .int .u64 0, .bool false] 113)).alloc (.cells #[.int .i64 kind, .int .i64 a, .int .i64 b, .int .u64 0, .int .u64 0, .bool false] 113) = w1
  obtain ⟨hS1, hR1, hT1⟩ : SpAt w1 W.heap.size a b ∧ TchAt w1 (W.heap.size + 1) ⟨0, 0, 0, 0, 0, false⟩ ∧ TchAt w1 (W.heap.size + 1 + 1) ⟨kind, a, b, 0, 0, false⟩ := by
    subst hw1
    obtain ⟨h1, h2, h3⟩ := alloc3_at W (.cells #[.int .i64 a, .int .i64 b] 67) (.cells #[.int .i64 0, .int .i64 0, .int .i64 0, .int .u64 0, .int .u64 0, .bool false] 113) (.cells #[.int .i64 kind, .int .i64 a, .int .i64 b, .int .u64 0, .int .u64 0, .bool false] 113)
    exact ⟨spAt_new h1, tchAt_new _ h2, tchAt_new _ h3⟩
  have hO1 : Off B C W w1 := by
    subst hw1
    exact (((Off.refl B C W).alloc _).alloc _).alloc _
  have hM1 : MemAt w1 B C c m := by
    subst hw1
    exact h.below ((((Below.refl W.heap.size W).alloc (Nat.le_refl _) _).alloc (by simp) _).alloc (by simp; omega) _) h.hB h.hC
  clear hw1 h
  obtain ⟨_, a0, a1⟩ := id hS1
  obtain ⟨_, _, _, _, f0, f1, f2, f3, f4, _⟩ := id hM1
  have k0 : ∀ d os, (grow (redrawn w1 d) os).cell? ⟨B, 0, none⟩ = some (.int .i64 c.t) := fun d os => cell_regrown f0 d os
  have k1 : ∀ d os, (grow (redrawn w1 d) os).cell? ⟨B, 1, none⟩ = some (.int .i64 c.s) := fun d os => cell_regrown f1 d os
  have k2 : ∀ d os, (grow (redrawn w1 d) os).cell? ⟨B, 2, none⟩ = some (.int .i64 c.k) := fun d os => cell_regrown f2 d os
  have k3 : ∀ d os, (grow (redrawn w1 d) os).cell? ⟨B, 3, none⟩ = some (.int .i64 c.g) := fun d os => cell_regrown f3 d os
  have k4 : ∀ d os, (grow (redrawn w1 d) os).cell? ⟨B, 4, none⟩ = some (.int .u64 c.q) := fun d os => cell_regrown f4 d os
  have k5 : ∀ d os, (grow (redrawn w1 d) os).cell? ⟨W.heap.size, 0, none⟩ = some (.int .i64 a) := fun d os => cell_regrown a0 d os
  have k6 : ∀ d os, (grow (redrawn w1 d) os).cell? ⟨W.heap.size, 1, none⟩ = some (.int .i64 b) := fun d os => cell_regrown a1 d os
  refine wp_region_quiet_below (by kernel_rfl) (by kernel_rfl) ?_
  repeat (go_big_quiet_step (first
    | (go_at_call 98; exact Calls.regrown_of (hcl _))))
  refine wpQuiet_nil ?_
  intro w2 hw2
  have hb2 : Below w1.heap.size w1 w2 := by
    obtain ⟨⟨dq, osq⟩, hw3⟩ := hw2
    subst hw3
    exact below_regrown w1 dq osq
  have hR2 := hR1.below hb2
  have hT2 := hT1.below hb2
  have hM2 := hM1.below hb2 hM1.hB hM1.hC
  have hO2 := hO1.then hb2
  clear hb2 hw2 hR1 hT1 hM1 hO1 hS1 a0 a1 f0 f1 f2 f3 f4 k0 k1 k2 k3 k4 k5 k6 hcl
  have hTl : W.heap.size ≤ W.heap.size + 1 + 1 := by omega
  have hRl : W.heap.size ≤ W.heap.size + 1 := by omega
  have hTR : W.heap.size + 1 + 1 ≠ W.heap.size + 1 := by omega
  obtain ⟨_, hBR, hBT⟩ := hBn
  obtain ⟨_, hCR, hCT⟩ := hCn
  generalize W.heap.size + 1 + 1 = T at *
  generalize W.heap.size + 1 = R at *
  obtain ⟨_, _, _, _, _, _, _, _, _, e5, _⟩ := id hM2
  have e6 := hM2.ws p hpn
  obtain ⟨_, _, _, _, t3, _, _, tz⟩ := id hT2
  have tz3 := tz 3
  have hpi : (p : Int) < (c.n : Int) := by omega
  have hx0 : Um.Word (m.ws p) := unhide hW
  have HX := hide hx0
  clear hx0 hW tz
  go_wp2_with fail
  refine (hF _ _).mono ?_
  rintro e w4 ⟨rfl, hb4⟩
  have hT3 : TchAt (w2.setCell ⟨T, 3, none⟩ (.int .u64 (m.ws p : Nat))) T ⟨kind, a, b, m.ws p, 0, false⟩ := hT2.set3 (m.ws p)
  have hR3 := hR2.set (p := ⟨T, 3, none⟩) (u := .int .u64 (m.ws p : Nat)) hTR
  have hM3 := hM2.set (p := ⟨T, 3, none⟩) (u := .int .u64 (m.ws p : Nat)) (Ne.symm hBT) (Ne.symm hCT)
  have hO3 := hO2.set (p := ⟨T, 3, none⟩) (.inr (.inr hTl)) (.int .u64 (m.ws p : Nat))
  generalize w2.setCell ⟨T, 3, none⟩ (.int .u64 (m.ws p : Nat)) = w3 at *
  have hT4 := hT3.below hb4
  have hR4 := hR3.below hb4
  have hM4 := hM3.below hb4 hM3.hB hM3.hC
  have hO4 := hO3.then hb4
  clear hb4 hT3 hR3 hM3 hO3 hT2 hR2 hM2 hO2 hF eg e5 e6 t3 tz3
  obtain ⟨_, _, _, _, _, t4, t5, tz⟩ := id hT4
  have tz4 := tz 4
  have tz5 := tz 5
  clear tz
  go_wp2_with fail
  have hT5 : TchAt ((w4.setCell ⟨T, 4, none⟩ (.int .u64 (Um.trn kind o v (m.ws p) : Nat))).setCell ⟨T, 5, none⟩ (.bool (Um.trd kind o (m.ws p)))) T ⟨kind, a, b, m.ws p, Um.trn kind o v (m.ws p), Um.trd kind o (m.ws p)⟩ := (hT4.set4 (Um.trn kind o v (m.ws p))).set5 _
  have hR5 := (hR4.set (p := ⟨T, 4, none⟩) (u := .int .u64 (Um.trn kind o v (m.ws p) : Nat)) hTR).set (p := ⟨T, 5, none⟩) (u := .bool (Um.trd kind o (m.ws p))) hTR
  have hM5 := (hM4.set (p := ⟨T, 4, none⟩) (u := .int .u64 (Um.trn kind o v (m.ws p) : Nat)) (Ne.symm hBT) (Ne.symm hCT)).set (p := ⟨T, 5, none⟩) (u := .bool (Um.trd kind o (m.ws p))) (Ne.symm hBT) (Ne.symm hCT)
  have hO5 := (hO4.set (p := ⟨T, 4, none⟩) (.inr (.inr hTl)) (.int .u64 (Um.trn kind o v (m.ws p) : Nat))).set (p := ⟨T, 5, none⟩) (.inr (.inr hTl)) (.bool (Um.trd kind o (m.ws p)))
  generalize World.setCell (w4.setCell ⟨T, 4, none⟩ (.int .u64 (Um.trn kind o v (m.ws p) : Nat))) ⟨T, 5, none⟩ (.bool (Um.trd kind o (m.ws p))) = w5 at *
  clear hT4 hR4 hM4 hO4 t4 t5 tz4 tz5
  have hy := hide (Um.word_trn (kind := kind) (old := o) hv (unhide HX))
  generalize hye : Um.trn kind o v (m.ws p) = y at *
  generalize hde : Um.trd kind o (m.ws p) = dn at *
  have HYE := hide hye
  have HDE := hide hde
  clear hye hde
  have HT := hide hT5
  have HR := hide hR5
  have HM := hide hM5
  have HO := hide hO5
  have e6 := hM5.ws p hpn
  obtain ⟨_, t0, t1, t2, t3, t4, t5, tz⟩ := hT5
  obtain ⟨_, r0, r1, r2, r3, r4, r5, rz⟩ := hR5
  obtain ⟨_, _, _, _, _, _, _, _, _, m5, m6, m7, m8, m9, m10, m11, m12, mz, mc, _, _⟩ := hM5
  have rz0 := rz 0
  have rz1 := rz 1
  have rz2 := rz 2
  have rz3 := rz 3
  have rz4 := rz 4
  have rz5 := rz 5
  have mz6 := mz 6
  have mz7 := mz 7
  have mz8 := mz 8
  have mz9 := mz 9
  have mz10 := mz 10
  have mz11 := mz 11
  have mz12 := mz 12
  have mcp := mc p
  clear tz rz mz mc hO5
  go_region
  go_wp2
  have hM := unhide HM
  have hR := unhide HR
  have hO := unhide HO
  have hY := unhide hy
  have hm := (((((((((((((hM.setWord hpn hY).setCnt (wrap64 (m.cnt + 1))).setL0 kind).setL1 a).setL2 b).setL3 (m.ws p)).setL4 y).setL5 dn).set (p := ⟨R, 0, none⟩) (u := .int .i64 kind) (Ne.symm hBR) (Ne.symm hCR)).set (p := ⟨R, 1, none⟩) (u := .int .i64 a) (Ne.symm hBR) (Ne.symm hCR)).set (p := ⟨R, 2, none⟩) (u := .int .i64 b) (Ne.symm hBR) (Ne.symm hCR)).set (p := ⟨R, 3, none⟩) (u := .int .u64 (m.ws p : Nat)) (Ne.symm hBR) (Ne.symm hCR)).set (p := ⟨R, 4, none⟩) (u := .int .u64 (y : Nat)) (Ne.symm hBR) (Ne.symm hCR)).set (p := ⟨R, 5, none⟩) (u := .bool dn) (Ne.symm hBR) (Ne.symm hCR)
  have hr := (((((((((((((hR.set (p := ⟨C, p, none⟩) (u := .int .u64 (y : Nat)) hCR).set (p := ⟨B, 6, none⟩) (u := .int .i64 (wrap64 (m.cnt + 1))) hBR).set (p := ⟨B, 7, none⟩) (u := .int .i64 kind) hBR).set (p := ⟨B, 8, none⟩) (u := .int .i64 a) hBR).set (p := ⟨B, 9, none⟩) (u := .int .i64 b) hBR).set (p := ⟨B, 10, none⟩) (u := .int .u64 (m.ws p : Nat)) hBR).set (p := ⟨B, 11, none⟩) (u := .int .u64 (y : Nat)) hBR).set (p := ⟨B, 12, none⟩) (u := .bool dn) hBR).set0 kind).set1 a).set2 b).set3 (m.ws p)).set4 y).set5 dn
  have ho := (((((((((((((hO.set (p := ⟨C, p, none⟩) (.inr (.inl rfl)) (.int .u64 (y : Nat))).set (p := ⟨B, 6, none⟩) (.inl rfl) (.int .i64 (wrap64 (m.cnt + 1)))).set (p := ⟨B, 7, none⟩) (.inl rfl) (.int .i64 kind)).set (p := ⟨B, 8, none⟩) (.inl rfl) (.int .i64 a)).set (p := ⟨B, 9, none⟩) (.inl rfl) (.int .i64 b)).set (p := ⟨B, 10, none⟩) (.inl rfl) (.int .u64 (m.ws p : Nat))).set (p := ⟨B, 11, none⟩) (.inl rfl) (.int .u64 (y : Nat))).set (p := ⟨B, 12, none⟩) (.inl rfl) (.bool dn)).set (p := ⟨R, 0, none⟩) (.inr (.inr hRl)) (.int .i64 kind)).set (p := ⟨R, 1, none⟩) (.inr (.inr hRl)) (.int .i64 a)).set (p := ⟨R, 2, none⟩) (.inr (.inr hRl)) (.int .i64 b)).set (p := ⟨R, 3, none⟩) (.inr (.inr hRl)) (.int .u64 (m.ws p : Nat))).set (p := ⟨R, 4, none⟩) (.inr (.inr hRl)) (.int .u64 (y : Nat))).set (p := ⟨R, 5, none⟩) (.inr (.inr hRl)) (.bool dn)
  have hm' := hm.drew
  have hr' := hr.drew
  have ho' := ho.drew
  generalize hWf : World.drew _ = Wf at hm' hr' ho' ⊢
  obtain ⟨_, q0, q1, q2, q3, q4, q5, _⟩ := hr'
  refine bodyPost_ret (v := (.agg #[.int .i64 kind, .int .i64 a, .int .i64 b, .int .u64 (m.ws p : Nat), .int .u64 (y : Nat), .bool dn])) (by simp [results, Tryz.results72, go_sem, q0, q1, q2, q3, q4, q5]) rfl ⟨by rw [unhide HYE, unhide HDE], ?_, ho'⟩
  unfold Um.mhit
  rw [unhide HYE, unhide HDE]
  dsimp only at hm'
  rw [next_eq] at hm'
  exact hm'
end
section
set_option maxRecDepth 100000
open Go.RowKit Go.Sort
set_option maxHeartbeats 2000000 in
theorem mAccess_miss {W : World} {B C : Nat} {c : Um.Cf} {m : Um.Mm} (h : MemAt W B C c m) (kind a b : Int) (fv : Value)
    (hb0 : -9223372036854775808 ≤ b) (hb1 : b ≤ 9223372036854775807) (hp : c.cl a b = -1) :
    Calls Tryz.prog 72 #[.pointer (some ⟨B, 0, none⟩), .int .i64 kind, (.agg #[.int .i64 a, .int .i64 b]), fv] W fun e W' =>
      e = .returned (.agg #[.int .i64 kind, .int .i64 a, .int .i64 b, .int .u64 0, .int .u64 0, .bool false]) ∧ MemAt W' B C c (Um.mmiss m kind a b) ∧ Off B C W W' := by
  have hcl := fun w => cCell_any c.t c.s c.k c.g c.q a b w hb0 hb1
  rw [show Um.cellN (Um.rt c.t c.s c.k c.g c.q) c.t c.s c.k a b = -1 from hp] at hcl
  have hBn : B ≠ W.heap.size ∧ B ≠ W.heap.size + 1 ∧ B ≠ W.heap.size + 1 + 1 := by have := h.hB; omega
  have hCn : C ≠ W.heap.size ∧ C ≠ W.heap.size + 1 ∧ C ≠ W.heap.size + 1 + 1 := by have := h.hC; omega
  clear hp hb0 hb1
  have hne := h.ne
  go_enter Tryz.func72, Tryz.ntmps72
  go_wp2_with fail
  generalize hw1 : ((W.alloc (.cells #[.int .i64 a, .int .i64 b] 67)).alloc (.cells #[.int .i64 0, .int .i64 0, .int .i64 0, .int .u64 0, .int .u64 0, .bool false] 113)).alloc (.cells #[.int .i64 kind, .int .i64 a, .int .i64 b, .int .u64 0, .int .u64 0, .bool false] 113) = w1
  obtain ⟨hS1, hR1, hT1⟩ : SpAt w1 W.heap.size a b ∧ TchAt w1 (W.heap.size + 1) ⟨0, 0, 0, 0, 0, false⟩ ∧ TchAt w1 (W.heap.size + 1 + 1) ⟨kind, a, b, 0, 0, false⟩ := by
    subst hw1
    obtain ⟨h1, h2, h3⟩ := alloc3_at W (.cells #[.int .i64 a, .int .i64 b] 67) (.cells #[.int .i64 0, .int .i64 0, .int .i64 0, .int .u64 0, .int .u64 0, .bool false] 113) (.cells #[.int .i64 kind, .int .i64 a, .int .i64 b, .int .u64 0, .int .u64 0, .bool false] 113)
    exact ⟨spAt_new h1, tchAt_new _ h2, tchAt_new _ h3⟩
  have hO1 : Off B C W w1 := by
    subst hw1
    exact (((Off.refl B C W).alloc _).alloc _).alloc _
  have hM1 : MemAt w1 B C c m := by
    subst hw1
    exact h.below ((((Below.refl W.heap.size W).alloc (Nat.le_refl _) _).alloc (by simp) _).alloc (by simp; omega) _) h.hB h.hC
  clear hw1 h
  obtain ⟨_, a0, a1⟩ := id hS1
  obtain ⟨_, _, _, _, f0, f1, f2, f3, f4, _⟩ := id hM1
  have k0 : ∀ d os, (grow (redrawn w1 d) os).cell? ⟨B, 0, none⟩ = some (.int .i64 c.t) := fun d os => cell_regrown f0 d os
  have k1 : ∀ d os, (grow (redrawn w1 d) os).cell? ⟨B, 1, none⟩ = some (.int .i64 c.s) := fun d os => cell_regrown f1 d os
  have k2 : ∀ d os, (grow (redrawn w1 d) os).cell? ⟨B, 2, none⟩ = some (.int .i64 c.k) := fun d os => cell_regrown f2 d os
  have k3 : ∀ d os, (grow (redrawn w1 d) os).cell? ⟨B, 3, none⟩ = some (.int .i64 c.g) := fun d os => cell_regrown f3 d os
  have k4 : ∀ d os, (grow (redrawn w1 d) os).cell? ⟨B, 4, none⟩ = some (.int .u64 c.q) := fun d os => cell_regrown f4 d os
  have k5 : ∀ d os, (grow (redrawn w1 d) os).cell? ⟨W.heap.size, 0, none⟩ = some (.int .i64 a) := fun d os => cell_regrown a0 d os
  have k6 : ∀ d os, (grow (redrawn w1 d) os).cell? ⟨W.heap.size, 1, none⟩ = some (.int .i64 b) := fun d os => cell_regrown a1 d os
  refine wp_region_quiet_below (by kernel_rfl) (by kernel_rfl) ?_
  repeat (go_big_quiet_step (first
    | (go_at_call 98; exact Calls.regrown_of (hcl _))))
  refine wpQuiet_nil ?_
  intro w2 hw2
  have hb2 : Below w1.heap.size w1 w2 := by
    obtain ⟨⟨dq, osq⟩, hw3⟩ := hw2
    subst hw3
    exact below_regrown w1 dq osq
  have hR2 := hR1.below hb2
  have hT2 := hT1.below hb2
  have hM2 := hM1.below hb2 hM1.hB hM1.hC
  have hO2 := hO1.then hb2
  clear hb2 hw2 hR1 hT1 hM1 hO1 hS1 a0 a1 f0 f1 f2 f3 f4 k0 k1 k2 k3 k4 k5 k6 hcl
  have hTl : W.heap.size ≤ W.heap.size + 1 + 1 := by omega
  have hRl : W.heap.size ≤ W.heap.size + 1 := by omega
  have hTR : W.heap.size + 1 + 1 ≠ W.heap.size + 1 := by omega
  obtain ⟨_, hBR, hBT⟩ := hBn
  obtain ⟨_, hCR, hCT⟩ := hCn
  generalize W.heap.size + 1 + 1 = T at *
  generalize W.heap.size + 1 = R at *
  have HT := hide hT2
  have HR := hide hR2
  have HM := hide hM2
  have HO := hide hO2
  obtain ⟨_, t0, t1, t2, t3, t4, t5, tz⟩ := hT2
  obtain ⟨_, r0, r1, r2, r3, r4, r5, rz⟩ := hR2
  obtain ⟨_, _, _, _, _, _, _, _, _, m5, m6, m7, m8, m9, m10, m11, m12, mz, mc, _, _⟩ := hM2
  have rz0 := rz 0
  have rz1 := rz 1
  have rz2 := rz 2
  have rz3 := rz 3
  have rz4 := rz 4
  have rz5 := rz 5
  have mz6 := mz 6
  have mz7 := mz 7
  have mz8 := mz 8
  have mz9 := mz 9
  have mz10 := mz 10
  have mz11 := mz 11
  have mz12 := mz 12
  clear tz rz mz mc hO2
  go_wp2
  have hM := unhide HM
  have hR := unhide HR
  have hO := unhide HO
  have hm := ((((((((((((hM.setCnt (wrap64 (m.cnt + 1))).setL0 kind).setL1 a).setL2 b).setL3 0).setL4 0).setL5 false).set (p := ⟨R, 0, none⟩) (u := .int .i64 kind) (Ne.symm hBR) (Ne.symm hCR)).set (p := ⟨R, 1, none⟩) (u := .int .i64 a) (Ne.symm hBR) (Ne.symm hCR)).set (p := ⟨R, 2, none⟩) (u := .int .i64 b) (Ne.symm hBR) (Ne.symm hCR)).set (p := ⟨R, 3, none⟩) (u := .int .u64 0) (Ne.symm hBR) (Ne.symm hCR)).set (p := ⟨R, 4, none⟩) (u := .int .u64 0) (Ne.symm hBR) (Ne.symm hCR)).set (p := ⟨R, 5, none⟩) (u := .bool false) (Ne.symm hBR) (Ne.symm hCR)
  have hr := ((((((((((((hR.set (p := ⟨B, 6, none⟩) (u := .int .i64 (wrap64 (m.cnt + 1))) hBR).set (p := ⟨B, 7, none⟩) (u := .int .i64 kind) hBR).set (p := ⟨B, 8, none⟩) (u := .int .i64 a) hBR).set (p := ⟨B, 9, none⟩) (u := .int .i64 b) hBR).set (p := ⟨B, 10, none⟩) (u := .int .u64 0) hBR).set (p := ⟨B, 11, none⟩) (u := .int .u64 0) hBR).set (p := ⟨B, 12, none⟩) (u := .bool false) hBR).set0 kind).set1 a).set2 b).set3 0).set4 0).set5 false
  have ho := ((((((((((((hO.set (p := ⟨B, 6, none⟩) (.inl rfl) (.int .i64 (wrap64 (m.cnt + 1)))).set (p := ⟨B, 7, none⟩) (.inl rfl) (.int .i64 kind)).set (p := ⟨B, 8, none⟩) (.inl rfl) (.int .i64 a)).set (p := ⟨B, 9, none⟩) (.inl rfl) (.int .i64 b)).set (p := ⟨B, 10, none⟩) (.inl rfl) (.int .u64 0)).set (p := ⟨B, 11, none⟩) (.inl rfl) (.int .u64 0)).set (p := ⟨B, 12, none⟩) (.inl rfl) (.bool false)).set (p := ⟨R, 0, none⟩) (.inr (.inr hRl)) (.int .i64 kind)).set (p := ⟨R, 1, none⟩) (.inr (.inr hRl)) (.int .i64 a)).set (p := ⟨R, 2, none⟩) (.inr (.inr hRl)) (.int .i64 b)).set (p := ⟨R, 3, none⟩) (.inr (.inr hRl)) (.int .u64 0)).set (p := ⟨R, 4, none⟩) (.inr (.inr hRl)) (.int .u64 0)).set (p := ⟨R, 5, none⟩) (.inr (.inr hRl)) (.bool false)
  dsimp only at hm
  rw [next_eq] at hm
  simp only [next_eq] at hr ho
  clear HM HR HO hM hR hO HT
  have ez : ((0 : Nat) : Int) = 0 := rfl
  rw [ez] at hm hr
  rw [next_eq]
  generalize World.setCell _ _ _ = Wf at hm hr ho ⊢
  obtain ⟨_, q0, q1, q2, q3, q4, q5, _⟩ := hr
  exact bodyPost_ret (v := (.agg #[.int .i64 kind, .int .i64 a, .int .i64 b, .int .u64 0, .int .u64 0, .bool false])) (by simp [results, Tryz.results72, go_sem, q0, q1, q2, q3, q4, q5]) rfl ⟨rfl, hm, ho⟩
theorem field_old (k a b o n : Int) (d : Bool) (w : World) : (Instr.field 113 (.agg #[.int .i64 k, .int .i64 a, .int .i64 b, .int .u64 o, .int .u64 n, .bool d]) 2).run Tryz.prog w = .ok (.int .u64 o) w := by
  simp [Instr.field, go_sem, asAgg]
theorem field_done (k a b o n : Int) (d : Bool) (w : World) : (Instr.field 113 (.agg #[.int .i64 k, .int .i64 a, .int .i64 b, .int .u64 o, .int .u64 n, .bool d]) 4).run Tryz.prog w = .ok (.bool d) w := by
  simp [Instr.field, go_sem, asAgg]
theorem mAccess_any {W : World} {B C : Nat} {c : Um.Cf} {m : Um.Mm} (h : MemAt W B C c m) (kind a b : Int) (o v : Nat) (F : FuncId) (eg : ∀ args w, (callFunc F args).run Tryz.prog w = .ok (.enter F args) w)
    (hF : ∀ x w, Calls Tryz.prog F #[.agg #[.int .u64 o, .int .u64 v], .int .u64 (x : Nat)] w fun e w' => e = .returned (.tuple #[.int .u64 (Um.trn kind o v x : Nat), .bool (Um.trd kind o x)]) ∧ Below w.heap.size w w')
    (hb0 : -9223372036854775808 ≤ b) (hb1 : b ≤ 9223372036854775807) (hv : Um.Word v) (M : Um.Mm) (hM : M = Um.mtouch c m kind a b o v) :
    Calls Tryz.prog 72 #[.pointer (some ⟨B, 0, none⟩), .int .i64 kind, (.agg #[.int .i64 a, .int .i64 b]), .func (.func F) #[.agg #[.int .u64 o, .int .u64 v]] #[]] W fun e W' =>
      e = .returned (.agg #[.int .i64 (M.l.kind), .int .i64 (M.l.a), .int .i64 (M.l.b), .int .u64 (M.l.old : Nat), .int .u64 (M.l.new : Nat), .bool (M.l.done)]) ∧ MemAt W' B C c M ∧ Off B C W W' := by
  subst hM
  unfold Um.mtouch
  by_cases hp : 0 ≤ c.cl a b
  · rw [if_pos hp]
    exact mAccess_hit h kind a b o v F eg hF hb0 hb1 hv _ (Int.toNat_of_nonneg hp).symm
  · rw [if_neg hp]
    exact mAccess_miss h kind a b _ hb0 hb1 (by have := c.cl_ge a b; omega)
end
section
set_option maxRecDepth 100000
open Go.RowKit Go.Sort
attribute [local go_sem] field_old field_done
set_option maxHeartbeats 1000000 in
theorem mLoad_any {W : World} {B C : Nat} {c : Um.Cf} {m : Um.Mm} (h : MemAt W B C c m) (a b : Int) (hb0 : -9223372036854775808 ≤ b) (hb1 : b ≤ 9223372036854775807) (M : Um.Mm) (hM : M = Um.mtouch c m 1 a b 0 0) :
    Calls Tryz.prog 35 #[.pointer (some ⟨B, 0, none⟩), (.agg #[.int .i64 a, .int .i64 b])] W fun e W' => e = .returned (.int .u64 (M.l.old : Nat)) ∧ MemAt W' B C c M ∧ Off B C W W' := by
  have hS : Off B C W (W.alloc (.cells #[.int .i64 a, .int .i64 b] 67)) := (Off.refl B C W).alloc _
  have hM1 : MemAt (W.alloc (.cells #[.int .i64 a, .int .i64 b] 67)) B C c m := h.below ((Below.refl _ _).alloc (Nat.le_refl _) _) h.hB h.hC
  have hA := mAccess_any hM1 1 a b 0 0 75 egL (wLoad_any 0 0) hb0 hb1 (by unfold Um.Word; omega) M hM
  clear hM h hM1 hb0 hb1
  go_enter Tryz.func35, Tryz.ntmps35
  go_wp2_with fail
  refine hA.mono ?_
  rintro e w1 ⟨rfl, hM1, hO1⟩
  have HM := hide hM1
  have HO := hide (hS.trans hO1)
  clear hM1 hO1 hA hS
  go_wp2
  go_ret
  exact ⟨rfl, unhide HM, unhide HO⟩
set_option maxHeartbeats 1000000 in
theorem mStore_any {W : World} {B C : Nat} {c : Um.Cf} {m : Um.Mm} (h : MemAt W B C c m) (a b : Int) (v : Nat) (hv : Um.Word v) (hb0 : -9223372036854775808 ≤ b) (hb1 : b ≤ 9223372036854775807) (M : Um.Mm) (hM : M = Um.mtouch c m 2 a b 0 v) :
    Calls Tryz.prog 33 #[.pointer (some ⟨B, 0, none⟩), (.agg #[.int .i64 a, .int .i64 b]), .int .u64 (v : Nat)] W fun e W' => e = .returned (.tuple #[]) ∧ MemAt W' B C c M ∧ Off B C W W' := by
  have hS : Off B C W (W.alloc (.cells #[.int .i64 a, .int .i64 b] 67)) := (Off.refl B C W).alloc _
  have hM1 : MemAt (W.alloc (.cells #[.int .i64 a, .int .i64 b] 67)) B C c m := h.below ((Below.refl _ _).alloc (Nat.le_refl _) _) h.hB h.hC
  have hA := mAccess_any hM1 2 a b 0 v 73 egS (wStore_any 0 v) hb0 hb1 hv M hM
  clear hM h hM1 hb0 hb1
  go_enter Tryz.func33, Tryz.ntmps33
  go_wp2_with fail
  refine hA.mono ?_
  rintro e w1 ⟨rfl, hM1, hO1⟩
  have HM := hide hM1
  have HO := hide (hS.trans hO1)
  clear hM1 hO1 hA hS
  go_wp2
  go_end0
  exact ⟨rfl, unhide HM, unhide HO⟩
set_option maxHeartbeats 1000000 in
theorem mSwap_any {W : World} {B C : Nat} {c : Um.Cf} {m : Um.Mm} (h : MemAt W B C c m) (a b : Int) (o v : Nat) (hv : Um.Word v) (hb0 : -9223372036854775808 ≤ b) (hb1 : b ≤ 9223372036854775807) (M : Um.Mm) (hM : M = Um.mtouch c m 3 a b o v) :
    Calls Tryz.prog 132 #[.pointer (some ⟨B, 0, none⟩), (.agg #[.int .i64 a, .int .i64 b]), .int .u64 (o : Nat), .int .u64 (v : Nat)] W fun e W' => e = .returned (.bool M.l.done) ∧ MemAt W' B C c M ∧ Off B C W W' := by
  have hS : Off B C W (W.alloc (.cells #[.int .i64 a, .int .i64 b] 67)) := (Off.refl B C W).alloc _
  have hM1 : MemAt (W.alloc (.cells #[.int .i64 a, .int .i64 b] 67)) B C c m := h.below ((Below.refl _ _).alloc (Nat.le_refl _) _) h.hB h.hC
  have hA := mAccess_any hM1 3 a b o v 139 egW (wSwap_any o v) hb0 hb1 hv M hM
  clear hM h hM1 hb0 hb1
  go_enter Tryz.func132, Tryz.ntmps132
  go_wp2_with fail
  refine hA.mono ?_
  rintro e w1 ⟨rfl, hM1, hO1⟩
  have HM := hide hM1
  have HO := hide (hS.trans hO1)
  clear hM1 hO1 hA hS
  go_wp2
  go_ret
  exact ⟨rfl, unhide HM, unhide HO⟩
end
section
set_option maxRecDepth 100000
open Go.RowKit Go.Sort
set_option maxHeartbeats 2000000 in
theorem rRight_any (t s k g : Int) (q : Nat) (w : World) :
    Calls Tryz.prog 39 #[(.agg #[.int .i64 t, .int .i64 s, .int .i64 k, .int .i64 g, .int .u64 (q : Int)])] w fun e w' => e = .returned (.bool (Um.rt t s k g q)) ∧ Below w.heap.size w w' := by
  go_enter Tryz.func39, Tryz.ntmps39
  go_wp2
  all_goals go_ret
  all_goals refine ⟨ret_bool ?_, (Below.refl _ _).alloc (Nat.le_refl _) _⟩
  all_goals unfold Um.rt
  all_goals rw [Bool.eq_iff_iff]
  all_goals simp
  all_goals omega
def flatN (r : Bool) (t s k : Int) : Nat → List Value
  | 0 => []
  | n + 1 => flatN r t s k n ++ [.int .i64 (Um.atK r t s k n), .int .i64 (Um.atO r t s k n)]
theorem flat_len (r : Bool) (t s k : Int) (n : Nat) : (flatN r t s k n).length = n * 2 := by
  induction n with
  | zero => rfl
  | succ n ih => simp [flatN, ih]; omega
theorem flat_get (r : Bool) (t s k : Int) (n j : Nat) (h : j < n) : (flatN r t s k n)[j * 2]? = some (.int .i64 (Um.atK r t s k j)) ∧ (flatN r t s k n)[j * 2 + 1]? = some (.int .i64 (Um.atO r t s k j)) := by
  induction n with
  | zero => omega
  | succ n ih =>
    by_cases e : j = n
    · subst e
      constructor
      · rw [flatN, List.getElem?_append_right (by rw [flat_len]; omega), flat_len, show j * 2 - j * 2 = 0 by omega]
        rfl
      · rw [flatN, List.getElem?_append_right (by rw [flat_len]; omega), flat_len, show j * 2 + 1 - j * 2 = 1 by omega]
        rfl
    · obtain ⟨h1, h2⟩ := ih (by omega)
      constructor
      · rw [flatN, List.getElem?_append_left (by rw [flat_len]; omega), h1]
      · rw [flatN, List.getElem?_append_left (by rw [flat_len]; omega), h2]
theorem flat_two (t s k : Nat) (ht : 1 ≤ t) : flatN true t s k 2 = [.int .i64 1, .int .i64 0, .int .i64 2, .int .i64 0] := by
  have h : (1 : Int) ≤ t := by omega
  simp [flatN, Um.atK, Um.atO]
theorem flat_pin (t s k j : Nat) (h : j < t) : flatN true t s k (2 + j) ++ [.int .i64 3, .int .i64 j] = flatN true t s k (2 + j + 1) := by
  rw [flatN]
  congr 3
  · simp only [Um.atK, true_and]; (repeat' split) <;> omega
  · congr 2
    simp only [Um.atO, true_and]; (repeat' split) <;> omega
theorem flat_slot (t s k j : Nat) (h : j < s) : flatN true t s k (2 + t + 4 * j) ++ [.int .i64 4, .int .i64 j, .int .i64 5, .int .i64 j, .int .i64 6, .int .i64 j, .int .i64 7, .int .i64 j] = flatN true t s k (2 + t + 4 * j + 4) := by
  have e0 : Um.atK true t s k ((2 + t + 4 * j : Nat) : Int) = 4 ∧ Um.atO true t s k ((2 + t + 4 * j : Nat) : Int) = j := by simp only [Um.atK, Um.atO, true_and]; (repeat' split) <;> omega
  have e1 : Um.atK true t s k ((2 + t + 4 * j + 1 : Nat) : Int) = 5 ∧ Um.atO true t s k ((2 + t + 4 * j + 1 : Nat) : Int) = j := by simp only [Um.atK, Um.atO, true_and]; (repeat' split) <;> omega
  have e2 : Um.atK true t s k ((2 + t + 4 * j + 2 : Nat) : Int) = 6 ∧ Um.atO true t s k ((2 + t + 4 * j + 2 : Nat) : Int) = j := by simp only [Um.atK, Um.atO, true_and]; (repeat' split) <;> omega
  have e3 : Um.atK true t s k ((2 + t + 4 * j + 3 : Nat) : Int) = 7 ∧ Um.atO true t s k ((2 + t + 4 * j + 3 : Nat) : Int) = j := by simp only [Um.atK, Um.atO, true_and]; (repeat' split) <;> omega
  rw [flatN, flatN, flatN, flatN, e0.1, e0.2, e1.1, e1.2, e2.1, e2.2, e3.1, e3.2]
  simp
theorem flat_key (t s k j : Nat) (h : j < k) : flatN true t s k (2 + t + 4 * s + j) ++ [.int .i64 8, .int .i64 j] = flatN true t s k (2 + t + 4 * s + j + 1) := by
  have e0 : Um.atK true t s k ((2 + t + 4 * s + j : Nat) : Int) = 8 ∧ Um.atO true t s k ((2 + t + 4 * s + j : Nat) : Int) = j := by simp only [Um.atK, Um.atO, true_and]; (repeat' split) <;> omega
  rw [flatN, e0.1, e0.2]
theorem infoSpot : (Tryz.prog.info? 31).map (fun i => (i.zero, i.size, i.bytes)) = some (some (.agg #[.int .i64 0, .int .i64 0]), 2, 16) := by kernel_rfl
set_option maxRecDepth 100000 in
set_option maxHeartbeats 4000000 in
theorem rSpots_yes (t s k : Nat) (g : Int) (q : Nat) (w : World) (h : Um.rt t s k g q = true) :
    Calls Tryz.prog 79 #[(.agg #[.int .i64 (t : Int), .int .i64 (s : Int), .int .i64 (k : Int), .int .i64 g, .int .u64 (q : Int)])] w fun e W' => ∃ v, e = .returned v ∧ W'.ownsRow w.heap.size 31 2 v (2 + t + 4 * s + k) (flatN true t s k (2 + t + 4 * s + k)) ∧ Below w.heap.size w W' := by
  obtain ⟨i0, hi, hz0, hz1, hz2⟩ := info_parts infoSpot
  have hb := Um.rt_rb t s k g q h
  have hR := rRight_any t s k g q
  rw [h] at hR
  clear h
  go_enter Tryz.func79, Tryz.ntmps79
  go_wp2_with fail
  refine (hR _).mono ?_
  rintro e w1 ⟨rfl, hb1⟩
  obtain ⟨hc1, hf1⟩ := bcell hb1
  have hB1 : Below w.heap.size w w1 := ((Below.refl w.heap.size w).alloc (Nat.le_refl _) _).trans (hb1.mono (by simp))
  have hs1 : w.heap.size < w1.heap.size := by have := hb1.size; simp at this; omega
  have c0 : w1.cell? ⟨w.heap.size, 0, none⟩ = some (.int .i64 t) := by go_simp
  have c1 : w1.cell? ⟨w.heap.size, 1, none⟩ = some (.int .i64 s) := by go_simp
  have c2 : w1.cell? ⟨w.heap.size, 2, none⟩ = some (.int .i64 k) := by go_simp
  clear hb1 hR hc1 hf1
  have hb' : 1 ≤ t ∧ t ≤ 8 ∧ 1 ≤ s ∧ s ≤ 12 ∧ 1 ≤ k ∧ k ≤ 8 := by omega
  clear hb
  obtain ⟨ht1, ht2, hs2, hs3, hk1, hk2⟩ := hb'
  go_wp2_with fail
  go_loopw [3, 4] (fun u i wr => ∃ j : Nat, j ≤ t ∧ i = .int .i64 j ∧ wr.ownsRow (w.heap.size + 1) 31 2 u (2 + j) (flatN true t s k (2 + j)) ∧ Below w.heap.size w wr ∧ w.heap.size < wr.heap.size ∧
    wr.cell? ⟨w.heap.size, 0, none⟩ = some (.int .i64 t) ∧ wr.cell? ⟨w.heap.size, 1, none⟩ = some (.int .i64 s) ∧ wr.cell? ⟨w.heap.size, 2, none⟩ = some (.int .i64 k)) (fun _ i _ => t - (intOf i).toNat)
  case atStart =>
    refine ⟨0, by omega, rfl, ?_, hB1.alloc (by omega) _, by simp; omega, by go_simp, by go_simp, by go_simp⟩
    rw [flat_two t s k ht1]
    exact World.ownsRow_lit w1 #[.int .i64 1, .int .i64 0, .int .i64 2, .int .i64 0] 2 (by omega) (by unfold maxLen; omega) rfl
  case round =>
    clear hB1 hs1 c0 c1 c2
    rename_i wr
    obtain ⟨j, hj, rfl, hrow, hB, hsz, c0, c1, c2⟩ := hrel
    by_cases hlt : j < t
    · have hfl := hide (flat_pin t s k j hlt)
      go_wp2_with (at_builtin; refine wpList_append_own _ rfl _ _ 140 rfl (w.heap.size + 1) 31 i0 (.agg #[.int .i64 0, .int .i64 0]) 2 16 Tryz.underlying140 hi hz0 hz1 hz2 rfl (by decide) _ _ _ rfl (hrow.alloc _) ⟨_, 0, none⟩ 1 1 [.int .i64 3, .int .i64 j] rfl rfl (World.news_of_block (heap_alloc_new _ _)) (by simp [Value.oneCell']) (by unfold maxLen; omega) (by omega) (by simp; omega) ?_; intro v' w2 hown' hgrow _)
      have hK := own_append hrow (Nat.le_refl _) (by omega) hgrow
      refine ⟨⟨j + 1, by omega, by go_num, by rw [unhide hfl] at hown'; exact hown', hB.trans (hK.mono (by omega)), Nat.lt_of_lt_of_le hsz hK.size, (hK.cell (p := ⟨w.heap.size, 0, none⟩) (Nat.lt_succ_self _)).trans c0, (hK.cell (p := ⟨w.heap.size, 1, none⟩) (Nat.lt_succ_self _)).trans c1, (hK.cell (p := ⟨w.heap.size, 2, none⟩) (Nat.lt_succ_self _)).trans c2⟩, by simp [intOf]; omega⟩
    · obtain rfl : j = t := by omega
      go_wp2_with fail
      go_loopw [3, 5] (fun u i wr => ∃ j' : Nat, j' ≤ s ∧ i = .int .i64 j' ∧ wr.ownsRow (w.heap.size + 1) 31 2 u (2 + j + 4 * j') (flatN true j s k (2 + j + 4 * j')) ∧ Below w.heap.size w wr ∧ w.heap.size < wr.heap.size ∧
        wr.cell? ⟨w.heap.size, 0, none⟩ = some (.int .i64 j) ∧ wr.cell? ⟨w.heap.size, 1, none⟩ = some (.int .i64 s) ∧ wr.cell? ⟨w.heap.size, 2, none⟩ = some (.int .i64 k)) (fun _ i _ => s - (intOf i).toNat)
      case atStart => exact ⟨0, by omega, rfl, hrow, hB, hsz, c0, c1, c2⟩
      case round =>
        clear hB hsz c0 c1 c2 hrow
        rename_i wr2
        obtain ⟨j', hj', rfl, hrow, hB, hsz, c0, c1, c2⟩ := hrel
        by_cases hlt' : j' < s
        · have hfl := hide (flat_slot j s k j' hlt')
          go_wp2_with (at_builtin; refine wpList_append_own _ rfl _ _ 140 rfl (w.heap.size + 1) 31 i0 (.agg #[.int .i64 0, .int .i64 0]) 2 16 Tryz.underlying140 hi hz0 hz1 hz2 rfl (by decide) _ _ _ rfl (hrow.alloc _) ⟨_, 0, none⟩ 4 4 [.int .i64 4, .int .i64 j', .int .i64 5, .int .i64 j', .int .i64 6, .int .i64 j', .int .i64 7, .int .i64 j'] rfl rfl (World.news_of_block (heap_alloc_new _ _)) (by simp [Value.oneCell']) (by unfold maxLen; omega) (by omega) (by simp; omega) ?_; intro v' w2 hown' hgrow _)
          have hK := own_append hrow (Nat.le_refl _) (by omega) hgrow
          refine ⟨⟨j' + 1, by omega, by go_num, by rw [unhide hfl] at hown'; exact hown', hB.trans (hK.mono (by omega)), Nat.lt_of_lt_of_le hsz hK.size, (hK.cell (p := ⟨w.heap.size, 0, none⟩) (Nat.lt_succ_self _)).trans c0, (hK.cell (p := ⟨w.heap.size, 1, none⟩) (Nat.lt_succ_self _)).trans c1, (hK.cell (p := ⟨w.heap.size, 2, none⟩) (Nat.lt_succ_self _)).trans c2⟩, by simp [intOf]; omega⟩
        · obtain rfl : j' = s := by omega
          go_wp2_with fail
          go_loopw [3, 6] (fun u i wr => ∃ i' : Nat, i' ≤ k ∧ i = .int .i64 i' ∧ wr.ownsRow (w.heap.size + 1) 31 2 u (2 + j + 4 * j' + i') (flatN true j j' k (2 + j + 4 * j' + i')) ∧ Below w.heap.size w wr ∧ w.heap.size < wr.heap.size ∧
            wr.cell? ⟨w.heap.size, 0, none⟩ = some (.int .i64 j) ∧ wr.cell? ⟨w.heap.size, 1, none⟩ = some (.int .i64 j') ∧ wr.cell? ⟨w.heap.size, 2, none⟩ = some (.int .i64 k)) (fun _ i _ => k - (intOf i).toNat)
          case atStart => exact ⟨0, by omega, rfl, hrow, hB, hsz, c0, c1, c2⟩
          case round =>
            clear hB hsz c0 c1 c2 hrow
            rename_i wr3
            obtain ⟨i', hi', rfl, hrow, hB, hsz, c0, c1, c2⟩ := hrel
            by_cases hlt'' : i' < k
            · have hfl := hide (flat_key j j' k i' hlt'')
              go_wp2_with (at_builtin; refine wpList_append_own _ rfl _ _ 140 rfl (w.heap.size + 1) 31 i0 (.agg #[.int .i64 0, .int .i64 0]) 2 16 Tryz.underlying140 hi hz0 hz1 hz2 rfl (by decide) _ _ _ rfl (hrow.alloc _) ⟨_, 0, none⟩ 1 1 [.int .i64 8, .int .i64 i'] rfl rfl (World.news_of_block (heap_alloc_new _ _)) (by simp [Value.oneCell']) (by unfold maxLen; omega) (by omega) (by simp; omega) ?_; intro v' w2 hown' hgrow _)
              have hK := own_append hrow (Nat.le_refl _) (by omega) hgrow
              refine ⟨⟨i' + 1, by omega, by go_num, by rw [unhide hfl] at hown'; exact hown', hB.trans (hK.mono (by omega)), Nat.lt_of_lt_of_le hsz hK.size, (hK.cell (p := ⟨w.heap.size, 0, none⟩) (Nat.lt_succ_self _)).trans c0, (hK.cell (p := ⟨w.heap.size, 1, none⟩) (Nat.lt_succ_self _)).trans c1, (hK.cell (p := ⟨w.heap.size, 2, none⟩) (Nat.lt_succ_self _)).trans c2⟩, by simp [intOf]; omega⟩
            · obtain rfl : i' = k := by omega
              go_wp2
              go_ret
              exact ⟨_, rfl, own_base hrow (by omega), hB⟩
end
section
set_option maxRecDepth 100000
open Go.RowKit Go.Sort
def IsSpots (r : Bool) (t s k : Int) (W : World) (v : Value) (n : Nat) : Prop :=
  (n : Int) = Um.clen r t s k ∧ ((v = .slice none 0 0 ∧ n = 0) ∨ ∃ b cap, v = .slice (some ⟨b, 0, none⟩) n cap ∧ n ≤ cap ∧ cap ≤ maxLen ∧ b < W.heap.size ∧
    ∀ j, j < n → W.cell? ⟨b, j * 2, none⟩ = some (.int .i64 (Um.atK r t s k j)) ∧ W.cell? ⟨b, j * 2 + 1, none⟩ = some (.int .i64 (Um.atO r t s k j)))
theorem IsSpots.below {r : Bool} {t s k : Int} {n₀ n : Nat} {A B : World} {v : Value} (h : IsSpots r t s k A v n) (b : Below n₀ A B) (hn : A.heap.size ≤ n₀) : IsSpots r t s k B v n := by
  refine ⟨h.1, ?_⟩
  rcases h.2 with h | ⟨g, cap, rfl, h1, h2, h3, h4⟩
  · exact .inl h
  · exact .inr ⟨g, cap, rfl, h1, h2, Nat.lt_of_lt_of_le h3 b.size, fun j hj => ⟨(b.cell (p := ⟨g, j * 2, none⟩) (by show g < n₀; omega)).trans (h4 j hj).1, (b.cell (p := ⟨g, j * 2 + 1, none⟩) (by show g < n₀; omega)).trans (h4 j hj).2⟩⟩
theorem isSpots_of_owns {r : Bool} {t s k : Int} {W : World} {base : Nat} {e : TypeId} {v : Value} {n : Nat} (h : W.ownsRow base e 2 v n (flatN r t s k n)) (hn : (n : Int) = Um.clen r t s k) : IsSpots r t s k W v n := by
  refine ⟨hn, ?_⟩
  rcases h.2 with ⟨rfl, h0⟩ | ⟨g, cap, cur, rfl, hg, hb, h1, h2, h3, h4⟩
  · exact .inl ⟨rfl, h0⟩
  · refine .inr ⟨g, cap, rfl, h1, h2, (Array.getElem?_eq_some_iff.1 hb).1, fun j hj => ?_⟩
    have hk := flat_get r t s k n j hj
    exact ⟨(h.cellAt (j * 2) (by omega)).trans hk.1, (h.cellAt (j * 2 + 1) (by omega)).trans hk.2⟩
set_option maxHeartbeats 1000000 in
theorem rSpots_any (t s k g : Int) (q : Nat) (w : World) :
    Calls Tryz.prog 79 #[(.agg #[.int .i64 t, .int .i64 s, .int .i64 k, .int .i64 g, .int .u64 (q : Int)])] w fun e W' => ∃ v n, e = .returned v ∧ IsSpots (Um.rt t s k g q) t s k W' v n ∧ Below w.heap.size w W' := by
  cases h : Um.rt t s k g q
  · have hR := rRight_any t s k g q
    rw [h] at hR
    clear h
    go_enter Tryz.func79, Tryz.ntmps79
    go_wp2_with fail
    refine (hR _).mono ?_
    rintro e w1 ⟨rfl, hb1⟩
    have hB1 : Below w.heap.size w w1 := ((Below.refl w.heap.size w).alloc (Nat.le_refl _) _).trans (hb1.mono (by simp))
    clear hb1
    go_wp2
    go_ret
    exact ⟨_, 0, rfl, ⟨by simp [Um.clen], .inl ⟨rfl, rfl⟩⟩, hB1⟩
  · have hb := Um.rt_rb t s k g q h
    obtain ⟨t', rfl⟩ := Int.eq_ofNat_of_zero_le (a := t) (by omega)
    obtain ⟨s', rfl⟩ := Int.eq_ofNat_of_zero_le (a := s) (by omega)
    obtain ⟨k', rfl⟩ := Int.eq_ofNat_of_zero_le (a := k) (by omega)
    refine (rSpots_yes t' s' k' g q w h).mono ?_
    rintro e W' ⟨v, rfl, hrow, hB⟩
    exact ⟨v, _, rfl, isSpots_of_owns hrow (by simp [Um.clen]), hB⟩
set_option maxHeartbeats 1000000 in
theorem rLen_any (t s k g : Int) (q : Nat) (w : World) :
    Calls Tryz.prog 40 #[(.agg #[.int .i64 t, .int .i64 s, .int .i64 k, .int .i64 g, .int .u64 (q : Int)])] w fun e w' => e = .returned (.int .i64 (Um.clen (Um.rt t s k g q) t s k)) ∧ Below w.heap.size w w' := by
  have hR := rSpots_any t s k g q
  have hb := Um.clen_bd (Um.rt_rb t s k g q)
  generalize Um.rt t s k g q = r at *
  go_enter Tryz.func40, Tryz.ntmps40
  go_wp2_with fail
  refine (hR _).mono ?_
  rintro e w1 ⟨v, n, rfl, ⟨hn, hv⟩, hb1⟩
  have hB1 : Below w.heap.size w w1 := ((Below.refl w.heap.size w).alloc (Nat.le_refl _) _).trans (hb1.mono (by simp))
  have HN := hide hn
  clear hb1 hR hn hb
  rcases hv with ⟨rfl, rfl⟩ | ⟨b, cap, rfl, h1, h2, h3, h4⟩
  · go_wp2
    go_ret
    exact ⟨ret_i64 (unhide HN), hB1⟩
  · clear h4
    go_wp2
    go_ret
    exact ⟨ret_i64 (unhide HN), hB1⟩
set_option maxHeartbeats 2000000 in
theorem rCell_any (t s k g : Int) (q : Nat) (a b : Int) (w : World) :
    Calls Tryz.prog 62 #[(.agg #[.int .i64 t, .int .i64 s, .int .i64 k, .int .i64 g, .int .u64 (q : Int)]), .int .i64 a, .int .i64 b] w fun e w' => e = .returned (.int .i64 (Um.cellN (Um.rt t s k g q) t s k a b)) ∧ Below w.heap.size w w' := by
  have hR := rSpots_any t s k g q
  have hb := Um.rt_rb t s k g q
  generalize Um.rt t s k g q = r at *
  go_enter Tryz.func62, Tryz.ntmps62
  go_wp2_with fail
  refine (hR _).mono ?_
  rintro e w1 ⟨v, n, rfl, ⟨hn, hv⟩, hb1⟩
  have hB1 : Below w.heap.size w w1 := ((Below.refl w.heap.size w).alloc (Nat.le_refl _) _).trans (hb1.mono (by simp))
  have hnb : n ≤ 66 := by have := Um.clen_bd hb; omega
  have HN := hide hn
  have HB := hide hb
  clear hb1 hR hn hb
  rcases hv with ⟨rfl, rfl⟩ | ⟨g', cap, rfl, h1, h2, h3, h4⟩
  · go_wp2_with fail
    go_loopw [8] (fun i wr => i = .int .i64 0 ∧ wr = w1) (fun _ _ => 0)
    case atStart => exact ⟨rfl, rfl⟩
    case round =>
      obtain ⟨rfl, rfl⟩ := hrel
      go_wp2
      go_ret
      refine ⟨ret_i64 ?_, hB1⟩
      have h0 := unhide HN
      by_cases hc : 0 ≤ Um.cellN r t s k a b
      · have := (Um.cell_at (unhide HB) hc).1
        omega
      · have := (Um.cell_bd (unhide HB) a b).1
        omega
  · have H4 := hide h4
    clear h4
    go_wp2_with fail
    go_loopw [8] (fun i wr => ∃ j : Nat, j ≤ n ∧ i = .int .i64 j ∧ wr = w1 ∧ Hid (∀ i, i < j → ¬ (Um.atK r t s k i = a ∧ Um.atO r t s k i = b))) (fun i _ => n - (intOf i).toNat)
    case atStart => exact ⟨0, by omega, rfl, rfl, fun i hi => absurd hi (Nat.not_lt_zero i)⟩
    case round =>
      obtain ⟨j, hj, rfl, rfl, hmiss⟩ := hrel
      by_cases hlt : j < n
      · obtain ⟨d0, d1⟩ := (unhide H4) j hlt
        have hlti : (j : Int) < (n : Int) := by omega
        by_cases hk : Um.atK r t s k j = a
        · by_cases ho : Um.atO r t s k j = b
          · have hat := hide (Um.at_cell (unhide HB) (x := (j : Int)) (by omega) (by rw [← unhide HN]; omega))
            rw [hk, ho] at hat
            rw [hk] at d0
            rw [ho] at d1
            clear hk ho hmiss
            go_wp2
            go_ret
            exact ⟨ret_i64 (unhide hat).symm, hB1⟩
          · have hmiss' : Hid (∀ i, i < j + 1 → ¬ (Um.atK r t s k i = a ∧ Um.atO r t s k i = b)) := by
              intro i hi'
              by_cases e : i = j
              · subst e; exact fun h => ho h.2
              · exact (unhide hmiss) i (by omega)
            have hne : (Um.atO r t s k j == b) = false := by simp [ho]
            rw [hk] at d0
            clear hk ho hmiss
            generalize Um.atO r t s k j = y at *
            go_wp2
            exact ⟨⟨j + 1, by omega, by go_num, by trivial, hmiss'⟩, by simp [intOf]; omega⟩
        · have hmiss' : Hid (∀ i, i < j + 1 → ¬ (Um.atK r t s k i = a ∧ Um.atO r t s k i = b)) := by
            intro i hi'
            by_cases e : i = j
            · subst e; exact fun h => hk h.1
            · exact (unhide hmiss) i (by omega)
          have hne : (Um.atK r t s k j == a) = false := by simp [hk]
          clear hk hmiss
          generalize Um.atK r t s k j = x at *
          generalize Um.atO r t s k j = y at *
          go_wp2
          exact ⟨⟨j + 1, by omega, by go_num, by trivial, hmiss'⟩, by simp [intOf]; omega⟩
      · obtain rfl : j = n := by omega
        go_wp2
        go_ret
        refine ⟨ret_i64 ?_, hB1⟩
        by_cases hc : 0 ≤ Um.cellN r t s k a b
        · have h5 := Um.cell_at (unhide HB) hc
          obtain ⟨i, hi⟩ := Int.eq_ofNat_of_zero_le hc
          rw [hi] at h5
          exact absurd h5.2 ((unhide hmiss) i (by have := unhide HN; omega))
        · have := (Um.cell_bd (unhide HB) a b).1
          omega
end
section
set_option maxRecDepth 100000
open Go.RowKit Go.Sort
set_option maxHeartbeats 1000000 in
theorem rSame_true {W : World} {v1 v2 : Value} {n : Nat} {xs ys : Nat → Nat} (h1 : IsWords W v1 n xs) (h2 : IsWords W v2 n ys) (hn : n ≤ 1000) (he : ∀ j, j < n → xs j = ys j) :
    Calls Tryz.prog 30 #[v1, v2] W fun e W' => e = .returned (.bool true) ∧ Below W.heap.size W W' := by
  rcases h1 with ⟨a1, c1, rfl, rfl⟩ | ⟨b1, o1, c1, rfl, p1, q1, r1, s1, d1⟩
  · obtain ⟨a2, c2, rfl⟩ := words_len h2
    clear h2 he
    go_enter Tryz.func30, Tryz.ntmps30
    go_wp2_with fail
    go_loopw [5] (fun i wr => i = .int .i64 0 ∧ wr = W) (fun _ _ => 0)
    case atStart => exact ⟨rfl, rfl⟩
    case round =>
      obtain ⟨rfl, rfl⟩ := hrel
      go_wp2
      go_ret
      exact ⟨rfl, Below.refl _ _⟩
  · rcases h2 with ⟨a2, c2, _, rfl⟩ | ⟨b2, o2, c2, rfl, p2, q2, r2, s2, d2⟩
    · omega
    have D1 := hide d1
    have D2 := hide d2
    have HE := hide he
    clear d1 d2 he
    go_enter Tryz.func30, Tryz.ntmps30
    go_wp2_with fail
    go_loopw [5] (fun i wr => ∃ j : Nat, j ≤ n ∧ i = .int .i64 j ∧ Below W.heap.size W wr) (fun i _ => n - (intOf i).toNat)
    case atStart => exact ⟨0, by omega, rfl, Below.refl _ _⟩
    case round =>
      rename_i wr
      obtain ⟨j, hj, rfl, hB⟩ := hrel
      by_cases hlt : j < n
      · have hlti : (j : Int) < (n : Int) := by omega
        have k1 := (hB.cell (p := ⟨b1, o1 + j, none⟩) s1).trans ((unhide D1) j hlt).1
        have k2 := (hB.cell (p := ⟨b2, o2 + j, none⟩) s2).trans ((unhide D2) j hlt).1
        rw [(unhide HE) j hlt] at k1
        go_wp2_with fail
        go_quiet (fail)
        go_wp2
        exact ⟨⟨j + 1, by omega, by go_num, hB.trans (by first | exact below_drewN (Below.refl _ _) _ | exact (Below.refl _ _).drew)⟩, by simp [intOf]; omega⟩
      · obtain rfl : j = n := by omega
        go_wp2
        go_ret
        exact ⟨rfl, hB⟩
end
section
set_option maxRecDepth 100000
open Go.RowKit Go.Sort
theorem below_then {u w w' : World} (h : Below u.heap.size u w) (k : Below w.heap.size w w') : Below u.heap.size u w' := h.trans (k.mono h.size)
set_option maxHeartbeats 1000000 in
theorem eqlTch (k a b : Int) (o n : Nat) (d : Bool) (w : World) : (binOp .eql 33 (.agg #[.int .i64 k, .int .i64 a, .int .i64 b, .int .u64 (o : Nat), .int .u64 (n : Nat), .bool d]) (.agg #[.int .i64 k, .int .i64 a, .int .i64 b, .int .u64 (o : Nat), .int .u64 (n : Nat), .bool d])).run Tryz.prog w = .ok (.bool true) w := by
  go_simp
set_option maxHeartbeats 2000000 in
theorem lAlike_true {W : World} {B C : Nat} {c : Um.Cf} {m : Um.Mm} (h : MemAt W B C c m) (v : Value) (hv : IsWords W v c.n m.ws) :
    Calls Tryz.prog 19 #[.pointer (some ⟨B, 0, none⟩), (.agg #[.int .i64 (c.t), .int .i64 (c.s), .int .i64 (c.k), .int .i64 (c.g), .int .u64 (c.q : Int), v, .int .i64 (m.cnt), .int .i64 (m.l.kind), .int .i64 (m.l.a), .int .i64 (m.l.b), .int .u64 (m.l.old : Nat), .int .u64 (m.l.new : Nat), .bool (m.l.done)])] W fun e W' => e = .returned (.bool true) ∧ Below W.heap.size W W' := by
  have hp := Um.Cf.n_pos h.rt
  have hn := c.n_le
  have hE := eqlTch m.l.kind m.l.a m.l.b m.l.old m.l.new m.l.done
  have HM := hide h
  have HV := hide hv
  have HC := fun W' (hb : Below W.heap.size W W') => mCells_any (h.below hb h.hB h.hC)
  have HN := fun W' (hb : Below W.heap.size W W') => mCount_any (h.below hb h.hB h.hC)
  have HL := fun W' (hb : Below W.heap.size W W') => mLast_any (h.below hb h.hB h.hC)
  have HS : ∀ (W1 W2 : World) (z : Nat), z < W2.heap.size → Below W.heap.size W W2 → W2.heap[z]? = some (.cells (rowW m.ws c.n).toArray 22 (0, 0)) → Calls Tryz.prog 30 #[.slice (some ⟨z, 0, none⟩) c.n c.n, v] W2 fun e W' => e = .returned (.bool true) ∧ Below W2.heap.size W2 W' := by
    intro W1 W2 z hz hb hg
    exact rSame_true ((LowWords.of_row (n := c.n) (by omega) (by omega) hg h.wd).is (Nat.succ_le_of_lt hz)) ((hv.low.below hb).is hb.size) (by omega) (fun _ _ => rfl)
  have HCh := hide HC
  have HNh := hide HN
  have HLh := hide HL
  have HSh := hide HS
  obtain ⟨av, cap, rfl⟩ := words_len hv
  clear h hv HC HN HL HS
  generalize m.l.kind = lk at *
  generalize m.l.a = la at *
  generalize m.l.b = lb at *
  generalize m.l.old = lo at *
  generalize m.l.new = ln at *
  generalize m.l.done = ld at *
  have hS := St.new W
  go_enter Tryz.func19, Tryz.ntmps19
  go_wp2_with (first | (refine wpl_box hS rfl _ _ rfl _ rfl _ (by intro _; simp only [Act.put, List.setIfInBounds_toArray, List.set_cons_zero, List.set_cons_succ]; first | done | exact rfl) ?_; clear hS; intro _ _ hS; dsimp only [blit, List.set, List.cons_append, List.nil_append, Value.cells, List.toList_toArray] at hS) | (refine wpl_alloc hS rfl _ rfl _ (zer_any rfl) _ (by intro _; simp only [Act.put, List.setIfInBounds_toArray, List.set_cons_zero, List.set_cons_succ]; first | done | exact rfl) ?_; clear hS; intro _ _ hS; dsimp only [blit, List.set, List.cons_append, List.nil_append, Value.cells, List.toList_toArray] at hS) | (refine wpl_ld hS rfl _ _ rfl _ _ rfl ?_; (first | refine ⟨0, _, rfl, ?_⟩ | refine ⟨1, _, rfl, ?_⟩ | refine ⟨2, _, rfl, ?_⟩ | refine ⟨3, _, rfl, ?_⟩ | refine ⟨4, _, rfl, ?_⟩ | refine ⟨5, _, rfl, ?_⟩ | refine ⟨6, _, rfl, ?_⟩ | refine ⟨7, _, rfl, ?_⟩ | refine ⟨8, _, rfl, ?_⟩ | refine ⟨9, _, rfl, ?_⟩); first | refine .inl ⟨_, one_any rfl, rfl, _, (by simp only [Act.put, List.setIfInBounds_toArray, List.set_cons_zero, List.set_cons_succ]; first | done | exact rfl), ?_⟩ | refine .inr ⟨_, _, row_any rfl, rfl, (by dsimp only [cutL, List.drop, List.take]; first | done | exact rfl), _, (by simp only [Act.put, List.setIfInBounds_toArray, List.set_cons_zero, List.set_cons_succ]; first | done | exact rfl), ?_⟩) | (refine wpl_st hS rfl _ _ _ rfl rfl _ _ rfl ?_; (first | refine ⟨0, _, rfl, ?_⟩ | refine ⟨1, _, rfl, ?_⟩ | refine ⟨2, _, rfl, ?_⟩ | refine ⟨3, _, rfl, ?_⟩ | refine ⟨4, _, rfl, ?_⟩ | refine ⟨5, _, rfl, ?_⟩ | refine ⟨6, _, rfl, ?_⟩ | refine ⟨7, _, rfl, ?_⟩ | refine ⟨8, _, rfl, ?_⟩ | refine ⟨9, _, rfl, ?_⟩); refine ⟨_, (by first | exact shA rfl | exact shI rfl | exact shB rfl | exact shS rfl | exact shP rfl | exact shF rfl | exact shN rfl), _, siz_any rfl, (by exact rfl), (by exact rfl), (by exact rfl), ?_⟩; clear hS; intro _ hS; dsimp only [blit, List.set, List.cons_append, List.nil_append, Value.cells, List.toList_toArray] at hS))
  refine ((unhide HLh) _ hS.bel).mono ?_
  rintro e u1 ⟨rfl, hb⟩
  replace hS := hS.call hb
  clear hb HLh
  go_wp2_with (first | (refine wpl_box hS rfl _ _ rfl _ rfl _ (by intro _; simp only [Act.put, List.setIfInBounds_toArray, List.set_cons_zero, List.set_cons_succ]; first | done | exact rfl) ?_; clear hS; intro _ _ hS; dsimp only [blit, List.set, List.cons_append, List.nil_append, Value.cells, List.toList_toArray] at hS) | (refine wpl_alloc hS rfl _ rfl _ (zer_any rfl) _ (by intro _; simp only [Act.put, List.setIfInBounds_toArray, List.set_cons_zero, List.set_cons_succ]; first | done | exact rfl) ?_; clear hS; intro _ _ hS; dsimp only [blit, List.set, List.cons_append, List.nil_append, Value.cells, List.toList_toArray] at hS) | (refine wpl_ld hS rfl _ _ rfl _ _ rfl ?_; (first | refine ⟨0, _, rfl, ?_⟩ | refine ⟨1, _, rfl, ?_⟩ | refine ⟨2, _, rfl, ?_⟩ | refine ⟨3, _, rfl, ?_⟩ | refine ⟨4, _, rfl, ?_⟩ | refine ⟨5, _, rfl, ?_⟩ | refine ⟨6, _, rfl, ?_⟩ | refine ⟨7, _, rfl, ?_⟩ | refine ⟨8, _, rfl, ?_⟩ | refine ⟨9, _, rfl, ?_⟩); first | refine .inl ⟨_, one_any rfl, rfl, _, (by simp only [Act.put, List.setIfInBounds_toArray, List.set_cons_zero, List.set_cons_succ]; first | done | exact rfl), ?_⟩ | refine .inr ⟨_, _, row_any rfl, rfl, (by dsimp only [cutL, List.drop, List.take]; first | done | exact rfl), _, (by simp only [Act.put, List.setIfInBounds_toArray, List.set_cons_zero, List.set_cons_succ]; first | done | exact rfl), ?_⟩) | (refine wpl_st hS rfl _ _ _ rfl rfl _ _ rfl ?_; (first | refine ⟨0, _, rfl, ?_⟩ | refine ⟨1, _, rfl, ?_⟩ | refine ⟨2, _, rfl, ?_⟩ | refine ⟨3, _, rfl, ?_⟩ | refine ⟨4, _, rfl, ?_⟩ | refine ⟨5, _, rfl, ?_⟩ | refine ⟨6, _, rfl, ?_⟩ | refine ⟨7, _, rfl, ?_⟩ | refine ⟨8, _, rfl, ?_⟩ | refine ⟨9, _, rfl, ?_⟩); refine ⟨_, (by first | exact shA rfl | exact shI rfl | exact shB rfl | exact shS rfl | exact shP rfl | exact shF rfl | exact shN rfl), _, siz_any rfl, (by exact rfl), (by exact rfl), (by exact rfl), ?_⟩; clear hS; intro _ hS; dsimp only [blit, List.set, List.cons_append, List.nil_append, Value.cells, List.toList_toArray] at hS))
  rename_i u _ _
  have k5 := fun w' (h : Below u.heap.size u w') => ((hS.get 0 rfl).below h).cell 5 _ rfl
  have k6 := fun w' (h : Below u.heap.size u w') => ((hS.get 0 rfl).below h).cell 6 _ rfl
  have k7 := fun w' (h : Below u.heap.size u w') => ((hS.get 0 rfl).below h).cell 7 _ rfl
  have k8 := fun w' (h : Below u.heap.size u w') => ((hS.get 0 rfl).below h).cell 8 _ rfl
  have k9 := fun w' (h : Below u.heap.size u w') => ((hS.get 0 rfl).below h).cell 9 _ rfl
  have k10 := fun w' (h : Below u.heap.size u w') => ((hS.get 0 rfl).below h).cell 10 _ rfl
  have k11 := fun w' (h : Below u.heap.size u w') => ((hS.get 0 rfl).below h).cell 11 _ rfl
  have k12 := fun w' (h : Below u.heap.size u w') => ((hS.get 0 rfl).below h).cell 12 _ rfl
  have t0 := fun w' (h : Below u.heap.size u w') => ((hS.get 2 rfl).below h).cell 0 _ rfl
  have t1 := fun w' (h : Below u.heap.size u w') => ((hS.get 2 rfl).below h).cell 1 _ rfl
  have t2 := fun w' (h : Below u.heap.size u w') => ((hS.get 2 rfl).below h).cell 2 _ rfl
  have t3 := fun w' (h : Below u.heap.size u w') => ((hS.get 2 rfl).below h).cell 3 _ rfl
  have t4 := fun w' (h : Below u.heap.size u w') => ((hS.get 2 rfl).below h).cell 4 _ rfl
  have t5 := fun w' (h : Below u.heap.size u w') => ((hS.get 2 rfl).below h).cell 5 _ rfl
  have HBu := hide hS.bel
  clear hS
  go_region_held3 (fun w' => Below u.heap.size u w') (first | exact (Below.refl _ _).drew | exact below_then (by assumption) (by assumption) | assumption) (first | (go_at_call 31; refine ((unhide HCh) _ (below_then (unhide HBu) (by assumption))).mono ?_; rintro e u2 ⟨rfl, hg2, hb2⟩) | (go_at_call 30; refine ((unhide HSh) u2 u2 _ (Array.getElem?_eq_some_iff.1 hg2).1 (below_then (unhide HBu) (by assumption)) hg2).mono ?_; rintro e u3 ⟨rfl, hb3⟩) | (go_at_call 57; refine ((unhide HNh) _ (below_then (unhide HBu) (by assumption))).mono ?_; rintro e u4 ⟨rfl, rfl⟩))
  have hB6 := below_then (unhide HBu) (by assumption)
  clear k5 k6 k7 k8 k9 k10 k11 k12 t0 t1 t2 t3 t4 t5
  go_wp2
  go_ret
  exact ⟨rfl, hB6⟩
end
section
set_option maxRecDepth 100000
open Go.RowKit Go.Sort
set_option maxHeartbeats 2000000 in
theorem lOf_wrong (c : Um.Cf) (a : Option Addr) (n cap : Nat) (w : World) (h : c.r = false) :
    Calls Tryz.prog 10 #[(.agg #[.int .i64 (c.t), .int .i64 (c.s), .int .i64 (c.k), .int .i64 (c.g), .int .u64 (c.q : Int)]), .slice a n cap] w fun e W' => e = .returned (.tuple #[.pointer none, (.agg #[.int .i64 0, .int .i64 0, .int .i64 0, .int .i64 0, .int .u64 0, .slice none 0 0, .int .i64 0, .int .i64 0, .int .i64 0, .int .i64 0, .int .u64 0, .int .u64 0, .bool false]), .bool false]) ∧ Below w.heap.size w W' := by
  have hR := rRight_any c.t c.s c.k c.g c.q
  rw [show Um.rt c.t c.s c.k c.g c.q = false from h] at hR
  clear h
  have hS := St.new w
  go_enter Tryz.func10, Tryz.ntmps10
  go_wp2_with (first | (refine wpl_box hS rfl _ _ rfl _ rfl _ (by intro _; simp only [Act.put, List.setIfInBounds_toArray, List.set_cons_zero, List.set_cons_succ]; first | done | exact rfl) ?_; clear hS; intro _ _ hS; dsimp only [blit, List.set, List.cons_append, List.nil_append, Value.cells, List.toList_toArray] at hS) | (refine wpl_alloc hS rfl _ rfl _ (zer_any rfl) _ (by intro _; simp only [Act.put, List.setIfInBounds_toArray, List.set_cons_zero, List.set_cons_succ]; first | done | exact rfl) ?_; clear hS; intro _ _ hS; dsimp only [blit, List.set, List.cons_append, List.nil_append, Value.cells, List.toList_toArray] at hS) | (refine wpl_ld hS rfl _ _ rfl _ _ rfl ?_; (first | refine ⟨0, _, rfl, ?_⟩ | refine ⟨1, _, rfl, ?_⟩ | refine ⟨2, _, rfl, ?_⟩ | refine ⟨3, _, rfl, ?_⟩ | refine ⟨4, _, rfl, ?_⟩ | refine ⟨5, _, rfl, ?_⟩ | refine ⟨6, _, rfl, ?_⟩ | refine ⟨7, _, rfl, ?_⟩ | refine ⟨8, _, rfl, ?_⟩ | refine ⟨9, _, rfl, ?_⟩); first | refine .inl ⟨_, one_any rfl, rfl, _, (by simp only [Act.put, List.setIfInBounds_toArray, List.set_cons_zero, List.set_cons_succ]; first | done | exact rfl), ?_⟩ | refine .inr ⟨_, _, row_any rfl, rfl, (by dsimp only [cutL, List.drop, List.take]; first | done | exact rfl), _, (by simp only [Act.put, List.setIfInBounds_toArray, List.set_cons_zero, List.set_cons_succ]; first | done | exact rfl), ?_⟩) | (refine wpl_st hS rfl _ _ _ rfl rfl _ _ rfl ?_; (first | refine ⟨0, _, rfl, ?_⟩ | refine ⟨1, _, rfl, ?_⟩ | refine ⟨2, _, rfl, ?_⟩ | refine ⟨3, _, rfl, ?_⟩ | refine ⟨4, _, rfl, ?_⟩ | refine ⟨5, _, rfl, ?_⟩ | refine ⟨6, _, rfl, ?_⟩ | refine ⟨7, _, rfl, ?_⟩ | refine ⟨8, _, rfl, ?_⟩ | refine ⟨9, _, rfl, ?_⟩); refine ⟨_, (by first | exact shA rfl | exact shI rfl | exact shB rfl | exact shS rfl | exact shP rfl | exact shF rfl | exact shN rfl), _, siz_any rfl, (by exact rfl), (by exact rfl), (by exact rfl), ?_⟩; clear hS; intro _ hS; dsimp only [blit, List.set, List.cons_append, List.nil_append, Value.cells, List.toList_toArray] at hS))
  refine (hR _).mono ?_
  rintro e w1 ⟨rfl, hb⟩
  replace hS := hS.call hb
  clear hb hR
  go_wp2_with (first | (refine wpl_box hS rfl _ _ rfl _ rfl _ (by intro _; simp only [Act.put, List.setIfInBounds_toArray, List.set_cons_zero, List.set_cons_succ]; first | done | exact rfl) ?_; clear hS; intro _ _ hS; dsimp only [blit, List.set, List.cons_append, List.nil_append, Value.cells, List.toList_toArray] at hS) | (refine wpl_alloc hS rfl _ rfl _ (zer_any rfl) _ (by intro _; simp only [Act.put, List.setIfInBounds_toArray, List.set_cons_zero, List.set_cons_succ]; first | done | exact rfl) ?_; clear hS; intro _ _ hS; dsimp only [blit, List.set, List.cons_append, List.nil_append, Value.cells, List.toList_toArray] at hS) | (refine wpl_ld hS rfl _ _ rfl _ _ rfl ?_; (first | refine ⟨0, _, rfl, ?_⟩ | refine ⟨1, _, rfl, ?_⟩ | refine ⟨2, _, rfl, ?_⟩ | refine ⟨3, _, rfl, ?_⟩ | refine ⟨4, _, rfl, ?_⟩ | refine ⟨5, _, rfl, ?_⟩ | refine ⟨6, _, rfl, ?_⟩ | refine ⟨7, _, rfl, ?_⟩ | refine ⟨8, _, rfl, ?_⟩ | refine ⟨9, _, rfl, ?_⟩); first | refine .inl ⟨_, one_any rfl, rfl, _, (by simp only [Act.put, List.setIfInBounds_toArray, List.set_cons_zero, List.set_cons_succ]; first | done | exact rfl), ?_⟩ | refine .inr ⟨_, _, row_any rfl, rfl, (by dsimp only [cutL, List.drop, List.take]; first | done | exact rfl), _, (by simp only [Act.put, List.setIfInBounds_toArray, List.set_cons_zero, List.set_cons_succ]; first | done | exact rfl), ?_⟩) | (refine wpl_st hS rfl _ _ _ rfl rfl _ _ rfl ?_; (first | refine ⟨0, _, rfl, ?_⟩ | refine ⟨1, _, rfl, ?_⟩ | refine ⟨2, _, rfl, ?_⟩ | refine ⟨3, _, rfl, ?_⟩ | refine ⟨4, _, rfl, ?_⟩ | refine ⟨5, _, rfl, ?_⟩ | refine ⟨6, _, rfl, ?_⟩ | refine ⟨7, _, rfl, ?_⟩ | refine ⟨8, _, rfl, ?_⟩ | refine ⟨9, _, rfl, ?_⟩); refine ⟨_, (by first | exact shA rfl | exact shI rfl | exact shB rfl | exact shS rfl | exact shP rfl | exact shF rfl | exact shN rfl), _, siz_any rfl, (by exact rfl), (by exact rfl), (by exact rfl), ?_⟩; clear hS; intro _ hS; dsimp only [blit, List.set, List.cons_append, List.nil_append, Value.cells, List.toList_toArray] at hS))
  have hZ := hS.get 1 rfl
  refine bodyPost_ret (v := .tuple #[.pointer none, (.agg #[.int .i64 0, .int .i64 0, .int .i64 0, .int .i64 0, .int .u64 0, .slice none 0 0, .int .i64 0, .int .i64 0, .int .i64 0, .int .i64 0, .int .u64 0, .int .u64 0, .bool false]), .bool false]) (by simp [results, Tryz.results10, go_sem, hZ.cell 0 _ rfl, hZ.cell 1 _ rfl, hZ.cell 2 _ rfl, hZ.cell 3 _ rfl, hZ.cell 4 _ rfl, hZ.cell 5 _ rfl, hZ.cell 6 _ rfl, hZ.cell 7 _ rfl, hZ.cell 8 _ rfl, hZ.cell 9 _ rfl, hZ.cell 10 _ rfl, hZ.cell 11 _ rfl, hZ.cell 12 _ rfl]) rfl ⟨rfl, hS.bel⟩
set_option maxHeartbeats 2000000 in
theorem lOf_short (c : Um.Cf) (a : Option Addr) (n cap : Nat) (w : World) (h : c.r = true) (hn : n ≠ c.n) :
    Calls Tryz.prog 10 #[(.agg #[.int .i64 (c.t), .int .i64 (c.s), .int .i64 (c.k), .int .i64 (c.g), .int .u64 (c.q : Int)]), .slice a n cap] w fun e W' => e = .returned (.tuple #[.pointer none, (.agg #[.int .i64 0, .int .i64 0, .int .i64 0, .int .i64 0, .int .u64 0, .slice none 0 0, .int .i64 0, .int .i64 0, .int .i64 0, .int .i64 0, .int .u64 0, .int .u64 0, .bool false]), .bool false]) ∧ Below w.heap.size w W' := by
  have hR := rRight_any c.t c.s c.k c.g c.q
  rw [show Um.rt c.t c.s c.k c.g c.q = true from h] at hR
  have hL := rLen_any c.t c.s c.k c.g c.q
  rw [Cf_len] at hL
  have hne : ((n : Int) == (c.n : Int)) = false := by simp; omega
  clear h hn
  generalize c.n = m at *
  have hS := St.new w
  go_enter Tryz.func10, Tryz.ntmps10
  go_wp2_with (first | (refine wpl_box hS rfl _ _ rfl _ rfl _ (by intro _; simp only [Act.put, List.setIfInBounds_toArray, List.set_cons_zero, List.set_cons_succ]; first | done | exact rfl) ?_; clear hS; intro _ _ hS; dsimp only [blit, List.set, List.cons_append, List.nil_append, Value.cells, List.toList_toArray] at hS) | (refine wpl_alloc hS rfl _ rfl _ (zer_any rfl) _ (by intro _; simp only [Act.put, List.setIfInBounds_toArray, List.set_cons_zero, List.set_cons_succ]; first | done | exact rfl) ?_; clear hS; intro _ _ hS; dsimp only [blit, List.set, List.cons_append, List.nil_append, Value.cells, List.toList_toArray] at hS) | (refine wpl_ld hS rfl _ _ rfl _ _ rfl ?_; (first | refine ⟨0, _, rfl, ?_⟩ | refine ⟨1, _, rfl, ?_⟩ | refine ⟨2, _, rfl, ?_⟩ | refine ⟨3, _, rfl, ?_⟩ | refine ⟨4, _, rfl, ?_⟩ | refine ⟨5, _, rfl, ?_⟩ | refine ⟨6, _, rfl, ?_⟩ | refine ⟨7, _, rfl, ?_⟩ | refine ⟨8, _, rfl, ?_⟩ | refine ⟨9, _, rfl, ?_⟩); first | refine .inl ⟨_, one_any rfl, rfl, _, (by simp only [Act.put, List.setIfInBounds_toArray, List.set_cons_zero, List.set_cons_succ]; first | done | exact rfl), ?_⟩ | refine .inr ⟨_, _, row_any rfl, rfl, (by dsimp only [cutL, List.drop, List.take]; first | done | exact rfl), _, (by simp only [Act.put, List.setIfInBounds_toArray, List.set_cons_zero, List.set_cons_succ]; first | done | exact rfl), ?_⟩) | (refine wpl_st hS rfl _ _ _ rfl rfl _ _ rfl ?_; (first | refine ⟨0, _, rfl, ?_⟩ | refine ⟨1, _, rfl, ?_⟩ | refine ⟨2, _, rfl, ?_⟩ | refine ⟨3, _, rfl, ?_⟩ | refine ⟨4, _, rfl, ?_⟩ | refine ⟨5, _, rfl, ?_⟩ | refine ⟨6, _, rfl, ?_⟩ | refine ⟨7, _, rfl, ?_⟩ | refine ⟨8, _, rfl, ?_⟩ | refine ⟨9, _, rfl, ?_⟩); refine ⟨_, (by first | exact shA rfl | exact shI rfl | exact shB rfl | exact shS rfl | exact shP rfl | exact shF rfl | exact shN rfl), _, siz_any rfl, (by exact rfl), (by exact rfl), (by exact rfl), ?_⟩; clear hS; intro _ hS; dsimp only [blit, List.set, List.cons_append, List.nil_append, Value.cells, List.toList_toArray] at hS))
  refine (hR _).mono ?_
  rintro e w1 ⟨rfl, hb⟩
  replace hS := hS.call hb
  clear hb hR
  go_wp2_with (first | (refine wpl_box hS rfl _ _ rfl _ rfl _ (by intro _; simp only [Act.put, List.setIfInBounds_toArray, List.set_cons_zero, List.set_cons_succ]; first | done | exact rfl) ?_; clear hS; intro _ _ hS; dsimp only [blit, List.set, List.cons_append, List.nil_append, Value.cells, List.toList_toArray] at hS) | (refine wpl_alloc hS rfl _ rfl _ (zer_any rfl) _ (by intro _; simp only [Act.put, List.setIfInBounds_toArray, List.set_cons_zero, List.set_cons_succ]; first | done | exact rfl) ?_; clear hS; intro _ _ hS; dsimp only [blit, List.set, List.cons_append, List.nil_append, Value.cells, List.toList_toArray] at hS) | (refine wpl_ld hS rfl _ _ rfl _ _ rfl ?_; (first | refine ⟨0, _, rfl, ?_⟩ | refine ⟨1, _, rfl, ?_⟩ | refine ⟨2, _, rfl, ?_⟩ | refine ⟨3, _, rfl, ?_⟩ | refine ⟨4, _, rfl, ?_⟩ | refine ⟨5, _, rfl, ?_⟩ | refine ⟨6, _, rfl, ?_⟩ | refine ⟨7, _, rfl, ?_⟩ | refine ⟨8, _, rfl, ?_⟩ | refine ⟨9, _, rfl, ?_⟩); first | refine .inl ⟨_, one_any rfl, rfl, _, (by simp only [Act.put, List.setIfInBounds_toArray, List.set_cons_zero, List.set_cons_succ]; first | done | exact rfl), ?_⟩ | refine .inr ⟨_, _, row_any rfl, rfl, (by dsimp only [cutL, List.drop, List.take]; first | done | exact rfl), _, (by simp only [Act.put, List.setIfInBounds_toArray, List.set_cons_zero, List.set_cons_succ]; first | done | exact rfl), ?_⟩) | (refine wpl_st hS rfl _ _ _ rfl rfl _ _ rfl ?_; (first | refine ⟨0, _, rfl, ?_⟩ | refine ⟨1, _, rfl, ?_⟩ | refine ⟨2, _, rfl, ?_⟩ | refine ⟨3, _, rfl, ?_⟩ | refine ⟨4, _, rfl, ?_⟩ | refine ⟨5, _, rfl, ?_⟩ | refine ⟨6, _, rfl, ?_⟩ | refine ⟨7, _, rfl, ?_⟩ | refine ⟨8, _, rfl, ?_⟩ | refine ⟨9, _, rfl, ?_⟩); refine ⟨_, (by first | exact shA rfl | exact shI rfl | exact shB rfl | exact shS rfl | exact shP rfl | exact shF rfl | exact shN rfl), _, siz_any rfl, (by exact rfl), (by exact rfl), (by exact rfl), ?_⟩; clear hS; intro _ hS; dsimp only [blit, List.set, List.cons_append, List.nil_append, Value.cells, List.toList_toArray] at hS))
  refine (hL _).mono ?_
  rintro e w2 ⟨rfl, hb⟩
  replace hS := hS.call hb
  clear hb hL
  go_wp2_with (first | (refine wpl_box hS rfl _ _ rfl _ rfl _ (by intro _; simp only [Act.put, List.setIfInBounds_toArray, List.set_cons_zero, List.set_cons_succ]; first | done | exact rfl) ?_; clear hS; intro _ _ hS; dsimp only [blit, List.set, List.cons_append, List.nil_append, Value.cells, List.toList_toArray] at hS) | (refine wpl_alloc hS rfl _ rfl _ (zer_any rfl) _ (by intro _; simp only [Act.put, List.setIfInBounds_toArray, List.set_cons_zero, List.set_cons_succ]; first | done | exact rfl) ?_; clear hS; intro _ _ hS; dsimp only [blit, List.set, List.cons_append, List.nil_append, Value.cells, List.toList_toArray] at hS) | (refine wpl_ld hS rfl _ _ rfl _ _ rfl ?_; (first | refine ⟨0, _, rfl, ?_⟩ | refine ⟨1, _, rfl, ?_⟩ | refine ⟨2, _, rfl, ?_⟩ | refine ⟨3, _, rfl, ?_⟩ | refine ⟨4, _, rfl, ?_⟩ | refine ⟨5, _, rfl, ?_⟩ | refine ⟨6, _, rfl, ?_⟩ | refine ⟨7, _, rfl, ?_⟩ | refine ⟨8, _, rfl, ?_⟩ | refine ⟨9, _, rfl, ?_⟩); first | refine .inl ⟨_, one_any rfl, rfl, _, (by simp only [Act.put, List.setIfInBounds_toArray, List.set_cons_zero, List.set_cons_succ]; first | done | exact rfl), ?_⟩ | refine .inr ⟨_, _, row_any rfl, rfl, (by dsimp only [cutL, List.drop, List.take]; first | done | exact rfl), _, (by simp only [Act.put, List.setIfInBounds_toArray, List.set_cons_zero, List.set_cons_succ]; first | done | exact rfl), ?_⟩) | (refine wpl_st hS rfl _ _ _ rfl rfl _ _ rfl ?_; (first | refine ⟨0, _, rfl, ?_⟩ | refine ⟨1, _, rfl, ?_⟩ | refine ⟨2, _, rfl, ?_⟩ | refine ⟨3, _, rfl, ?_⟩ | refine ⟨4, _, rfl, ?_⟩ | refine ⟨5, _, rfl, ?_⟩ | refine ⟨6, _, rfl, ?_⟩ | refine ⟨7, _, rfl, ?_⟩ | refine ⟨8, _, rfl, ?_⟩ | refine ⟨9, _, rfl, ?_⟩); refine ⟨_, (by first | exact shA rfl | exact shI rfl | exact shB rfl | exact shS rfl | exact shP rfl | exact shF rfl | exact shN rfl), _, siz_any rfl, (by exact rfl), (by exact rfl), (by exact rfl), ?_⟩; clear hS; intro _ hS; dsimp only [blit, List.set, List.cons_append, List.nil_append, Value.cells, List.toList_toArray] at hS))
  have hZ := hS.get 1 rfl
  refine bodyPost_ret (v := .tuple #[.pointer none, (.agg #[.int .i64 0, .int .i64 0, .int .i64 0, .int .i64 0, .int .u64 0, .slice none 0 0, .int .i64 0, .int .i64 0, .int .i64 0, .int .i64 0, .int .u64 0, .int .u64 0, .bool false]), .bool false]) (by simp [results, Tryz.results10, go_sem, hZ.cell 0 _ rfl, hZ.cell 1 _ rfl, hZ.cell 2 _ rfl, hZ.cell 3 _ rfl, hZ.cell 4 _ rfl, hZ.cell 5 _ rfl, hZ.cell 6 _ rfl, hZ.cell 7 _ rfl, hZ.cell 8 _ rfl, hZ.cell 9 _ rfl, hZ.cell 10 _ rfl, hZ.cell 11 _ rfl, hZ.cell 12 _ rfl]) rfl ⟨rfl, hS.bel⟩
end
end Go.Proofs.YtapgghciieloaaaGreat
