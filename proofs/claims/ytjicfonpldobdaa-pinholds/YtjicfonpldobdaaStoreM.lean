/-
  The walk of an access of a spot that stands nowhere.
-/
import Derived.Test.YtjicfonpldobdaaStoreE
namespace Go.Proofs.Ytjicfonpldobdaa
set_option maxRecDepth 100000
open Go.RowKit Go.Sort

set_option maxHeartbeats 2000000 in
theorem mAccess_miss {W : World} {B C : Nat} {c : Um.Cf} {m : Um.Mm} (h : MemAt W B C c m) (kind a b : Int) (fv : Value)
    (hb0 : -9223372036854775808 ≤ b) (hb1 : b ≤ 9223372036854775807) (hp : c.cl a b = -1) :
    Calls Try.prog 45 #[.pointer (some ⟨B, 0, none⟩), .int .i64 kind, (.agg #[.int .i64 a, .int .i64 b]), fv] W fun e W' =>
      e = .returned (.agg #[.int .i64 kind, .int .i64 a, .int .i64 b, .int .u64 0, .int .u64 0, .bool false]) ∧ MemAt W' B C c (Um.mmiss m kind a b) ∧ Off B C W W' := by
  have hcl := fun w => cCell_any c.t c.s c.k c.g c.q a b w hb0 hb1
  rw [show Um.cellN (Um.rt c.t c.s c.k c.g c.q) c.t c.s c.k a b = -1 from hp] at hcl
  have hBn : B ≠ W.heap.size ∧ B ≠ W.heap.size + 1 ∧ B ≠ W.heap.size + 1 + 1 := by have := h.hB; omega
  have hCn : C ≠ W.heap.size ∧ C ≠ W.heap.size + 1 ∧ C ≠ W.heap.size + 1 + 1 := by have := h.hC; omega
  clear hp hb0 hb1
  have hne := h.ne
  go_enter Try.func45, Try.ntmps45
  go_wp2_with fail
  generalize hw1 : ((W.alloc (.cells #[.int .i64 a, .int .i64 b] 39)).alloc (.cells #[.int .i64 0, .int .i64 0, .int .i64 0, .int .u64 0, .int .u64 0, .bool false] 87)).alloc (.cells #[.int .i64 kind, .int .i64 a, .int .i64 b, .int .u64 0, .int .u64 0, .bool false] 87) = w1
  obtain ⟨hS1, hR1, hT1⟩ : SpAt w1 W.heap.size a b ∧ TchAt w1 (W.heap.size + 1) ⟨0, 0, 0, 0, 0, false⟩ ∧ TchAt w1 (W.heap.size + 1 + 1) ⟨kind, a, b, 0, 0, false⟩ := by
    subst hw1
    obtain ⟨h1, h2, h3⟩ := alloc3_at W (.cells #[.int .i64 a, .int .i64 b] 39) (.cells #[.int .i64 0, .int .i64 0, .int .i64 0, .int .u64 0, .int .u64 0, .bool false] 87) (.cells #[.int .i64 kind, .int .i64 a, .int .i64 b, .int .u64 0, .int .u64 0, .bool false] 87)
    exact ⟨spAt_new h1, tchAt_new _ h2, tchAt_new _ h3⟩
  have hO1 : Off B C W w1 := by
    subst hw1
    exact (((Off.refl B C W).alloc _).alloc _).alloc _
  have hM1 : MemAt w1 B C c m := by
    subst hw1
    exact h.below ((((Below.refl W.heap.size W).alloc (Nat.le_refl _) _).alloc (by simp) _).alloc (by simp; omega) _) h.hB h.hC
  clear hw1 h
  obtain ⟨_, a0, a1⟩ := id hS1
  obtain ⟨_, _, _, _, f0, f1, f2, f3, f4, _⟩ := id hM1
  have k0 : ∀ d os, (grow (redrawn w1 d) os).cell? ⟨B, 0, none⟩ = some (.int .i64 c.t) := fun d os => cell_regrown f0 d os
  have k1 : ∀ d os, (grow (redrawn w1 d) os).cell? ⟨B, 1, none⟩ = some (.int .i64 c.s) := fun d os => cell_regrown f1 d os
  have k2 : ∀ d os, (grow (redrawn w1 d) os).cell? ⟨B, 2, none⟩ = some (.int .i64 c.k) := fun d os => cell_regrown f2 d os
  have k3 : ∀ d os, (grow (redrawn w1 d) os).cell? ⟨B, 3, none⟩ = some (.int .i64 c.g) := fun d os => cell_regrown f3 d os
  have k4 : ∀ d os, (grow (redrawn w1 d) os).cell? ⟨B, 4, none⟩ = some (.int .u64 c.q) := fun d os => cell_regrown f4 d os
  have k5 : ∀ d os, (grow (redrawn w1 d) os).cell? ⟨W.heap.size, 0, none⟩ = some (.int .i64 a) := fun d os => cell_regrown a0 d os
  have k6 : ∀ d os, (grow (redrawn w1 d) os).cell? ⟨W.heap.size, 1, none⟩ = some (.int .i64 b) := fun d os => cell_regrown a1 d os
  refine wp_region_quiet_below (by kernel_rfl) (by kernel_rfl) ?_
  repeat (go_big_quiet_step (first
    | (go_at_call 65; exact Calls.regrown_of (hcl _))))
  refine wpQuiet_nil ?_
  intro w2 hw2
  have hb2 : Below w1.heap.size w1 w2 := by
    obtain ⟨⟨dq, osq⟩, hw3⟩ := hw2
    subst hw3
    exact below_regrown w1 dq osq
  have hR2 := hR1.below hb2
  have hT2 := hT1.below hb2
  have hM2 := hM1.below hb2 hM1.hB hM1.hC
  have hO2 := hO1.then hb2
  clear hb2 hw2 hR1 hT1 hM1 hO1 hS1 a0 a1 f0 f1 f2 f3 f4 k0 k1 k2 k3 k4 k5 k6 hcl
  have hTl : W.heap.size ≤ W.heap.size + 1 + 1 := by omega
  have hRl : W.heap.size ≤ W.heap.size + 1 := by omega
  have hTR : W.heap.size + 1 + 1 ≠ W.heap.size + 1 := by omega
  obtain ⟨_, hBR, hBT⟩ := hBn
  obtain ⟨_, hCR, hCT⟩ := hCn
  generalize W.heap.size + 1 + 1 = T at *
  generalize W.heap.size + 1 = R at *
  have HT := hide hT2
  have HR := hide hR2
  have HM := hide hM2
  have HO := hide hO2
  obtain ⟨_, t0, t1, t2, t3, t4, t5, tz⟩ := hT2
  obtain ⟨_, r0, r1, r2, r3, r4, r5, rz⟩ := hR2
  obtain ⟨_, _, _, _, _, _, _, _, _, m5, m6, m7, m8, m9, m10, m11, m12, mz, mc, _, _⟩ := hM2
  have rz0 := rz 0
  have rz1 := rz 1
  have rz2 := rz 2
  have rz3 := rz 3
  have rz4 := rz 4
  have rz5 := rz 5
  have mz6 := mz 6
  have mz7 := mz 7
  have mz8 := mz 8
  have mz9 := mz 9
  have mz10 := mz 10
  have mz11 := mz 11
  have mz12 := mz 12
  clear tz rz mz mc hO2
  go_wp2
  have hM := unhide HM
  have hR := unhide HR
  have hO := unhide HO
  have hm := ((((((((((((hM.setCnt (wrap64 (m.cnt + 1))).setL0 kind).setL1 a).setL2 b).setL3 0).setL4 0).setL5 false).set (p := ⟨R, 0, none⟩) (u := .int .i64 kind) (Ne.symm hBR) (Ne.symm hCR)).set (p := ⟨R, 1, none⟩) (u := .int .i64 a) (Ne.symm hBR) (Ne.symm hCR)).set (p := ⟨R, 2, none⟩) (u := .int .i64 b) (Ne.symm hBR) (Ne.symm hCR)).set (p := ⟨R, 3, none⟩) (u := .int .u64 0) (Ne.symm hBR) (Ne.symm hCR)).set (p := ⟨R, 4, none⟩) (u := .int .u64 0) (Ne.symm hBR) (Ne.symm hCR)).set (p := ⟨R, 5, none⟩) (u := .bool false) (Ne.symm hBR) (Ne.symm hCR)
  have hr := ((((((((((((hR.set (p := ⟨B, 6, none⟩) (u := .int .i64 (wrap64 (m.cnt + 1))) hBR).set (p := ⟨B, 7, none⟩) (u := .int .i64 kind) hBR).set (p := ⟨B, 8, none⟩) (u := .int .i64 a) hBR).set (p := ⟨B, 9, none⟩) (u := .int .i64 b) hBR).set (p := ⟨B, 10, none⟩) (u := .int .u64 0) hBR).set (p := ⟨B, 11, none⟩) (u := .int .u64 0) hBR).set (p := ⟨B, 12, none⟩) (u := .bool false) hBR).set0 kind).set1 a).set2 b).set3 0).set4 0).set5 false
  have ho := ((((((((((((hO.set (p := ⟨B, 6, none⟩) (.inl rfl) (.int .i64 (wrap64 (m.cnt + 1)))).set (p := ⟨B, 7, none⟩) (.inl rfl) (.int .i64 kind)).set (p := ⟨B, 8, none⟩) (.inl rfl) (.int .i64 a)).set (p := ⟨B, 9, none⟩) (.inl rfl) (.int .i64 b)).set (p := ⟨B, 10, none⟩) (.inl rfl) (.int .u64 0)).set (p := ⟨B, 11, none⟩) (.inl rfl) (.int .u64 0)).set (p := ⟨B, 12, none⟩) (.inl rfl) (.bool false)).set (p := ⟨R, 0, none⟩) (.inr (.inr hRl)) (.int .i64 kind)).set (p := ⟨R, 1, none⟩) (.inr (.inr hRl)) (.int .i64 a)).set (p := ⟨R, 2, none⟩) (.inr (.inr hRl)) (.int .i64 b)).set (p := ⟨R, 3, none⟩) (.inr (.inr hRl)) (.int .u64 0)).set (p := ⟨R, 4, none⟩) (.inr (.inr hRl)) (.int .u64 0)).set (p := ⟨R, 5, none⟩) (.inr (.inr hRl)) (.bool false)
  dsimp only at hm
  rw [next_eq] at hm
  simp only [next_eq] at hr ho
  clear HM HR HO hM hR hO HT
  have ez : ((0 : Nat) : Int) = 0 := rfl
  rw [ez] at hm hr
  rw [next_eq]
  generalize World.setCell _ _ _ = Wf at hm hr ho ⊢
  obtain ⟨_, q0, q1, q2, q3, q4, q5, _⟩ := hr
  exact bodyPost_ret (v := (.agg #[.int .i64 kind, .int .i64 a, .int .i64 b, .int .u64 0, .int .u64 0, .bool false])) (by simp [results, Try.results45, go_sem, q0, q1, q2, q3, q4, q5]) rfl ⟨rfl, hm, ho⟩

theorem field_old (k a b o n : Int) (d : Bool) (w : World) : (Instr.field 87 (.agg #[.int .i64 k, .int .i64 a, .int .i64 b, .int .u64 o, .int .u64 n, .bool d]) 2).run Try.prog w = .ok (.int .u64 o) w := by
  simp [Instr.field, go_sem, asAgg]

theorem field_done (k a b o n : Int) (d : Bool) (w : World) : (Instr.field 87 (.agg #[.int .i64 k, .int .i64 a, .int .i64 b, .int .u64 o, .int .u64 n, .bool d]) 4).run Try.prog w = .ok (.bool d) w := by
  simp [Instr.field, go_sem, asAgg]

/-- an access of any spot -/
theorem mAccess_any {W : World} {B C : Nat} {c : Um.Cf} {m : Um.Mm} (h : MemAt W B C c m) (kind a b : Int) (o v : Nat) (F : FuncId) (eg : ∀ args w, (callFunc F args).run Try.prog w = .ok (.enter F args) w)
    (hF : ∀ x w, Calls Try.prog F #[.agg #[.int .u64 o, .int .u64 v], .int .u64 (x : Nat)] w fun e w' => e = .returned (.tuple #[.int .u64 (Um.trn kind o v x : Nat), .bool (Um.trd kind o x)]) ∧ Below w.heap.size w w')
    (hb0 : -9223372036854775808 ≤ b) (hb1 : b ≤ 9223372036854775807) (hv : Um.Word v) (M : Um.Mm) (hM : M = Um.mtouch c m kind a b o v) :
    Calls Try.prog 45 #[.pointer (some ⟨B, 0, none⟩), .int .i64 kind, (.agg #[.int .i64 a, .int .i64 b]), .func (.func F) #[.agg #[.int .u64 o, .int .u64 v]] #[]] W fun e W' =>
      e = .returned (.agg #[.int .i64 (M.l.kind), .int .i64 (M.l.a), .int .i64 (M.l.b), .int .u64 (M.l.old : Nat), .int .u64 (M.l.new : Nat), .bool (M.l.done)]) ∧ MemAt W' B C c M ∧ Off B C W W' := by
  subst hM
  unfold Um.mtouch
  by_cases hp : 0 ≤ c.cl a b
  · rw [if_pos hp]
    exact mAccess_hit h kind a b o v F eg hF hb0 hb1 hv _ (Int.toNat_of_nonneg hp).symm
  · rw [if_neg hp]
    exact mAccess_miss h kind a b _ hb0 hb1 (by have := c.cl_ge a b; omega)

end Go.Proofs.Ytjicfonpldobdaa
