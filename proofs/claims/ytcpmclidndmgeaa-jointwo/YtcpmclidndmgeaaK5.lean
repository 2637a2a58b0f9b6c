/-
  Texts that the laws stand on, merged (StoreM, StoreF, StoreL, BlkClone, StoreR2, StoreL2, StoreZ, StoreZ2, BlkR, HelpMath5, OpenMath2, OpenMath3, OpenMath4, OpenMath5, OpenMath6, GateMath, GateMath2, GateMath3, JoinMath, JoinMath2).
-/
import Derived.Test.YtcpmclidndmgeaaK2
import Derived.Test.YtcpmclidndmgeaaK3
import Derived.Test.YtcpmclidndmgeaaK4
import Derived.Deep.AppendLies
import Derived.Deep.RegionHeld3
import Derived.Deep.RegionLawGrows
import Derived.Laws.AppendOwnNone
import Derived.Lib.QuietBelow
import Derived.LoopTactic
import Derived.Orders
import Derived.WalkKit

/-
  The walk of an access of a spot that stands nowhere.
-/
namespace Go.Proofs.Ytcpmclidndmgeaa
set_option maxRecDepth 100000
open Go.RowKit Go.Sort

set_option maxHeartbeats 2000000 in
theorem mAccess_miss {W : World} {B C : Nat} {c : Um.Cf} {m : Um.Mm} (h : MemAt W B C c m) (kind a b : Int) (fv : Value)
    (hb0 : -9223372036854775808 ≤ b) (hb1 : b ≤ 9223372036854775807) (hp : c.cl a b = -1) :
    Calls Try.prog 60 #[.pointer (some ⟨B, 0, none⟩), .int .i64 kind, (.agg #[.int .i64 a, .int .i64 b]), fv] W fun e W' =>
      e = .returned (.agg #[.int .i64 kind, .int .i64 a, .int .i64 b, .int .u64 0, .int .u64 0, .bool false]) ∧ MemAt W' B C c (Um.mmiss m kind a b) ∧ Off B C W W' := by
  have hcl := fun w => cCell_any c.t c.s c.k c.g c.q a b w hb0 hb1
  rw [show Um.cellN (Um.rt c.t c.s c.k c.g c.q) c.t c.s c.k a b = -1 from hp] at hcl
  have hBn : B ≠ W.heap.size ∧ B ≠ W.heap.size + 1 ∧ B ≠ W.heap.size + 1 + 1 := by have := h.hB; omega
  have hCn : C ≠ W.heap.size ∧ C ≠ W.heap.size + 1 ∧ C ≠ W.heap.size + 1 + 1 := by have := h.hC; omega
  clear hp hb0 hb1
  have hne := h.ne
  go_enter Try.func60, Try.ntmps60
  go_wp2_with fail
  generalize hw1 : ((W.alloc (.cells #[.int .i64 a, .int .i64 b] 57)).alloc (.cells #[.int .i64 0, .int .i64 0, .int .i64 0, .int .u64 0, .int .u64 0, .bool false] 101)).alloc (.cells #[.int .i64 kind, .int .i64 a, .int .i64 b, .int .u64 0, .int .u64 0, .bool false] 101) = w1
  obtain ⟨hS1, hR1, hT1⟩ : SpAt w1 W.heap.size a b ∧ TchAt w1 (W.heap.size + 1) ⟨0, 0, 0, 0, 0, false⟩ ∧ TchAt w1 (W.heap.size + 1 + 1) ⟨kind, a, b, 0, 0, false⟩ := by
    subst hw1
    obtain ⟨h1, h2, h3⟩ := alloc3_at W (.cells #[.int .i64 a, .int .i64 b] 57) (.cells #[.int .i64 0, .int .i64 0, .int .i64 0, .int .u64 0, .int .u64 0, .bool false] 101) (.cells #[.int .i64 kind, .int .i64 a, .int .i64 b, .int .u64 0, .int .u64 0, .bool false] 101)
    exact ⟨spAt_new h1, tchAt_new _ h2, tchAt_new _ h3⟩
  have hO1 : Off B C W w1 := by
    subst hw1
    exact (((Off.refl B C W).alloc _).alloc _).alloc _
  have hM1 : MemAt w1 B C c m := by
    subst hw1
    exact h.below ((((Below.refl W.heap.size W).alloc (Nat.le_refl _) _).alloc (by simp) _).alloc (by simp; omega) _) h.hB h.hC
  clear hw1 h
  obtain ⟨_, a0, a1⟩ := id hS1
  obtain ⟨_, _, _, _, f0, f1, f2, f3, f4, _⟩ := id hM1
  have k0 : ∀ d os, (grow (redrawn w1 d) os).cell? ⟨B, 0, none⟩ = some (.int .i64 c.t) := fun d os => cell_regrown f0 d os
  have k1 : ∀ d os, (grow (redrawn w1 d) os).cell? ⟨B, 1, none⟩ = some (.int .i64 c.s) := fun d os => cell_regrown f1 d os
  have k2 : ∀ d os, (grow (redrawn w1 d) os).cell? ⟨B, 2, none⟩ = some (.int .i64 c.k) := fun d os => cell_regrown f2 d os
  have k3 : ∀ d os, (grow (redrawn w1 d) os).cell? ⟨B, 3, none⟩ = some (.int .i64 c.g) := fun d os => cell_regrown f3 d os
  have k4 : ∀ d os, (grow (redrawn w1 d) os).cell? ⟨B, 4, none⟩ = some (.int .u64 c.q) := fun d os => cell_regrown f4 d os
  have k5 : ∀ d os, (grow (redrawn w1 d) os).cell? ⟨W.heap.size, 0, none⟩ = some (.int .i64 a) := fun d os => cell_regrown a0 d os
  have k6 : ∀ d os, (grow (redrawn w1 d) os).cell? ⟨W.heap.size, 1, none⟩ = some (.int .i64 b) := fun d os => cell_regrown a1 d os
  refine wp_region_quiet_below (by kernel_rfl) (by kernel_rfl) ?_
  repeat (go_big_quiet_step (first
    | (go_at_call 21; exact Calls.regrown_of (hcl _))))
  refine wpQuiet_nil ?_
  intro w2 hw2
  have hb2 : Below w1.heap.size w1 w2 := by
    obtain ⟨⟨dq, osq⟩, hw3⟩ := hw2
    subst hw3
    exact below_regrown w1 dq osq
  have hR2 := hR1.below hb2
  have hT2 := hT1.below hb2
  have hM2 := hM1.below hb2 hM1.hB hM1.hC
  have hO2 := hO1.then hb2
  clear hb2 hw2 hR1 hT1 hM1 hO1 hS1 a0 a1 f0 f1 f2 f3 f4 k0 k1 k2 k3 k4 k5 k6 hcl
  have hTl : W.heap.size ≤ W.heap.size + 1 + 1 := by omega
  have hRl : W.heap.size ≤ W.heap.size + 1 := by omega
  have hTR : W.heap.size + 1 + 1 ≠ W.heap.size + 1 := by omega
  obtain ⟨_, hBR, hBT⟩ := hBn
  obtain ⟨_, hCR, hCT⟩ := hCn
  generalize W.heap.size + 1 + 1 = T at *
  generalize W.heap.size + 1 = R at *
  have HT := hide hT2
  have HR := hide hR2
  have HM := hide hM2
  have HO := hide hO2
  obtain ⟨_, t0, t1, t2, t3, t4, t5, tz⟩ := hT2
  obtain ⟨_, r0, r1, r2, r3, r4, r5, rz⟩ := hR2
  obtain ⟨_, _, _, _, _, _, _, _, _, m5, m6, m7, m8, m9, m10, m11, m12, mz, mc, _, _⟩ := hM2
  have rz0 := rz 0
  have rz1 := rz 1
  have rz2 := rz 2
  have rz3 := rz 3
  have rz4 := rz 4
  have rz5 := rz 5
  have mz6 := mz 6
  have mz7 := mz 7
  have mz8 := mz 8
  have mz9 := mz 9
  have mz10 := mz 10
  have mz11 := mz 11
  have mz12 := mz 12
  clear tz rz mz mc hO2
  go_wp2
  have hM := unhide HM
  have hR := unhide HR
  have hO := unhide HO
  have hm := ((((((((((((hM.setCnt (wrap64 (m.cnt + 1))).setL0 kind).setL1 a).setL2 b).setL3 0).setL4 0).setL5 false).set (p := ⟨R, 0, none⟩) (u := .int .i64 kind) (Ne.symm hBR) (Ne.symm hCR)).set (p := ⟨R, 1, none⟩) (u := .int .i64 a) (Ne.symm hBR) (Ne.symm hCR)).set (p := ⟨R, 2, none⟩) (u := .int .i64 b) (Ne.symm hBR) (Ne.symm hCR)).set (p := ⟨R, 3, none⟩) (u := .int .u64 0) (Ne.symm hBR) (Ne.symm hCR)).set (p := ⟨R, 4, none⟩) (u := .int .u64 0) (Ne.symm hBR) (Ne.symm hCR)).set (p := ⟨R, 5, none⟩) (u := .bool false) (Ne.symm hBR) (Ne.symm hCR)
  have hr := ((((((((((((hR.set (p := ⟨B, 6, none⟩) (u := .int .i64 (wrap64 (m.cnt + 1))) hBR).set (p := ⟨B, 7, none⟩) (u := .int .i64 kind) hBR).set (p := ⟨B, 8, none⟩) (u := .int .i64 a) hBR).set (p := ⟨B, 9, none⟩) (u := .int .i64 b) hBR).set (p := ⟨B, 10, none⟩) (u := .int .u64 0) hBR).set (p := ⟨B, 11, none⟩) (u := .int .u64 0) hBR).set (p := ⟨B, 12, none⟩) (u := .bool false) hBR).set0 kind).set1 a).set2 b).set3 0).set4 0).set5 false
  have ho := ((((((((((((hO.set (p := ⟨B, 6, none⟩) (.inl rfl) (.int .i64 (wrap64 (m.cnt + 1)))).set (p := ⟨B, 7, none⟩) (.inl rfl) (.int .i64 kind)).set (p := ⟨B, 8, none⟩) (.inl rfl) (.int .i64 a)).set (p := ⟨B, 9, none⟩) (.inl rfl) (.int .i64 b)).set (p := ⟨B, 10, none⟩) (.inl rfl) (.int .u64 0)).set (p := ⟨B, 11, none⟩) (.inl rfl) (.int .u64 0)).set (p := ⟨B, 12, none⟩) (.inl rfl) (.bool false)).set (p := ⟨R, 0, none⟩) (.inr (.inr hRl)) (.int .i64 kind)).set (p := ⟨R, 1, none⟩) (.inr (.inr hRl)) (.int .i64 a)).set (p := ⟨R, 2, none⟩) (.inr (.inr hRl)) (.int .i64 b)).set (p := ⟨R, 3, none⟩) (.inr (.inr hRl)) (.int .u64 0)).set (p := ⟨R, 4, none⟩) (.inr (.inr hRl)) (.int .u64 0)).set (p := ⟨R, 5, none⟩) (.inr (.inr hRl)) (.bool false)
  dsimp only at hm
  rw [next_eq] at hm
  simp only [next_eq] at hr ho
  clear HM HR HO hM hR hO HT
  have ez : ((0 : Nat) : Int) = 0 := rfl
  rw [ez] at hm hr
  rw [next_eq]
  generalize World.setCell _ _ _ = Wf at hm hr ho ⊢
  obtain ⟨_, q0, q1, q2, q3, q4, q5, _⟩ := hr
  exact bodyPost_ret (v := (.agg #[.int .i64 kind, .int .i64 a, .int .i64 b, .int .u64 0, .int .u64 0, .bool false])) (by simp [results, Try.results60, go_sem, q0, q1, q2, q3, q4, q5]) rfl ⟨rfl, hm, ho⟩

theorem field_old (k a b o n : Int) (d : Bool) (w : World) : (Instr.field 101 (.agg #[.int .i64 k, .int .i64 a, .int .i64 b, .int .u64 o, .int .u64 n, .bool d]) 2).run Try.prog w = .ok (.int .u64 o) w := by
  simp [Instr.field, go_sem, asAgg]

theorem field_done (k a b o n : Int) (d : Bool) (w : World) : (Instr.field 101 (.agg #[.int .i64 k, .int .i64 a, .int .i64 b, .int .u64 o, .int .u64 n, .bool d]) 4).run Try.prog w = .ok (.bool d) w := by
  simp [Instr.field, go_sem, asAgg]

/-- an access of any spot -/
theorem mAccess_any {W : World} {B C : Nat} {c : Um.Cf} {m : Um.Mm} (h : MemAt W B C c m) (kind a b : Int) (o v : Nat) (F : FuncId) (eg : ∀ args w, (callFunc F args).run Try.prog w = .ok (.enter F args) w)
    (hF : ∀ x w, Calls Try.prog F #[.agg #[.int .u64 o, .int .u64 v], .int .u64 (x : Nat)] w fun e w' => e = .returned (.tuple #[.int .u64 (Um.trn kind o v x : Nat), .bool (Um.trd kind o x)]) ∧ Below w.heap.size w w')
    (hb0 : -9223372036854775808 ≤ b) (hb1 : b ≤ 9223372036854775807) (hv : Um.Word v) (M : Um.Mm) (hM : M = Um.mtouch c m kind a b o v) :
    Calls Try.prog 60 #[.pointer (some ⟨B, 0, none⟩), .int .i64 kind, (.agg #[.int .i64 a, .int .i64 b]), .func (.func F) #[.agg #[.int .u64 o, .int .u64 v]] #[]] W fun e W' =>
      e = .returned (.agg #[.int .i64 (M.l.kind), .int .i64 (M.l.a), .int .i64 (M.l.b), .int .u64 (M.l.old : Nat), .int .u64 (M.l.new : Nat), .bool (M.l.done)]) ∧ MemAt W' B C c M ∧ Off B C W W' := by
  subst hM
  unfold Um.mtouch
  by_cases hp : 0 ≤ c.cl a b
  · rw [if_pos hp]
    exact mAccess_hit h kind a b o v F eg hF hb0 hb1 hv _ (Int.toNat_of_nonneg hp).symm
  · rw [if_neg hp]
    exact mAccess_miss h kind a b _ hb0 hb1 (by have := c.cl_ge a b; omega)

end Go.Proofs.Ytcpmclidndmgeaa

/-
  The walks of a memory's loads, stores, swaps and adds.
-/
namespace Go.Proofs.Ytcpmclidndmgeaa
set_option maxRecDepth 100000
open Go.RowKit Go.Sort

attribute [local go_sem] field_old field_done

set_option maxHeartbeats 1000000 in
theorem mLoad_any {W : World} {B C : Nat} {c : Um.Cf} {m : Um.Mm} (h : MemAt W B C c m) (a b : Int) (hb0 : -9223372036854775808 ≤ b) (hb1 : b ≤ 9223372036854775807) (M : Um.Mm) (hM : M = Um.mtouch c m 1 a b 0 0) :
    Calls Try.prog 33 #[.pointer (some ⟨B, 0, none⟩), (.agg #[.int .i64 a, .int .i64 b])] W fun e W' => e = .returned (.int .u64 (M.l.old : Nat)) ∧ MemAt W' B C c M ∧ Off B C W W' := by
  have hS : Off B C W (W.alloc (.cells #[.int .i64 a, .int .i64 b] 57)) := (Off.refl B C W).alloc _
  have hM1 : MemAt (W.alloc (.cells #[.int .i64 a, .int .i64 b] 57)) B C c m := h.below ((Below.refl _ _).alloc (Nat.le_refl _) _) h.hB h.hC
  have hA := mAccess_any hM1 1 a b 0 0 62 egL (wLoad_any 0 0) hb0 hb1 (by unfold Um.Word; omega) M hM
  clear hM h hM1 hb0 hb1
  go_enter Try.func33, Try.ntmps33
  go_wp2_with fail
  refine hA.mono ?_
  rintro e w1 ⟨rfl, hM1, hO1⟩
  have HM := hide hM1
  have HO := hide (hS.trans hO1)
  clear hM1 hO1 hA hS
  go_wp2
  go_ret
  exact ⟨rfl, unhide HM, unhide HO⟩

set_option maxHeartbeats 1000000 in
theorem mStore_any {W : World} {B C : Nat} {c : Um.Cf} {m : Um.Mm} (h : MemAt W B C c m) (a b : Int) (v : Nat) (hv : Um.Word v) (hb0 : -9223372036854775808 ≤ b) (hb1 : b ≤ 9223372036854775807) (M : Um.Mm) (hM : M = Um.mtouch c m 2 a b 0 v) :
    Calls Try.prog 32 #[.pointer (some ⟨B, 0, none⟩), (.agg #[.int .i64 a, .int .i64 b]), .int .u64 (v : Nat)] W fun e W' => e = .returned (.tuple #[]) ∧ MemAt W' B C c M ∧ Off B C W W' := by
  have hS : Off B C W (W.alloc (.cells #[.int .i64 a, .int .i64 b] 57)) := (Off.refl B C W).alloc _
  have hM1 : MemAt (W.alloc (.cells #[.int .i64 a, .int .i64 b] 57)) B C c m := h.below ((Below.refl _ _).alloc (Nat.le_refl _) _) h.hB h.hC
  have hA := mAccess_any hM1 2 a b 0 v 61 egS (wStore_any 0 v) hb0 hb1 hv M hM
  clear hM h hM1 hb0 hb1
  go_enter Try.func32, Try.ntmps32
  go_wp2_with fail
  refine hA.mono ?_
  rintro e w1 ⟨rfl, hM1, hO1⟩
  have HM := hide hM1
  have HO := hide (hS.trans hO1)
  clear hM1 hO1 hA hS
  go_wp2
  go_end0
  exact ⟨rfl, unhide HM, unhide HO⟩

set_option maxHeartbeats 1000000 in
theorem mSwap_any {W : World} {B C : Nat} {c : Um.Cf} {m : Um.Mm} (h : MemAt W B C c m) (a b : Int) (o v : Nat) (hv : Um.Word v) (hb0 : -9223372036854775808 ≤ b) (hb1 : b ≤ 9223372036854775807) (M : Um.Mm) (hM : M = Um.mtouch c m 3 a b o v) :
    Calls Try.prog 91 #[.pointer (some ⟨B, 0, none⟩), (.agg #[.int .i64 a, .int .i64 b]), .int .u64 (o : Nat), .int .u64 (v : Nat)] W fun e W' => e = .returned (.bool M.l.done) ∧ MemAt W' B C c M ∧ Off B C W W' := by
  have hS : Off B C W (W.alloc (.cells #[.int .i64 a, .int .i64 b] 57)) := (Off.refl B C W).alloc _
  have hM1 : MemAt (W.alloc (.cells #[.int .i64 a, .int .i64 b] 57)) B C c m := h.below ((Below.refl _ _).alloc (Nat.le_refl _) _) h.hB h.hC
  have hA := mAccess_any hM1 3 a b o v 92 egW (wSwap_any o v) hb0 hb1 hv M hM
  clear hM h hM1 hb0 hb1
  go_enter Try.func91, Try.ntmps91
  go_wp2_with fail
  refine hA.mono ?_
  rintro e w1 ⟨rfl, hM1, hO1⟩
  have HM := hide hM1
  have HO := hide (hS.trans hO1)
  clear hM1 hO1 hA hS
  go_wp2
  go_ret
  exact ⟨rfl, unhide HM, unhide HO⟩

end Go.Proofs.Ytcpmclidndmgeaa

/-
  The walk of layer 6's pair of memories: the program's, and the document's, of one row of words.
-/
namespace Go.Proofs.Ytcpmclidndmgeaa
set_option maxRecDepth 100000
open Go.RowKit Go.Sort

set_option maxHeartbeats 2000000 in
theorem lOf_wrong (c : Um.Cf) (a : Option Addr) (n cap : Nat) (w : World) (h : c.r = false) :
    Calls Try.prog 9 #[(.agg #[.int .i64 (c.t), .int .i64 (c.s), .int .i64 (c.k), .int .i64 (c.g), .int .u64 (c.q : Int)]), .slice a n cap] w fun e W' => e = .returned (.tuple #[.pointer none, (.agg #[.int .i64 0, .int .i64 0, .int .i64 0, .int .i64 0, .int .u64 0, .slice none 0 0, .int .i64 0, .int .i64 0, .int .i64 0, .int .i64 0, .int .u64 0, .int .u64 0, .bool false]), .bool false]) ∧ Below w.heap.size w W' := by
  have hR := rRight_any c.t c.s c.k c.g c.q
  rw [show Um.rt c.t c.s c.k c.g c.q = false from h] at hR
  clear h
  have hS := St.new w
  go_enter Try.func9, Try.ntmps9
  go_wp2_with (first | (refine wpl_box hS rfl _ _ rfl _ rfl _ (by intro _; simp only [Act.put, List.setIfInBounds_toArray, List.set_cons_zero, List.set_cons_succ]; first | done | exact rfl) ?_; clear hS; intro _ _ hS; dsimp only [blit, List.set, List.cons_append, List.nil_append, Value.cells, List.toList_toArray] at hS) | (refine wpl_alloc hS rfl _ rfl _ (zer_any rfl) _ (by intro _; simp only [Act.put, List.setIfInBounds_toArray, List.set_cons_zero, List.set_cons_succ]; first | done | exact rfl) ?_; clear hS; intro _ _ hS; dsimp only [blit, List.set, List.cons_append, List.nil_append, Value.cells, List.toList_toArray] at hS) | (refine wpl_ld hS rfl _ _ rfl _ _ rfl ?_; (first | refine ⟨0, _, rfl, ?_⟩ | refine ⟨1, _, rfl, ?_⟩ | refine ⟨2, _, rfl, ?_⟩ | refine ⟨3, _, rfl, ?_⟩ | refine ⟨4, _, rfl, ?_⟩ | refine ⟨5, _, rfl, ?_⟩ | refine ⟨6, _, rfl, ?_⟩ | refine ⟨7, _, rfl, ?_⟩ | refine ⟨8, _, rfl, ?_⟩ | refine ⟨9, _, rfl, ?_⟩); first | refine .inl ⟨_, one_any rfl, rfl, _, (by simp only [Act.put, List.setIfInBounds_toArray, List.set_cons_zero, List.set_cons_succ]; first | done | exact rfl), ?_⟩ | refine .inr ⟨_, _, row_any rfl, rfl, (by dsimp only [cutL, List.drop, List.take]; first | done | exact rfl), _, (by simp only [Act.put, List.setIfInBounds_toArray, List.set_cons_zero, List.set_cons_succ]; first | done | exact rfl), ?_⟩) | (refine wpl_st hS rfl _ _ _ rfl rfl _ _ rfl ?_; (first | refine ⟨0, _, rfl, ?_⟩ | refine ⟨1, _, rfl, ?_⟩ | refine ⟨2, _, rfl, ?_⟩ | refine ⟨3, _, rfl, ?_⟩ | refine ⟨4, _, rfl, ?_⟩ | refine ⟨5, _, rfl, ?_⟩ | refine ⟨6, _, rfl, ?_⟩ | refine ⟨7, _, rfl, ?_⟩ | refine ⟨8, _, rfl, ?_⟩ | refine ⟨9, _, rfl, ?_⟩); refine ⟨_, (by first | exact shA rfl | exact shI rfl | exact shB rfl | exact shS rfl | exact shP rfl | exact shF rfl | exact shN rfl), _, siz_any rfl, (by exact rfl), (by exact rfl), (by exact rfl), ?_⟩; clear hS; intro _ hS; dsimp only [blit, List.set, List.cons_append, List.nil_append, Value.cells, List.toList_toArray] at hS))
  refine (hR _).mono ?_
  rintro e w1 ⟨rfl, hb⟩
  replace hS := hS.call hb
  clear hb hR
  go_wp2_with (first | (refine wpl_box hS rfl _ _ rfl _ rfl _ (by intro _; simp only [Act.put, List.setIfInBounds_toArray, List.set_cons_zero, List.set_cons_succ]; first | done | exact rfl) ?_; clear hS; intro _ _ hS; dsimp only [blit, List.set, List.cons_append, List.nil_append, Value.cells, List.toList_toArray] at hS) | (refine wpl_alloc hS rfl _ rfl _ (zer_any rfl) _ (by intro _; simp only [Act.put, List.setIfInBounds_toArray, List.set_cons_zero, List.set_cons_succ]; first | done | exact rfl) ?_; clear hS; intro _ _ hS; dsimp only [blit, List.set, List.cons_append, List.nil_append, Value.cells, List.toList_toArray] at hS) | (refine wpl_ld hS rfl _ _ rfl _ _ rfl ?_; (first | refine ⟨0, _, rfl, ?_⟩ | refine ⟨1, _, rfl, ?_⟩ | refine ⟨2, _, rfl, ?_⟩ | refine ⟨3, _, rfl, ?_⟩ | refine ⟨4, _, rfl, ?_⟩ | refine ⟨5, _, rfl, ?_⟩ | refine ⟨6, _, rfl, ?_⟩ | refine ⟨7, _, rfl, ?_⟩ | refine ⟨8, _, rfl, ?_⟩ | refine ⟨9, _, rfl, ?_⟩); first | refine .inl ⟨_, one_any rfl, rfl, _, (by simp only [Act.put, List.setIfInBounds_toArray, List.set_cons_zero, List.set_cons_succ]; first | done | exact rfl), ?_⟩ | refine .inr ⟨_, _, row_any rfl, rfl, (by dsimp only [cutL, List.drop, List.take]; first | done | exact rfl), _, (by simp only [Act.put, List.setIfInBounds_toArray, List.set_cons_zero, List.set_cons_succ]; first | done | exact rfl), ?_⟩) | (refine wpl_st hS rfl _ _ _ rfl rfl _ _ rfl ?_; (first | refine ⟨0, _, rfl, ?_⟩ | refine ⟨1, _, rfl, ?_⟩ | refine ⟨2, _, rfl, ?_⟩ | refine ⟨3, _, rfl, ?_⟩ | refine ⟨4, _, rfl, ?_⟩ | refine ⟨5, _, rfl, ?_⟩ | refine ⟨6, _, rfl, ?_⟩ | refine ⟨7, _, rfl, ?_⟩ | refine ⟨8, _, rfl, ?_⟩ | refine ⟨9, _, rfl, ?_⟩); refine ⟨_, (by first | exact shA rfl | exact shI rfl | exact shB rfl | exact shS rfl | exact shP rfl | exact shF rfl | exact shN rfl), _, siz_any rfl, (by exact rfl), (by exact rfl), (by exact rfl), ?_⟩; clear hS; intro _ hS; dsimp only [blit, List.set, List.cons_append, List.nil_append, Value.cells, List.toList_toArray] at hS))
  have hZ := hS.get 1 rfl
  refine bodyPost_ret (v := .tuple #[.pointer none, (.agg #[.int .i64 0, .int .i64 0, .int .i64 0, .int .i64 0, .int .u64 0, .slice none 0 0, .int .i64 0, .int .i64 0, .int .i64 0, .int .i64 0, .int .u64 0, .int .u64 0, .bool false]), .bool false]) (by simp [results, Try.results9, go_sem, hZ.cell 0 _ rfl, hZ.cell 1 _ rfl, hZ.cell 2 _ rfl, hZ.cell 3 _ rfl, hZ.cell 4 _ rfl, hZ.cell 5 _ rfl, hZ.cell 6 _ rfl, hZ.cell 7 _ rfl, hZ.cell 8 _ rfl, hZ.cell 9 _ rfl, hZ.cell 10 _ rfl, hZ.cell 11 _ rfl, hZ.cell 12 _ rfl]) rfl ⟨rfl, hS.bel⟩

set_option maxHeartbeats 2000000 in
theorem lOf_short (c : Um.Cf) (a : Option Addr) (n cap : Nat) (w : World) (h : c.r = true) (hn : n ≠ c.n) :
    Calls Try.prog 9 #[(.agg #[.int .i64 (c.t), .int .i64 (c.s), .int .i64 (c.k), .int .i64 (c.g), .int .u64 (c.q : Int)]), .slice a n cap] w fun e W' => e = .returned (.tuple #[.pointer none, (.agg #[.int .i64 0, .int .i64 0, .int .i64 0, .int .i64 0, .int .u64 0, .slice none 0 0, .int .i64 0, .int .i64 0, .int .i64 0, .int .i64 0, .int .u64 0, .int .u64 0, .bool false]), .bool false]) ∧ Below w.heap.size w W' := by
  have hR := rRight_any c.t c.s c.k c.g c.q
  rw [show Um.rt c.t c.s c.k c.g c.q = true from h] at hR
  have hL := rLen_any c.t c.s c.k c.g c.q
  rw [Cf_len] at hL
  have hne : ((n : Int) == (c.n : Int)) = false := by simp; omega
  clear h hn
  generalize c.n = m at *
  have hS := St.new w
  go_enter Try.func9, Try.ntmps9
  go_wp2_with (first | (refine wpl_box hS rfl _ _ rfl _ rfl _ (by intro _; simp only [Act.put, List.setIfInBounds_toArray, List.set_cons_zero, List.set_cons_succ]; first | done | exact rfl) ?_; clear hS; intro _ _ hS; dsimp only [blit, List.set, List.cons_append, List.nil_append, Value.cells, List.toList_toArray] at hS) | (refine wpl_alloc hS rfl _ rfl _ (zer_any rfl) _ (by intro _; simp only [Act.put, List.setIfInBounds_toArray, List.set_cons_zero, List.set_cons_succ]; first | done | exact rfl) ?_; clear hS; intro _ _ hS; dsimp only [blit, List.set, List.cons_append, List.nil_append, Value.cells, List.toList_toArray] at hS) | (refine wpl_ld hS rfl _ _ rfl _ _ rfl ?_; (first | refine ⟨0, _, rfl, ?_⟩ | refine ⟨1, _, rfl, ?_⟩ | refine ⟨2, _, rfl, ?_⟩ | refine ⟨3, _, rfl, ?_⟩ | refine ⟨4, _, rfl, ?_⟩ | refine ⟨5, _, rfl, ?_⟩ | refine ⟨6, _, rfl, ?_⟩ | refine ⟨7, _, rfl, ?_⟩ | refine ⟨8, _, rfl, ?_⟩ | refine ⟨9, _, rfl, ?_⟩); first | refine .inl ⟨_, one_any rfl, rfl, _, (by simp only [Act.put, List.setIfInBounds_toArray, List.set_cons_zero, List.set_cons_succ]; first | done | exact rfl), ?_⟩ | refine .inr ⟨_, _, row_any rfl, rfl, (by dsimp only [cutL, List.drop, List.take]; first | done | exact rfl), _, (by simp only [Act.put, List.setIfInBounds_toArray, List.set_cons_zero, List.set_cons_succ]; first | done | exact rfl), ?_⟩) | (refine wpl_st hS rfl _ _ _ rfl rfl _ _ rfl ?_; (first | refine ⟨0, _, rfl, ?_⟩ | refine ⟨1, _, rfl, ?_⟩ | refine ⟨2, _, rfl, ?_⟩ | refine ⟨3, _, rfl, ?_⟩ | refine ⟨4, _, rfl, ?_⟩ | refine ⟨5, _, rfl, ?_⟩ | refine ⟨6, _, rfl, ?_⟩ | refine ⟨7, _, rfl, ?_⟩ | refine ⟨8, _, rfl, ?_⟩ | refine ⟨9, _, rfl, ?_⟩); refine ⟨_, (by first | exact shA rfl | exact shI rfl | exact shB rfl | exact shS rfl | exact shP rfl | exact shF rfl | exact shN rfl), _, siz_any rfl, (by exact rfl), (by exact rfl), (by exact rfl), ?_⟩; clear hS; intro _ hS; dsimp only [blit, List.set, List.cons_append, List.nil_append, Value.cells, List.toList_toArray] at hS))
  refine (hR _).mono ?_
  rintro e w1 ⟨rfl, hb⟩
  replace hS := hS.call hb
  clear hb hR
  go_wp2_with (first | (refine wpl_box hS rfl _ _ rfl _ rfl _ (by intro _; simp only [Act.put, List.setIfInBounds_toArray, List.set_cons_zero, List.set_cons_succ]; first | done | exact rfl) ?_; clear hS; intro _ _ hS; dsimp only [blit, List.set, List.cons_append, List.nil_append, Value.cells, List.toList_toArray] at hS) | (refine wpl_alloc hS rfl _ rfl _ (zer_any rfl) _ (by intro _; simp only [Act.put, List.setIfInBounds_toArray, List.set_cons_zero, List.set_cons_succ]; first | done | exact rfl) ?_; clear hS; intro _ _ hS; dsimp only [blit, List.set, List.cons_append, List.nil_append, Value.cells, List.toList_toArray] at hS) | (refine wpl_ld hS rfl _ _ rfl _ _ rfl ?_; (first | refine ⟨0, _, rfl, ?_⟩ | refine ⟨1, _, rfl, ?_⟩ | refine ⟨2, _, rfl, ?_⟩ | refine ⟨3, _, rfl, ?_⟩ | refine ⟨4, _, rfl, ?_⟩ | refine ⟨5, _, rfl, ?_⟩ | refine ⟨6, _, rfl, ?_⟩ | refine ⟨7, _, rfl, ?_⟩ | refine ⟨8, _, rfl, ?_⟩ | refine ⟨9, _, rfl, ?_⟩); first | refine .inl ⟨_, one_any rfl, rfl, _, (by simp only [Act.put, List.setIfInBounds_toArray, List.set_cons_zero, List.set_cons_succ]; first | done | exact rfl), ?_⟩ | refine .inr ⟨_, _, row_any rfl, rfl, (by dsimp only [cutL, List.drop, List.take]; first | done | exact rfl), _, (by simp only [Act.put, List.setIfInBounds_toArray, List.set_cons_zero, List.set_cons_succ]; first | done | exact rfl), ?_⟩) | (refine wpl_st hS rfl _ _ _ rfl rfl _ _ rfl ?_; (first | refine ⟨0, _, rfl, ?_⟩ | refine ⟨1, _, rfl, ?_⟩ | refine ⟨2, _, rfl, ?_⟩ | refine ⟨3, _, rfl, ?_⟩ | refine ⟨4, _, rfl, ?_⟩ | refine ⟨5, _, rfl, ?_⟩ | refine ⟨6, _, rfl, ?_⟩ | refine ⟨7, _, rfl, ?_⟩ | refine ⟨8, _, rfl, ?_⟩ | refine ⟨9, _, rfl, ?_⟩); refine ⟨_, (by first | exact shA rfl | exact shI rfl | exact shB rfl | exact shS rfl | exact shP rfl | exact shF rfl | exact shN rfl), _, siz_any rfl, (by exact rfl), (by exact rfl), (by exact rfl), ?_⟩; clear hS; intro _ hS; dsimp only [blit, List.set, List.cons_append, List.nil_append, Value.cells, List.toList_toArray] at hS))
  refine (hL _).mono ?_
  rintro e w2 ⟨rfl, hb⟩
  replace hS := hS.call hb
  clear hb hL
  go_wp2_with (first | (refine wpl_box hS rfl _ _ rfl _ rfl _ (by intro _; simp only [Act.put, List.setIfInBounds_toArray, List.set_cons_zero, List.set_cons_succ]; first | done | exact rfl) ?_; clear hS; intro _ _ hS; dsimp only [blit, List.set, List.cons_append, List.nil_append, Value.cells, List.toList_toArray] at hS) | (refine wpl_alloc hS rfl _ rfl _ (zer_any rfl) _ (by intro _; simp only [Act.put, List.setIfInBounds_toArray, List.set_cons_zero, List.set_cons_succ]; first | done | exact rfl) ?_; clear hS; intro _ _ hS; dsimp only [blit, List.set, List.cons_append, List.nil_append, Value.cells, List.toList_toArray] at hS) | (refine wpl_ld hS rfl _ _ rfl _ _ rfl ?_; (first | refine ⟨0, _, rfl, ?_⟩ | refine ⟨1, _, rfl, ?_⟩ | refine ⟨2, _, rfl, ?_⟩ | refine ⟨3, _, rfl, ?_⟩ | refine ⟨4, _, rfl, ?_⟩ | refine ⟨5, _, rfl, ?_⟩ | refine ⟨6, _, rfl, ?_⟩ | refine ⟨7, _, rfl, ?_⟩ | refine ⟨8, _, rfl, ?_⟩ | refine ⟨9, _, rfl, ?_⟩); first | refine .inl ⟨_, one_any rfl, rfl, _, (by simp only [Act.put, List.setIfInBounds_toArray, List.set_cons_zero, List.set_cons_succ]; first | done | exact rfl), ?_⟩ | refine .inr ⟨_, _, row_any rfl, rfl, (by dsimp only [cutL, List.drop, List.take]; first | done | exact rfl), _, (by simp only [Act.put, List.setIfInBounds_toArray, List.set_cons_zero, List.set_cons_succ]; first | done | exact rfl), ?_⟩) | (refine wpl_st hS rfl _ _ _ rfl rfl _ _ rfl ?_; (first | refine ⟨0, _, rfl, ?_⟩ | refine ⟨1, _, rfl, ?_⟩ | refine ⟨2, _, rfl, ?_⟩ | refine ⟨3, _, rfl, ?_⟩ | refine ⟨4, _, rfl, ?_⟩ | refine ⟨5, _, rfl, ?_⟩ | refine ⟨6, _, rfl, ?_⟩ | refine ⟨7, _, rfl, ?_⟩ | refine ⟨8, _, rfl, ?_⟩ | refine ⟨9, _, rfl, ?_⟩); refine ⟨_, (by first | exact shA rfl | exact shI rfl | exact shB rfl | exact shS rfl | exact shP rfl | exact shF rfl | exact shN rfl), _, siz_any rfl, (by exact rfl), (by exact rfl), (by exact rfl), ?_⟩; clear hS; intro _ hS; dsimp only [blit, List.set, List.cons_append, List.nil_append, Value.cells, List.toList_toArray] at hS))
  have hZ := hS.get 1 rfl
  refine bodyPost_ret (v := .tuple #[.pointer none, (.agg #[.int .i64 0, .int .i64 0, .int .i64 0, .int .i64 0, .int .u64 0, .slice none 0 0, .int .i64 0, .int .i64 0, .int .i64 0, .int .i64 0, .int .u64 0, .int .u64 0, .bool false]), .bool false]) (by simp [results, Try.results9, go_sem, hZ.cell 0 _ rfl, hZ.cell 1 _ rfl, hZ.cell 2 _ rfl, hZ.cell 3 _ rfl, hZ.cell 4 _ rfl, hZ.cell 5 _ rfl, hZ.cell 6 _ rfl, hZ.cell 7 _ rfl, hZ.cell 8 _ rfl, hZ.cell 9 _ rfl, hZ.cell 10 _ rfl, hZ.cell 11 _ rfl, hZ.cell 12 _ rfl]) rfl ⟨rfl, hS.bel⟩

end Go.Proofs.Ytcpmclidndmgeaa

/-
  A copy of words, made by appending them to an empty slice: as a step of a walk over blocks.
-/
namespace Go.Proofs.Ytcpmclidndmgeaa
set_option maxRecDepth 100000
open Go.RowKit Go.Sort

theorem blk_of_own {W : World} {base n : Nat} {e : TypeId} {g cap : Nat} {ws : Nat → Nat} (h : W.ownsRow base e 1 (.slice (some ⟨g, 0, none⟩) n cap) n (rowW ws n)) : BlkAt W g (rowW ws n) := by
  rcases h.2 with ⟨h, _⟩ | ⟨g', cap', cur, hv, _, hg, _, _, hsz, hcur⟩
  · cases h
  · simp only [Value.slice.injEq, Option.some.injEq, Addr.mk.injEq] at hv
    obtain ⟨⟨rfl, _, _⟩, _, rfl⟩ := hv
    have hb := blkAt_new hg
    refine ⟨hb.lt, fun j v hj => hb.cell j v ?_, hb.fz⟩
    rw [← hcur] at hj
    exact (List.getElem?_take_of_lt (by have := (List.getElem?_eq_some_iff.1 hj).1; simp at this; omega)).symm.trans hj

theorem St.skip {w0 w : World} {l : List (Nat × List Value)} (h : St w0 w l) (o : Obj) : St w0 (w.alloc o) l := h.call ((Below.refl _ _).alloc (Nat.le_refl _) o)

end Go.Proofs.Ytcpmclidndmgeaa

/-
  The walk of the document's own memory of words: its words lie in a block of their own.
-/
namespace Go.Proofs.Ytcpmclidndmgeaa
set_option maxRecDepth 100000
open Go.RowKit Go.Sort

theorem own_cap {W : World} {base n : Nat} {e : TypeId} {g cap : Nat} {xs : List Value} (h : W.ownsRow base e 1 (.slice (some ⟨g, 0, none⟩) n cap) n xs) : n ≤ cap ∧ cap ≤ maxLen := by
  rcases h.2 with ⟨h, _⟩ | ⟨g', cap', cur, hv, _, _, h1, h2, _, _⟩
  · cases h
  · simp only [Value.slice.injEq, Option.some.injEq, Addr.mk.injEq] at hv
    obtain ⟨_, _, rfl⟩ := hv
    exact ⟨h1, h2⟩

set_option maxHeartbeats 1000000 in
theorem rOf_own (c : Um.Cf) (v : Value) (ws : Nat → Nat) (w : World) (h : c.r = true) (hv : IsWords w v c.n ws) :
    Calls Try.prog 38 #[(.agg #[.int .i64 (c.t), .int .i64 (c.s), .int .i64 (c.k), .int .i64 (c.g), .int .u64 (c.q : Int)]), v] w fun e W' => ∃ v', e = .returned (.agg #[.int .i64 (c.t), .int .i64 (c.s), .int .i64 (c.k), .int .i64 (c.g), .int .u64 (c.q : Int), v', .int .i64 0, .int .i64 0, .int .i64 0, .int .i64 0, .int .u64 0, .int .u64 0, .bool false]) ∧ (∃ g cap, v' = .slice (some ⟨g, 0, none⟩) c.n cap ∧ w.heap.size ≤ g ∧ c.n ≤ cap ∧ cap ≤ maxLen ∧ BlkAt W' g (rowW ws c.n)) ∧ Below w.heap.size w W' := by
  obtain ⟨i0, hi, hz0, hz1, hz2⟩ := info_parts infoU
  have hp := Um.Cf.n_pos h
  have hn := c.n_le
  clear h
  rcases hv with ⟨_, _, _, h0⟩ | ⟨b, off, cap, rfl, h0, h1, h2, h3, h4⟩
  · omega
  have HR : Hid (∀ (W : World), Below w.heap.size w W → ∀ j u, (rowW ws c.n)[j]? = some u → W.cell? ((⟨b, off, none⟩ : Addr).add j) = some u) := by
    intro W hB j u hu
    have hj : j < c.n := by have := (List.getElem?_eq_some_iff.1 hu).1; rwa [rowW_len] at this
    rw [rowW_get ws c.n j hj] at hu
    rw [← hu, Addr.add_lit, hB.cell (p := ⟨b, off + j, none⟩) h3]
    exact (h4 j hj).1
  clear h4
  go_enter Try.func38, Try.ntmps38
  go_wp2_with fail
  generalize hW : (w.alloc (.cells #[.int .i64 c.t, .int .i64 c.s, .int .i64 c.k, .int .i64 c.g, .int .u64 c.q] 24)).alloc (.cells #[.int .i64 0, .int .i64 0, .int .i64 0, .int .i64 0, .int .u64 0, .slice none 0 0, .int .i64 0, .int .i64 0, .int .i64 0, .int .i64 0, .int .u64 0, .int .u64 0, .bool false] 35) = W
  obtain ⟨K, Z, hB⟩ : CfAt W w.heap.size c ∧ BlkAt W (w.heap.size + 1) [.int .i64 0, .int .i64 0, .int .i64 0, .int .i64 0, .int .u64 0, .slice none 0 0, .int .i64 0, .int .i64 0, .int .i64 0, .int .i64 0, .int .u64 0, .int .u64 0, .bool false] ∧ Below w.heap.size w W := by
    subst hW
    obtain ⟨_, h2⟩ := alloc2_at w (.cells #[.int .i64 c.t, .int .i64 c.s, .int .i64 c.k, .int .i64 c.g, .int .u64 c.q] 24) (.cells #[.int .i64 0, .int .i64 0, .int .i64 0, .int .i64 0, .int .u64 0, .slice none 0 0, .int .i64 0, .int .i64 0, .int .i64 0, .int .i64 0, .int .u64 0, .int .u64 0, .bool false] 35)
    exact ⟨(cfAt_alloc w c 24).below ((Below.refl _ _).alloc (Nat.le_refl _) _), blkAt_new h2, ((Below.refl _ _).alloc (Nat.le_refl _) _).alloc (by simp) _⟩
  clear hW
  obtain ⟨hk, a0, a1, a2, a3, a4⟩ := id K
  have hR1 : w.heap.size ≤ w.heap.size + 1 := by omega
  generalize w.heap.size + 1 = R at *
  go_region_law (refine step_append_grows rfl (.tmp 6) (.tmp 7) 25 rfl 22 i0 (.int .u64 0) 1 8 Try.underlying25 hi hz0 hz1 hz2 rfl (by decide) (some ⟨_, 0, none⟩) 0 0 [] (by simp [Act.eval]; rfl) (fun e => by cases e) rfl (fun _ _ j u e => by cases e) ⟨b, off, none⟩ c.n cap (rowW ws c.n) (by simp [Act.eval]) (by rw [rowW_len, Nat.mul_one]) ((unhide HR) _ ((hB.drew).alloc (Nat.le_of_lt hk) _)) rowW_mem (by omega) (by unfold maxLen; omega) (by omega) ?_; intro v' w' hown hgrow; obtain ⟨g, cap2, rfl, hg1, hg2⟩ := hown.form (by omega); have hb' : Below W.heap.size W w' := below_undrew (((Below.refl _ _).alloc (Nat.le_refl _) _).grown hgrow (by simp) (fun k e => by cases e)); obtain ⟨_, b0, b1, b2, b3, b4⟩ := K.below hb'; have Z2 := Z.below hb'; have z0 := Z2.cell 0 _ rfl; have y0 := Z2.fz 0; have z1 := Z2.cell 1 _ rfl; have y1 := Z2.fz 1; have z2 := Z2.cell 2 _ rfl; have y2 := Z2.fz 2; have z3 := Z2.cell 3 _ rfl; have y3 := Z2.fz 3; have z4 := Z2.cell 4 _ rfl; have y4 := Z2.fz 4; have z5 := Z2.cell 5 _ rfl; have y5 := Z2.fz 5; have z6 := Z2.cell 6 _ rfl; have y6 := Z2.fz 6; have z7 := Z2.cell 7 _ rfl; have y7 := Z2.fz 7; have z8 := Z2.cell 8 _ rfl; have y8 := Z2.fz 8; have z9 := Z2.cell 9 _ rfl; have y9 := Z2.fz 9; have z10 := Z2.cell 10 _ rfl; have y10 := Z2.fz 10; have z11 := Z2.cell 11 _ rfl; have y11 := Z2.fz 11; have z12 := Z2.cell 12 _ rfl; have y12 := Z2.fz 12)
  all_goals
    have hZ := (((((((((((((Z2.put 0 (.int .i64 c.t)).put 1 (.int .i64 c.s)).put 2 (.int .i64 c.k)).put 3 (.int .i64 c.g)).put 4 (.int .u64 c.q)).put 5 (.slice (some ⟨g, 0, none⟩) c.n cap2)).put 6 (.int .i64 0)).put 7 (.int .i64 0)).put 8 (.int .i64 0)).put 9 (.int .i64 0)).put 10 (.int .u64 0)).put 11 (.int .u64 0)).put 12 (.bool false))
    have hO := ((((((((((((((Off.refl R R w').set (p := ⟨R, 0, none⟩) (.inl rfl) (.int .i64 c.t)).set (p := ⟨R, 1, none⟩) (.inl rfl) (.int .i64 c.s)).set (p := ⟨R, 2, none⟩) (.inl rfl) (.int .i64 c.k)).set (p := ⟨R, 3, none⟩) (.inl rfl) (.int .i64 c.g)).set (p := ⟨R, 4, none⟩) (.inl rfl) (.int .u64 c.q)).set (p := ⟨R, 5, none⟩) (.inl rfl) (.slice (some ⟨g, 0, none⟩) c.n cap2)).set (p := ⟨R, 6, none⟩) (.inl rfl) (.int .i64 0)).set (p := ⟨R, 7, none⟩) (.inl rfl) (.int .i64 0)).set (p := ⟨R, 8, none⟩) (.inl rfl) (.int .i64 0)).set (p := ⟨R, 9, none⟩) (.inl rfl) (.int .i64 0)).set (p := ⟨R, 10, none⟩) (.inl rfl) (.int .u64 0)).set (p := ⟨R, 11, none⟩) (.inl rfl) (.int .u64 0)).set (p := ⟨R, 12, none⟩) (.inl rfl) (.bool false))
    have hg1' : W.heap.size ≤ g := by simp at hg1; omega
    have hB2 := hB.trans (hb'.mono (Nat.le_of_lt hk))
    have hWo : BlkAt w' g (rowW ws c.n) := blk_of_own (by simpa using hown)
    have hcp := own_cap (by simpa using hown)
    have HZ := hide hZ
    have HO := hide hO
    have HW := hide hWo
    have hRW := Z.lt
    have hgl : g < w'.heap.size := hg2
    have hsz := hb'.size
    clear hZ hO hWo z0 y0 z1 y1 z2 y2 z3 y3 z4 y4 z5 y5 z6 y6 z7 y7 z8 y8 z9 y9 z10 y10 z11 y11 z12 y12 a0 a1 a2 a3 a4 b0 b1 b2 b3 b4 Z Z2 K hown hgrow
    go_wp2
    have hZ := unhide HZ
    have hO := unhide HO
    simp only [List.set] at hZ
    generalize World.setCell _ _ _ = Wf at hZ hO ⊢
    refine bodyPost_ret (v := (.agg #[.int .i64 (c.t), .int .i64 (c.s), .int .i64 (c.k), .int .i64 (c.g), .int .u64 (c.q : Int), .slice (some ⟨g, 0, none⟩) c.n cap2, .int .i64 0, .int .i64 0, .int .i64 0, .int .i64 0, .int .u64 0, .int .u64 0, .bool false])) (by simp [results, Try.results38, go_sem, hZ.cell 0 _ rfl, hZ.cell 1 _ rfl, hZ.cell 2 _ rfl, hZ.cell 3 _ rfl, hZ.cell 4 _ rfl, hZ.cell 5 _ rfl, hZ.cell 6 _ rfl, hZ.cell 7 _ rfl, hZ.cell 8 _ rfl, hZ.cell 9 _ rfl, hZ.cell 10 _ rfl, hZ.cell 11 _ rfl, hZ.cell 12 _ rfl]) rfl ⟨_, rfl, ⟨g, _, rfl, by omega, hcp.1, hcp.2, ?_⟩, ?_⟩
    · exact (unhide HW).off hO (by omega) (by omega)
    · exact hB2.trans (hO.below hB2.size (by omega) (by omega))

end Go.Proofs.Ytcpmclidndmgeaa

/-
  The walk of layer 6's pair of memories, of one row of words: the document's words lie in a block of their own.
-/
namespace Go.Proofs.Ytcpmclidndmgeaa
set_option maxRecDepth 100000
open Go.RowKit Go.Sort

set_option maxHeartbeats 2000000 in
theorem lOf_own (c : Um.Cf) (v : Value) (ws : Nat → Nat) (w : World) (h : c.r = true) (hv : IsWords w v c.n ws) :
    Calls Try.prog 9 #[(.agg #[.int .i64 (c.t), .int .i64 (c.s), .int .i64 (c.k), .int .i64 (c.g), .int .u64 (c.q : Int)]), v] w fun e W' => ∃ B C g cap, e = .returned (.tuple #[.pointer (some ⟨B, 0, none⟩), (.agg #[.int .i64 (c.t), .int .i64 (c.s), .int .i64 (c.k), .int .i64 (c.g), .int .u64 (c.q : Int), .slice (some ⟨g, 0, none⟩) c.n cap, .int .i64 0, .int .i64 0, .int .i64 0, .int .i64 0, .int .u64 0, .int .u64 0, .bool false]), .bool true]) ∧
      w.heap.size ≤ B ∧ w.heap.size ≤ C ∧ B < g ∧ C < g ∧ MemAt W' B C c ⟨ws, 0, Um.noT⟩ ∧ c.n ≤ cap ∧ cap ≤ maxLen ∧ BlkAt W' g (rowW ws c.n) ∧ Below w.heap.size w W' := by
  have hR := rRight_any c.t c.s c.k c.g c.q
  rw [show Um.rt c.t c.s c.k c.g c.q = true from h] at hR
  have hL := rLen_any c.t c.s c.k c.g c.q
  rw [Cf_len] at hL
  have hO := fun w hv => sOf_right c v ws w h hv
  have hD := fun w hv => rOf_own c v ws w h hv
  have HV := hide hv
  have HR := hide h
  have HO := hide hO
  have HD := hide hD
  have HW := hide (words_word hv)
  obtain ⟨a, cap, rfl⟩ := words_len hv
  clear h hv hO hD
  have hS := St.new w
  go_enter Try.func9, Try.ntmps9
  go_wp2_with (first | (refine wpl_box hS rfl _ _ rfl _ rfl _ (by intro _; simp only [Act.put, List.setIfInBounds_toArray, List.set_cons_zero, List.set_cons_succ]; first | done | exact rfl) ?_; clear hS; intro _ _ hS; dsimp only [blit, List.set, List.cons_append, List.nil_append, Value.cells, List.toList_toArray] at hS) | (refine wpl_alloc hS rfl _ rfl _ (zer_any rfl) _ (by intro _; simp only [Act.put, List.setIfInBounds_toArray, List.set_cons_zero, List.set_cons_succ]; first | done | exact rfl) ?_; clear hS; intro _ _ hS; dsimp only [blit, List.set, List.cons_append, List.nil_append, Value.cells, List.toList_toArray] at hS) | (refine wpl_ld hS rfl _ _ rfl _ _ rfl ?_; (first | refine ⟨0, _, rfl, ?_⟩ | refine ⟨1, _, rfl, ?_⟩ | refine ⟨2, _, rfl, ?_⟩ | refine ⟨3, _, rfl, ?_⟩ | refine ⟨4, _, rfl, ?_⟩ | refine ⟨5, _, rfl, ?_⟩ | refine ⟨6, _, rfl, ?_⟩ | refine ⟨7, _, rfl, ?_⟩ | refine ⟨8, _, rfl, ?_⟩ | refine ⟨9, _, rfl, ?_⟩); first | refine .inl ⟨_, one_any rfl, rfl, _, (by simp only [Act.put, List.setIfInBounds_toArray, List.set_cons_zero, List.set_cons_succ]; first | done | exact rfl), ?_⟩ | refine .inr ⟨_, _, row_any rfl, rfl, (by dsimp only [cutL, List.drop, List.take]; first | done | exact rfl), _, (by simp only [Act.put, List.setIfInBounds_toArray, List.set_cons_zero, List.set_cons_succ]; first | done | exact rfl), ?_⟩) | (refine wpl_st hS rfl _ _ _ rfl rfl _ _ rfl ?_; (first | refine ⟨0, _, rfl, ?_⟩ | refine ⟨1, _, rfl, ?_⟩ | refine ⟨2, _, rfl, ?_⟩ | refine ⟨3, _, rfl, ?_⟩ | refine ⟨4, _, rfl, ?_⟩ | refine ⟨5, _, rfl, ?_⟩ | refine ⟨6, _, rfl, ?_⟩ | refine ⟨7, _, rfl, ?_⟩ | refine ⟨8, _, rfl, ?_⟩ | refine ⟨9, _, rfl, ?_⟩); refine ⟨_, (by first | exact shA rfl | exact shI rfl | exact shB rfl | exact shS rfl | exact shP rfl | exact shF rfl | exact shN rfl), _, siz_any rfl, (by exact rfl), (by exact rfl), (by exact rfl), ?_⟩; clear hS; intro _ hS; dsimp only [blit, List.set, List.cons_append, List.nil_append, Value.cells, List.toList_toArray] at hS))
  refine (hR _).mono ?_
  rintro e w1 ⟨rfl, hb⟩
  replace hS := hS.call hb
  clear hb hR
  go_wp2_with (first | (refine wpl_box hS rfl _ _ rfl _ rfl _ (by intro _; simp only [Act.put, List.setIfInBounds_toArray, List.set_cons_zero, List.set_cons_succ]; first | done | exact rfl) ?_; clear hS; intro _ _ hS; dsimp only [blit, List.set, List.cons_append, List.nil_append, Value.cells, List.toList_toArray] at hS) | (refine wpl_alloc hS rfl _ rfl _ (zer_any rfl) _ (by intro _; simp only [Act.put, List.setIfInBounds_toArray, List.set_cons_zero, List.set_cons_succ]; first | done | exact rfl) ?_; clear hS; intro _ _ hS; dsimp only [blit, List.set, List.cons_append, List.nil_append, Value.cells, List.toList_toArray] at hS) | (refine wpl_ld hS rfl _ _ rfl _ _ rfl ?_; (first | refine ⟨0, _, rfl, ?_⟩ | refine ⟨1, _, rfl, ?_⟩ | refine ⟨2, _, rfl, ?_⟩ | refine ⟨3, _, rfl, ?_⟩ | refine ⟨4, _, rfl, ?_⟩ | refine ⟨5, _, rfl, ?_⟩ | refine ⟨6, _, rfl, ?_⟩ | refine ⟨7, _, rfl, ?_⟩ | refine ⟨8, _, rfl, ?_⟩ | refine ⟨9, _, rfl, ?_⟩); first | refine .inl ⟨_, one_any rfl, rfl, _, (by simp only [Act.put, List.setIfInBounds_toArray, List.set_cons_zero, List.set_cons_succ]; first | done | exact rfl), ?_⟩ | refine .inr ⟨_, _, row_any rfl, rfl, (by dsimp only [cutL, List.drop, List.take]; first | done | exact rfl), _, (by simp only [Act.put, List.setIfInBounds_toArray, List.set_cons_zero, List.set_cons_succ]; first | done | exact rfl), ?_⟩) | (refine wpl_st hS rfl _ _ _ rfl rfl _ _ rfl ?_; (first | refine ⟨0, _, rfl, ?_⟩ | refine ⟨1, _, rfl, ?_⟩ | refine ⟨2, _, rfl, ?_⟩ | refine ⟨3, _, rfl, ?_⟩ | refine ⟨4, _, rfl, ?_⟩ | refine ⟨5, _, rfl, ?_⟩ | refine ⟨6, _, rfl, ?_⟩ | refine ⟨7, _, rfl, ?_⟩ | refine ⟨8, _, rfl, ?_⟩ | refine ⟨9, _, rfl, ?_⟩); refine ⟨_, (by first | exact shA rfl | exact shI rfl | exact shB rfl | exact shS rfl | exact shP rfl | exact shF rfl | exact shN rfl), _, siz_any rfl, (by exact rfl), (by exact rfl), (by exact rfl), ?_⟩; clear hS; intro _ hS; dsimp only [blit, List.set, List.cons_append, List.nil_append, Value.cells, List.toList_toArray] at hS))
  refine (hL _).mono ?_
  rintro e w2 ⟨rfl, hb⟩
  replace hS := hS.call hb
  clear hb hL
  go_wp2_with (first | (refine wpl_box hS rfl _ _ rfl _ rfl _ (by intro _; simp only [Act.put, List.setIfInBounds_toArray, List.set_cons_zero, List.set_cons_succ]; first | done | exact rfl) ?_; clear hS; intro _ _ hS; dsimp only [blit, List.set, List.cons_append, List.nil_append, Value.cells, List.toList_toArray] at hS) | (refine wpl_alloc hS rfl _ rfl _ (zer_any rfl) _ (by intro _; simp only [Act.put, List.setIfInBounds_toArray, List.set_cons_zero, List.set_cons_succ]; first | done | exact rfl) ?_; clear hS; intro _ _ hS; dsimp only [blit, List.set, List.cons_append, List.nil_append, Value.cells, List.toList_toArray] at hS) | (refine wpl_ld hS rfl _ _ rfl _ _ rfl ?_; (first | refine ⟨0, _, rfl, ?_⟩ | refine ⟨1, _, rfl, ?_⟩ | refine ⟨2, _, rfl, ?_⟩ | refine ⟨3, _, rfl, ?_⟩ | refine ⟨4, _, rfl, ?_⟩ | refine ⟨5, _, rfl, ?_⟩ | refine ⟨6, _, rfl, ?_⟩ | refine ⟨7, _, rfl, ?_⟩ | refine ⟨8, _, rfl, ?_⟩ | refine ⟨9, _, rfl, ?_⟩); first | refine .inl ⟨_, one_any rfl, rfl, _, (by simp only [Act.put, List.setIfInBounds_toArray, List.set_cons_zero, List.set_cons_succ]; first | done | exact rfl), ?_⟩ | refine .inr ⟨_, _, row_any rfl, rfl, (by dsimp only [cutL, List.drop, List.take]; first | done | exact rfl), _, (by simp only [Act.put, List.setIfInBounds_toArray, List.set_cons_zero, List.set_cons_succ]; first | done | exact rfl), ?_⟩) | (refine wpl_st hS rfl _ _ _ rfl rfl _ _ rfl ?_; (first | refine ⟨0, _, rfl, ?_⟩ | refine ⟨1, _, rfl, ?_⟩ | refine ⟨2, _, rfl, ?_⟩ | refine ⟨3, _, rfl, ?_⟩ | refine ⟨4, _, rfl, ?_⟩ | refine ⟨5, _, rfl, ?_⟩ | refine ⟨6, _, rfl, ?_⟩ | refine ⟨7, _, rfl, ?_⟩ | refine ⟨8, _, rfl, ?_⟩ | refine ⟨9, _, rfl, ?_⟩); refine ⟨_, (by first | exact shA rfl | exact shI rfl | exact shB rfl | exact shS rfl | exact shP rfl | exact shF rfl | exact shN rfl), _, siz_any rfl, (by exact rfl), (by exact rfl), (by exact rfl), ?_⟩; clear hS; intro _ hS; dsimp only [blit, List.set, List.cons_append, List.nil_append, Value.cells, List.toList_toArray] at hS))
  refine ((unhide HO) _ (((unhide HV).low.below hS.bel).is hS.bel.size)).mono ?_
  rintro e w3 ⟨B, C, rfl, hl1, hl2, hM, hb⟩
  have hz1 := Nat.le_trans hS.bel.size hl1
  have hz2 := Nat.le_trans hS.bel.size hl2
  have hne := hM.ne
  have hlb := hM.hB
  have hlc := hM.hC
  replace hS := hS.addMem hb hM hl1 hl2
  dsimp only [List.cons_append, List.nil_append] at hS
  clear hb hM hl1 hl2 HO
  go_wp2_with (first | (refine wpl_box hS rfl _ _ rfl _ rfl _ (by intro _; simp only [Act.put, List.setIfInBounds_toArray, List.set_cons_zero, List.set_cons_succ]; first | done | exact rfl) ?_; clear hS; intro _ _ hS; dsimp only [blit, List.set, List.cons_append, List.nil_append, Value.cells, List.toList_toArray] at hS) | (refine wpl_alloc hS rfl _ rfl _ (zer_any rfl) _ (by intro _; simp only [Act.put, List.setIfInBounds_toArray, List.set_cons_zero, List.set_cons_succ]; first | done | exact rfl) ?_; clear hS; intro _ _ hS; dsimp only [blit, List.set, List.cons_append, List.nil_append, Value.cells, List.toList_toArray] at hS) | (refine wpl_ld hS rfl _ _ rfl _ _ rfl ?_; (first | refine ⟨0, _, rfl, ?_⟩ | refine ⟨1, _, rfl, ?_⟩ | refine ⟨2, _, rfl, ?_⟩ | refine ⟨3, _, rfl, ?_⟩ | refine ⟨4, _, rfl, ?_⟩ | refine ⟨5, _, rfl, ?_⟩ | refine ⟨6, _, rfl, ?_⟩ | refine ⟨7, _, rfl, ?_⟩ | refine ⟨8, _, rfl, ?_⟩ | refine ⟨9, _, rfl, ?_⟩); first | refine .inl ⟨_, one_any rfl, rfl, _, (by simp only [Act.put, List.setIfInBounds_toArray, List.set_cons_zero, List.set_cons_succ]; first | done | exact rfl), ?_⟩ | refine .inr ⟨_, _, row_any rfl, rfl, (by dsimp only [cutL, List.drop, List.take]; first | done | exact rfl), _, (by simp only [Act.put, List.setIfInBounds_toArray, List.set_cons_zero, List.set_cons_succ]; first | done | exact rfl), ?_⟩) | (refine wpl_stO hS rfl _ _ _ rfl rfl _ _ rfl ?_; (first | refine ⟨0, _, rfl, ?_⟩ | refine ⟨1, _, rfl, ?_⟩ | refine ⟨2, _, rfl, ?_⟩ | refine ⟨3, _, rfl, ?_⟩ | refine ⟨4, _, rfl, ?_⟩ | refine ⟨5, _, rfl, ?_⟩ | refine ⟨6, _, rfl, ?_⟩ | refine ⟨7, _, rfl, ?_⟩ | refine ⟨8, _, rfl, ?_⟩ | refine ⟨9, _, rfl, ?_⟩); refine ⟨_, (by first | exact shA rfl | exact shI rfl | exact shB rfl | exact shS rfl | exact shP rfl | exact shF rfl | exact shN rfl), _, siz_any rfl, (by exact rfl), (by exact rfl), (by exact rfl), ?_⟩; clear hS; intro _ hS hO; dsimp only [blit, List.set, List.cons_append, List.nil_append, Value.cells, List.toList_toArray] at hS))
  refine ((unhide HD) _ (((unhide HV).low.below hS.bel).is hS.bel.size)).mono ?_
  rintro e w4 ⟨v', rfl, ⟨g, cap', rfl, hg, hc1, hc2, hI⟩, hb⟩
  have hlR := (hS.get 1 rfl).lt
  replace hS := hS.call hb
  clear hb
  have HI := hide hI
  clear hI HD
  go_wp2_with (first | (refine wpl_box hS rfl _ _ rfl _ rfl _ (by intro _; simp only [Act.put, List.setIfInBounds_toArray, List.set_cons_zero, List.set_cons_succ]; first | done | exact rfl) ?_; clear hS; intro _ _ hS; dsimp only [blit, List.set, List.cons_append, List.nil_append, Value.cells, List.toList_toArray] at hS) | (refine wpl_alloc hS rfl _ rfl _ (zer_any rfl) _ (by intro _; simp only [Act.put, List.setIfInBounds_toArray, List.set_cons_zero, List.set_cons_succ]; first | done | exact rfl) ?_; clear hS; intro _ _ hS; dsimp only [blit, List.set, List.cons_append, List.nil_append, Value.cells, List.toList_toArray] at hS) | (refine wpl_ld hS rfl _ _ rfl _ _ rfl ?_; (first | refine ⟨0, _, rfl, ?_⟩ | refine ⟨1, _, rfl, ?_⟩ | refine ⟨2, _, rfl, ?_⟩ | refine ⟨3, _, rfl, ?_⟩ | refine ⟨4, _, rfl, ?_⟩ | refine ⟨5, _, rfl, ?_⟩ | refine ⟨6, _, rfl, ?_⟩ | refine ⟨7, _, rfl, ?_⟩ | refine ⟨8, _, rfl, ?_⟩ | refine ⟨9, _, rfl, ?_⟩); first | refine .inl ⟨_, one_any rfl, rfl, _, (by simp only [Act.put, List.setIfInBounds_toArray, List.set_cons_zero, List.set_cons_succ]; first | done | exact rfl), ?_⟩ | refine .inr ⟨_, _, row_any rfl, rfl, (by dsimp only [cutL, List.drop, List.take]; first | done | exact rfl), _, (by simp only [Act.put, List.setIfInBounds_toArray, List.set_cons_zero, List.set_cons_succ]; first | done | exact rfl), ?_⟩) | (refine wpl_stO hS rfl _ _ _ rfl rfl _ _ rfl ?_; (first | refine ⟨0, _, rfl, ?_⟩ | refine ⟨1, _, rfl, ?_⟩ | refine ⟨2, _, rfl, ?_⟩ | refine ⟨3, _, rfl, ?_⟩ | refine ⟨4, _, rfl, ?_⟩ | refine ⟨5, _, rfl, ?_⟩ | refine ⟨6, _, rfl, ?_⟩ | refine ⟨7, _, rfl, ?_⟩ | refine ⟨8, _, rfl, ?_⟩ | refine ⟨9, _, rfl, ?_⟩); refine ⟨_, (by first | exact shA rfl | exact shI rfl | exact shB rfl | exact shS rfl | exact shP rfl | exact shF rfl | exact shN rfl), _, siz_any rfl, (by exact rfl), (by exact rfl), (by exact rfl), ?_⟩; clear hS; intro _ hS hO; dsimp only [blit, List.set, List.cons_append, List.nil_append, Value.cells, List.toList_toArray] at hS))
  have hZ := hS.get 1 rfl
  have hgl := (unhide HI).lt
  refine bodyPost_ret (v := .tuple #[.pointer (some ⟨B, 0, none⟩), (.agg #[.int .i64 (c.t), .int .i64 (c.s), .int .i64 (c.k), .int .i64 (c.g), .int .u64 (c.q : Int), .slice (some ⟨g, 0, none⟩) c.n cap', .int .i64 0, .int .i64 0, .int .i64 0, .int .i64 0, .int .u64 0, .int .u64 0, .bool false]), .bool true]) (by simp [results, Try.results9, go_sem, hZ.cell 0 _ rfl, hZ.cell 1 _ rfl, hZ.cell 2 _ rfl, hZ.cell 3 _ rfl, hZ.cell 4 _ rfl, hZ.cell 5 _ rfl, hZ.cell 6 _ rfl, hZ.cell 7 _ rfl, hZ.cell 8 _ rfl, hZ.cell 9 _ rfl, hZ.cell 10 _ rfl, hZ.cell 11 _ rfl, hZ.cell 12 _ rfl]) rfl
    ⟨B, C, g, cap', rfl, hz1, hz2, by omega, by omega, memAt_of (hS.get 2 rfl) (hS.get 3 rfl) hne (unhide HR) (unhide HW), hc1, hc2, (unhide HI).off hO (by omega) (by omega), hS.bel⟩

end Go.Proofs.Ytcpmclidndmgeaa

/-
  Layer 6's contracts over blocks of two lists: the program's accesses, the document's, are they alike, a new pair.
-/
namespace Go.Proofs.Ytcpmclidndmgeaa
set_option maxRecDepth 100000
open Go.RowKit Go.Sort

/-- the words of one memory -/
def WordsOk (c : Um.Cf) (m : Um.Mm) : Prop := ∀ q, q < c.n → Um.Word (m.ws q)

/-- an elder block, or a new one -/
def Fr (w : World) (g g' : Nat) : Prop := g' = g ∨ w.heap.size ≤ g'

theorem Fr.refl (w : World) (g : Nat) : Fr w g g := .inl rfl

theorem Fr.trans {w u : World} {g g1 g2 : Nat} (h : Fr w g g1) (k : Fr u g1 g2) (hs : w.heap.size ≤ u.heap.size) : Fr w g g2 := by
  rcases k with rfl | k
  · exact h
  · exact .inr (Nat.le_trans hs k)

section
variable {bs : List Nat} {w0 w : World} {l e : List (Nat × List Value)} {B C g cg : Nat} {c : Um.Cf} {m : Um.Mm}

theorem Sx.mem (hS : Sx bs w0 w l e) (i j : Nat) (hi : l[i]? = some (B, memL c C m)) (hj : l[j]? = some (C, rowW m.ws c.n)) (hij : i ≠ j) (hr : c.r = true) (hw : WordsOk c m) : MemAt w B C c m :=
  memAt_of (hS.get i hi) (hS.get j hj) (hS.ne i j hi hj hij) hr hw

theorem Sx.memd {w' : World} {M : Um.Mm} (hS : Sx bs w0 w l e) (i j : Nat) (hi : l[i]? = some (B, memL c C m)) (hj : l[j]? = some (C, rowW m.ws c.n)) (hM : MemAt w' B C c M) (hO : Off B C w w') : Sx bs w0 w' (putL l [(i, B, memL c C M), (j, C, rowW M.ws c.n)]) e := by
  refine hS.sets _ (fun u hu => ?_) (Turn.of_off hO) (fun u hu => ?_)
  · rcases (by simpa using hu : u = (i, B, memL c C M) ∨ u = (j, C, rowW M.ws c.n)) with rfl | rfl
    · exact ⟨_, hi⟩
    · exact ⟨_, hj⟩
  · rcases (by simpa using hu : u = (i, B, memL c C M) ∨ u = (j, C, rowW M.ws c.n)) with rfl | rfl
    · exact hM.blkB
    · exact hM.blkC

theorem Sx.words (hS : Sx bs w0 w l e) (k : Nat) (hk : e[k]? = some (g, rowW m.ws c.n)) (hr : c.r = true) (hw : WordsOk c m) (h1 : c.n ≤ cg) (h2 : cg ≤ maxLen) : IsWords w (.slice (some ⟨g, 0, none⟩) c.n cg) c.n m.ws :=
  .inr ⟨g, 0, cg, rfl, by have := Um.Cf.n_pos hr; omega, h1, h2, (hS.getE k hk).lt, fun q hq => ⟨by rw [Nat.zero_add]; exact (hS.getE k hk).cell q _ (rowW_get _ c.n q hq), hw q hq⟩⟩

theorem mLoad_x (hS : Sx bs w0 w l e) (i j : Nat) (hi : l[i]? = some (B, memL c C m)) (hj : l[j]? = some (C, rowW m.ws c.n)) (hij : i ≠ j) (hr : c.r = true) (hw : WordsOk c m) (a b : Int) (hb0 : -9223372036854775808 ≤ b) (hb1 : b ≤ 9223372036854775807) (M : Um.Mm) (hM : M = Um.mtouch c m 1 a b 0 0) :
    Calls Try.prog 33 #[.pointer (some ⟨B, 0, none⟩), (.agg #[.int .i64 a, .int .i64 b])] w fun r w' => r = .returned (.int .u64 (M.l.old : Nat)) ∧ WordsOk c M ∧ Sx bs w0 w' (putL l [(i, B, memL c C M), (j, C, rowW M.ws c.n)]) e := by
  refine (mLoad_any (hS.mem i j hi hj hij hr hw) a b hb0 hb1 M hM).mono ?_
  rintro r w' ⟨rfl, h1, h2⟩
  exact ⟨rfl, h1.wd, hS.memd i j hi hj h1 h2⟩

theorem mStore_x (hS : Sx bs w0 w l e) (i j : Nat) (hi : l[i]? = some (B, memL c C m)) (hj : l[j]? = some (C, rowW m.ws c.n)) (hij : i ≠ j) (hr : c.r = true) (hw : WordsOk c m) (a b : Int) (x : Nat) (hx : Um.Word x) (hb0 : -9223372036854775808 ≤ b) (hb1 : b ≤ 9223372036854775807) (M : Um.Mm) (hM : M = Um.mtouch c m 2 a b 0 x) :
    Calls Try.prog 32 #[.pointer (some ⟨B, 0, none⟩), (.agg #[.int .i64 a, .int .i64 b]), .int .u64 (x : Nat)] w fun r w' => r = .returned (.tuple #[]) ∧ WordsOk c M ∧ Sx bs w0 w' (putL l [(i, B, memL c C M), (j, C, rowW M.ws c.n)]) e := by
  refine (mStore_any (hS.mem i j hi hj hij hr hw) a b x hx hb0 hb1 M hM).mono ?_
  rintro r w' ⟨rfl, h1, h2⟩
  exact ⟨rfl, h1.wd, hS.memd i j hi hj h1 h2⟩

theorem mSwap_x (hS : Sx bs w0 w l e) (i j : Nat) (hi : l[i]? = some (B, memL c C m)) (hj : l[j]? = some (C, rowW m.ws c.n)) (hij : i ≠ j) (hr : c.r = true) (hw : WordsOk c m) (a b : Int) (o x : Nat) (hx : Um.Word x) (hb0 : -9223372036854775808 ≤ b) (hb1 : b ≤ 9223372036854775807) (M : Um.Mm) (hM : M = Um.mtouch c m 3 a b o x) :
    Calls Try.prog 91 #[.pointer (some ⟨B, 0, none⟩), (.agg #[.int .i64 a, .int .i64 b]), .int .u64 (o : Nat), .int .u64 (x : Nat)] w fun r w' => r = .returned (.bool M.l.done) ∧ WordsOk c M ∧ Sx bs w0 w' (putL l [(i, B, memL c C M), (j, C, rowW M.ws c.n)]) e := by
  refine (mSwap_any (hS.mem i j hi hj hij hr hw) a b o x hx hb0 hb1 M hM).mono ?_
  rintro r w' ⟨rfl, h1, h2⟩
  exact ⟨rfl, h1.wd, hS.memd i j hi hj h1 h2⟩

theorem lOf_x (hS : Sx bs w0 w l e) (c : Um.Cf) (v : Value) (ws : Nat → Nat) (hr : c.r = true) (hv : IsWords w v c.n ws) :
    Calls Try.prog 9 #[(.agg #[.int .i64 (c.t), .int .i64 (c.s), .int .i64 (c.k), .int .i64 (c.g), .int .u64 (c.q : Int)]), v] w fun r w' => ∃ B C g cg, r = .returned (.tuple #[.pointer (some ⟨B, 0, none⟩), (.agg #[.int .i64 (c.t), .int .i64 (c.s), .int .i64 (c.k), .int .i64 (c.g), .int .u64 (c.q : Int), .slice (some ⟨g, 0, none⟩) c.n cg, .int .i64 0, .int .i64 0, .int .i64 0, .int .i64 0, .int .u64 0, .int .u64 0, .bool false]), .bool true]) ∧
      c.n ≤ cg ∧ cg ≤ maxLen ∧ WordsOk c ⟨ws, 0, Um.noT⟩ ∧ Sx bs w0 w' (l ++ [(B, memL c C ⟨ws, 0, Um.noT⟩), (C, rowW ws c.n)]) (e ++ [(g, rowW ws c.n)]) := by
  refine (lOf_own c v ws w hr hv).mono ?_
  rintro r w' ⟨B, C, g, cg, rfl, h1, h2, h3, h4, hM, h5, h6, hG, hb⟩
  refine ⟨B, C, g, cg, rfl, h5, h6, hM.wd, Sx.shelve ?_⟩
  rw [List.append_assoc]
  refine hS.adds hb _ (fun p hp => ?_) (fun p hp => ?_) ?_
  · rcases (by simpa using hp : p = (B, memL c C ⟨ws, 0, Um.noT⟩) ∨ p = (C, rowW ws c.n) ∨ p = (g, rowW ws c.n)) with rfl | rfl | rfl
    · exact hM.blkB
    · exact hM.blkC
    · exact hG
  · rcases (by simpa using hp : p = (B, memL c C ⟨ws, 0, Um.noT⟩) ∨ p = (C, rowW ws c.n) ∨ p = (g, rowW ws c.n)) with rfl | rfl | rfl
    · exact h1
    · exact h2
    · show w.heap.size ≤ g
      omega
  · have := hM.ne
    simp only [List.cons_append, List.nil_append, List.pairwise_cons, List.mem_cons, List.not_mem_nil, or_false, List.Pairwise.nil, and_true]
    refine ⟨?_, ?_, ?_⟩
    · rintro p (rfl | rfl)
      · exact this
      · show B ≠ g
        omega
    · rintro p rfl
      show C ≠ g
      omega
    · simp

end

end Go.Proofs.Ytcpmclidndmgeaa

/-
  A new memory, how many accesses there were, and its words: over blocks of two lists.
-/
namespace Go.Proofs.Ytcpmclidndmgeaa
set_option maxRecDepth 100000
open Go.RowKit Go.Sort

theorem set_same {α : Type} {l : List α} {k : Nat} {x : α} (h : l[k]? = some x) : l.set k x = l := by
  obtain ⟨h1, h2⟩ := List.getElem?_eq_some_iff.1 h
  subst h2
  exact List.set_getElem_self h1

section
variable {bs : List Nat} {w0 w : World} {l e : List (Nat × List Value)} {B C P : Nat} {c : Um.Cf} {m : Um.Mm}

theorem new_x (hS : Sx bs w0 w l e) (c : Um.Cf) (hr : c.r = true) : Calls Try.prog 30 #[(.agg #[.int .i64 (c.t), .int .i64 (c.s), .int .i64 (c.k), .int .i64 (c.g), .int .u64 (c.q : Int)])] w fun r w' => ∃ B C, r = .returned (.tuple #[.pointer (some ⟨B, 0, none⟩), .int .i64 0]) ∧ WordsOk c ⟨fun _ => 0, 0, Um.noT⟩ ∧ Sx bs w0 w' (l ++ [(B, memL c C ⟨fun _ => 0, 0, Um.noT⟩), (C, rowW (fun _ => 0) c.n)]) e := by
  refine (sNew_right c w hr).mono ?_
  rintro r w' ⟨B, C, rfl, h1, h2, hM, hb⟩
  refine ⟨B, C, rfl, hM.wd, hS.adds hb _ (fun p hp => ?_) (fun p hp => ?_) ?_⟩
  · rcases (by simpa using hp : p = (B, memL c C ⟨fun _ => 0, 0, Um.noT⟩) ∨ p = (C, rowW (fun _ => 0) c.n)) with rfl | rfl
    · exact hM.blkB
    · exact hM.blkC
  · rcases (by simpa using hp : p = (B, memL c C ⟨fun _ => 0, 0, Um.noT⟩) ∨ p = (C, rowW (fun _ => 0) c.n)) with rfl | rfl
    · exact h1
    · exact h2
  · simpa using hM.ne

end

theorem cells_x {bs : List Nat} {w0 w : World} {l e : List (Nat × List Value)} {B C : Nat} {c : Um.Cf} {m : Um.Mm} (hS : Sx bs w0 w l e) (i j : Nat) (hi : l[i]? = some (B, memL c C m)) (hj : l[j]? = some (C, rowW m.ws c.n)) (hij : i ≠ j) (hr : c.r = true) (hw : WordsOk c m) :
    Calls Try.prog 27 #[.pointer (some ⟨B, 0, none⟩)] w fun r w' => ∃ X, r = .returned (.slice (some ⟨X, 0, none⟩) c.n c.n) ∧ Sx bs w0 w' (l ++ [(X, rowW m.ws c.n)]) e := by
  refine (mCells_any (hS.mem i j hi hj hij hr hw)).mono ?_
  rintro r w' ⟨rfl, hg, hb⟩
  have := hS.add hb (blkAt_new hg) (Nat.le_refl _)
  rw [List.toList_toArray] at this
  exact ⟨_, rfl, this⟩

end Go.Proofs.Ytcpmclidndmgeaa

/-
  Blocks: what layers 8 and on ask for beside BlkX: loads from blocks that are only read, four blocks handed in, a new block beside turned ones; fields of structs; words of layer 1; a memory's world.
-/
namespace Go.Proofs.Ytcpmclidndmgeaa
set_option maxRecDepth 100000
open Go.RowKit Go.Sort

section
variable {P : Program} {ops : Array Oper} {rest : List Oper} {op : Oper} {a : Act} {bs : List Nat} {w w0 : World} {Q : Exit → Act → World → Prop} {l e : List (Nat × List Value)}

/-- a load from a block that is only read -/
theorem wpx_load1e (hS : Sx bs w0 w l e) (k : Nat) (hw : Region.wanted op (yielded ops a.tmps) = true) (ty : TypeId) (x : Operand) (ho : op.op = .load ty x) (b o : Nat) (hx : a.eval x = .pointer (some ⟨b, o, none⟩)) (cs : List Value) (hk : e[k]? = some (b, cs)) (hr : One P ty) (v : Value) (hv : cs[o]? = some v)
    (a' : Act) (ha : a.put op.dst v = a') (h : wpList P ops Q rest a' w) : wpList P ops Q (op :: rest) a w := by
  refine BigFrame.wpList_want hw fun K hK => ?_
  obtain ⟨d, hu, hd⟩ := hr
  subst ha
  have e : (execOp a.eval op).run P w = .ok (.value v) w := by
    unfold execOp
    rw [ho]
    simp [hx, run_load1_st (P := P) (hS.getE k hk) o ty v hv d hu hd]
  unfold Oper.wp
  rw [e]
  exact hK _ _ h

end

theorem Sx.read1 {w : World} {g : Nat} {cs : List Value} (hB : BlkAt w g cs) : Sx [] w w [] [(g, cs)] :=
  Sx.read w [(g, cs)] (fun p hp => by
    obtain rfl : p = _ := by simpa using hp
    exact hB)

section
variable {bs : List Nat} {w0 w w' : World} {l e : List (Nat × List Value)} {b1 b2 b3 b4 : Nat} {c1 c2 c3 c4 d1 d2 d3 d4 : List Value}

end

section
variable {bs : List Nat} {w0 w : World} {l e : List (Nat × List Value)} {B C : Nat} {c : Um.Cf} {m : Um.Mm}

end

theorem rState_b (x : Nat) (w : World) (hx : Um.Word x) : Calls Try.prog 23 #[.int .u64 (x : Nat)] w fun r w' => r = .returned (.int .i64 (Um.stN x : Int)) ∧ Below w.heap.size w w' :=
  (rState_x (Sx.new w) x hx).mono fun _ _ ⟨h1, h2⟩ => ⟨h1, h2.bel⟩

end Go.Proofs.Ytcpmclidndmgeaa

/-
  Plain arithmetic of layer 8: conflicts that are laid meanwhile. No Go in sight.
-/
namespace Um
set_option maxRecDepth 100000

theorem put_ws (c : Cf) (m : Mm) (a b : Int) (v i : Nat) : (mtouch c m 2 a b 0 v).ws i = if (i : Int) = c.cl a b then v else m.ws i := by
  unfold mtouch
  split
  · rename_i h
    show putW m.ws (c.cl a b).toNat (trn 2 0 v (m.ws (c.cl a b).toNat)) i = _
    by_cases e : i = (c.cl a b).toNat
    · subst e
      rw [putW_same, if_pos (by omega)]
      rfl
    · rw [putW_other e, if_neg (by omega)]
  · rename_i h
    rw [if_neg (by omega)]
    rfl

theorem with_bits (x : Nat) (a b : Int) (j : Nat) (hj : 24 ≤ j) : (withN x a b).testBit j = x.testBit j := by
  unfold withN
  split
  · rename_i h
    have := bitAt_lt h
    rw [testBit_setN, if_neg (by omega)]
  · rfl

theorem st_with (x : Nat) (a b : Int) : stN (withN x a b) = stN x := by
  apply Nat.eq_of_testBit_eq
  intro j
  unfold stN
  rw [testBit_part, testBit_part, with_bits _ _ _ _ (by omega)]

theorem with_ok (x : Nat) {a b : Int} (ho : okS a b = true) : withN x a b = setN x (bitAt a b) true := by
  unfold withN
  exact if_pos ho

theorem com_with (x : Nat) (a b : Int) : comN (withN x a b) = withN (comN x) a b := by
  unfold comN
  rw [with_bits x a b 26 (by decide)]
  cases ho : okS a b with
  | false => rw [with_bad x a b ho, with_bad _ a b ho]
  | true =>
    have hlt := bitAt_lt ho
    rw [with_ok _ ho, with_ok _ ho]
    generalize x.testBit 26 = q
    generalize bitAt a b = k at *
    apply Nat.eq_of_testBit_eq
    intro j
    rw [move_bits (by decide), testBit_setN, testBit_setN, move_bits (by decide)]
    by_cases h : k = j
    · subst h
      rw [if_pos rfl, if_pos rfl, if_neg (show ¬ k = 26 by omega), if_neg (show ¬ (27 ≤ k ∧ k < 30) by omega)]
    · rw [if_neg h, if_neg h]

/-- a help, while conflicts are laid to its transaction; W: what its status will be -/
structure Sid (c : Cf) (x W : Nat) (m : Mm) (nx s : Nat) : Prop where
  le : nx ≤ 4
  low : nx ≤ 2 → stN (m.ws (iS c x).toNat) = 3 ∧ comN (m.ws (iS c x).toNat) = W
  high : 3 ≤ nx → m.ws (iS c x).toNat = W
  n0 : nx = 0 → m.ws (iN c x).toNat = 0
  n1 : 1 ≤ nx → m.ws (iN c x).toNat = seqN x

theorem Sid.ws {c : Cf} {x W : Nat} {m m' : Mm} {nx s : Nat} (h : Sid c x W m nx s) (e : m'.ws = m.ws) : Sid c x W m' nx s :=
  ⟨h.le, fun q => by rw [e]; exact h.low q, fun q => by rw [e]; exact h.high q, fun q => by rw [e]; exact h.n0 q, fun q => by rw [e]; exact h.n1 q⟩

theorem Sid.lay {c : Cf} {x W : Nat} {m : Mm} {nx s : Nat} (hi : 0 < iS c x ∧ iN c x = iS c x + 2) {sl : Int} (hpen : penN x = sl) (h : Sid c x W m nx s) (a b : Int) (S : Nat) (hS : S = m.ws (iS c x).toNat) (m' : Mm) (hm : m' = mtouch c m 2 4 sl 0 (withN S a b)) : Sid c x (withN W a b) m' nx s := by
  have e1 : m'.ws (iS c x).toNat = withN S a b := by
    rw [hm, put_ws, if_pos]
    show _ = c.cl 4 sl
    rw [← hpen]
    show _ = iS c x
    omega
  have e2 : m'.ws (iN c x).toNat = m.ws (iN c x).toNat := by
    rw [hm, put_ws, if_neg]
    show ¬ _ = c.cl 4 sl
    rw [← hpen]
    show ¬ _ = iS c x
    omega
  refine ⟨h.le, fun q => ?_, fun q => ?_, fun q => ?_, fun q => ?_⟩
  · rw [e1, st_with, com_with, hS, (h.low q).2]
    exact ⟨(h.low q).1, rfl⟩
  · rw [e1, hS, h.high q]
  · rw [e2]; exact h.n0 q
  · rw [e2]; exact h.n1 q

end Um

/-
  Plain arithmetic of layer 9: alone. No Go in sight.
-/
namespace Um
set_option maxRecDepth 100000

theorem sl_cells {c : Cf} (hr : c.r = true) {f : Int} (h0 : 0 ≤ f) (h1 : f < c.s) : 0 < c.cl 4 f ∧ c.cl 5 f = c.cl 4 f + 1 ∧ c.cl 6 f = c.cl 4 f + 2 := by
  have hb := c.rb hr
  unfold Cf.cl cellN
  rw [hr]
  simp [h0, h1]
  omega

/-- the lowest slot that is free -/
structure Got (c : Cf) (ws : Nat → Nat) (f : Int) : Prop where
  lo : 0 ≤ f
  hi : f < c.s
  fr : frN c (ws (c.cl 4 f).toNat) = true
  least : ∀ i : Int, 0 ≤ i → i < f → frN c (ws (c.cl 4 i).toNat) = false

/-- no slot is free -/
def Full (c : Cf) (ws : Nat → Nat) : Prop := ∀ i : Int, 0 ≤ i → i < c.s → frN c (ws (c.cl 4 i).toNat) = false

/-- the words when a slot was taken -/
def ws1 (c : Cf) (ws : Nat → Nat) (f : Int) (i : Nat) : Nat := if (i : Int) = c.cl 4 f then moveN (ws i) 1 false else ws i

/-- and behind a help -/
def ws2 (c : Cf) (ws : Nat → Nat) (f : Int) (i : Nat) : Nat := hgN c (ws 0) (ws1 c ws f) i

/-- and at the end -/
def ws3 (c : Cf) (ws : Nat → Nat) (f : Int) (i : Nat) : Nat := if (i : Int) = c.cl 4 f then moveN (ws i) 2 false else if (i : Int) = c.cl 5 f then seqN (ws 0) else ws2 c ws f i

structure Al (c : Cf) (ws : Nat → Nat) (o : Os) : Prop where
  nx : o.nx ≤ 6
  lo : o.nx = 0 → 0 ≤ o.sl ∧ o.sl < c.s ∧ (∀ i, o.m.ws i = ws i) ∧ ∀ i : Int, 0 ≤ i → i < o.sl → frN c (ws (c.cl 4 i).toNat) = false
  tk : 1 ≤ o.nx → o.nx ≤ 5 → Got c ws o.sl ∧ o.s = ws (c.cl 4 o.sl).toNat
  t1 : o.nx = 1 → ∀ i, o.m.ws i = ws i
  t2 : o.nx = 2 → (∀ i, o.m.ws i = ws1 c ws o.sl i) ∨ (0 ≤ penN (ws 0) ∧ ∀ i, o.m.ws i = ws2 c ws o.sl i)
  t3 : o.nx = 3 → o.w = ws 0 ∧ 0 ≤ penN (ws 0) ∧ Mix c (ws 0) (ws1 c ws o.sl) o.m.ws ∧ Knows c (ws 0) (ws1 c ws o.sl) o.m.ws ⟨o.m, o.hn, o.hs⟩ ∧ o.hn ≠ 4
  t4 : o.nx = 4 → (∀ i, o.m.ws i = ws2 c ws o.sl i) ∧ o.q = seqN (ws 0)
  t5 : o.nx = 5 → (∀ i, o.m.ws i = if (i : Int) = c.cl 5 o.sl then seqN (ws 0) else ws2 c ws o.sl i) ∧ o.q = seqN (ws 0)
  t6 : o.nx = 6 → (Full c ws ∧ (∀ i, o.m.ws i = ws i) ∧ o.te = 6 ∧ o.th = 0 ∧ o.tn = 0) ∨ ∃ f, Got c ws f ∧ (∀ i, o.m.ws i = ws3 c ws f i) ∧ o.te = 0 ∧ o.th = mkN f ((gnN (ws (c.cl 4 f).toNat) : Nat) : Int) ∧ o.tn = seqN (ws 0)

end Um

/-
  Plain arithmetic of layer 9: two at once, over a new world. No Go in sight.
-/
namespace Um
set_option maxRecDepth 100000

/-- a slot is one's: it was taken by it -/
def Owns (o : Os) (i : Int) : Prop := 2 ≤ o.nx ∧ (o.nx = 6 → o.te = 0) ∧ o.sl = i

structure Side9 (c : Cf) (m : Mm) (a b : Os) : Prop where
  nx : a.nx ≤ 6
  n3 : a.nx ≠ 3
  lo : 0 ≤ a.sl
  lt : a.nx ≤ 5 → a.sl < c.s
  s : 1 ≤ a.nx → a.nx ≤ 5 → a.s = 0
  pass : ∀ i : Int, 0 ≤ i → i < a.sl → Owns b i
  mine : Owns a a.sl → stN (m.ws (c.cl 4 a.sl).toNat) ≠ 0 ∧ a.sl < c.s
  end6 : a.nx = 6 → (a.te = 0 ∧ a.th = mkN a.sl 0) ∨ (a.te = 6 ∧ a.sl = c.s)

structure Duo9 (c : Cf) (m : Mm) (a b : Os) : Prop where
  tal : m.ws 0 = 0
  A : Side9 c m a b
  B : Side9 c m b a
  apart : ∀ i, Owns a i → ¬ Owns b i
  all : ∀ i : Int, 0 ≤ i → i < c.s → m.ws (c.cl 4 i).toNat = 0 ∨ Owns a i ∨ Owns b i

theorem Duo9.swap {c : Cf} {m : Mm} {a b : Os} (h : Duo9 c m a b) : Duo9 c m b a :=
  ⟨h.tal, h.B, h.A, fun i q r => h.apart i r q, fun i i0 i1 => (h.all i i0 i1).imp id Or.symm⟩

end Um

/-
  Plain arithmetic of layer 9: two at once, to their end; commits that are counted meanwhile. No Go in sight.
-/
namespace Um
set_option maxRecDepth 100000

/-- one, while commits are counted: from so many on, up to now -/
structure Seen (c : Cf) (m : Mm) (o : Os) (sq now : Nat) : Prop where
  nx : o.nx ≤ 6
  n3 : o.nx ≠ 3
  sl : o.sl = 0
  tal : m.ws 0 = 16 * now
  le : sq ≤ now
  fr : o.nx ≤ 1 → m.ws (c.cl 4 0).toNat = 0
  s : o.nx = 1 → o.s = 0
  q : 4 ≤ o.nx → sq ≤ o.q ∧ o.q ≤ now
  sn : 5 ≤ o.nx → m.ws (c.cl 5 0).toNat = o.q
  t6 : o.nx = 6 → o.te = 0 ∧ o.tn = o.q

end Um

/-
  Plain arithmetic of layer 9: begun again and again; generations that are too great. No Go in sight.
-/
namespace Um
set_option maxRecDepth 100000

/-- so many slots have been got, of a world in which nothing is pending -/
structure Fu (c : Cf) (ws : Nat → Nat) (i : Int) : Prop where
  tal : ws 0 = 0
  low : ∀ j : Int, 0 ≤ j → j < i → stN (ws (c.cl 4 j).toNat) ≠ 0
  high : ∀ j : Int, i ≤ j → j < c.s → ws (c.cl 4 j).toNat = 0

end Um

/-
  Plain arithmetic of layer 9: the lowest slot that is free, looked for from above; what alone leaves. No Go in sight.
-/
namespace Um
set_option maxRecDepth 100000

/-- what was found from slot k on -/
structure Lo9 (c : Cf) (ws : Nat → Nat) (k f : Int) : Prop where
  none : f < 0 → f = -1 ∧ ∀ i : Int, k ≤ i → i < c.s → frN c (ws (c.cl 4 i).toNat) = false
  one : 0 ≤ f → k ≤ f ∧ f < c.s ∧ frN c (ws (c.cl 4 f).toNat) = true ∧ ∀ i : Int, k ≤ i → i < f → frN c (ws (c.cl 4 i).toNat) = false

theorem Lo9.no {c : Cf} {ws : Nat → Nat} {k f : Int} (h : Lo9 c ws (k + 1) f) (hf : frN c (ws (c.cl 4 k).toNat) = false) : Lo9 c ws k f := by
  refine ⟨fun q => ⟨(h.none q).1, fun i i0 i1 => ?_⟩, fun q => ?_⟩
  · by_cases e : i = k
    · rw [e]; exact hf
    · exact (h.none q).2 i (by omega) i1
  · obtain ⟨a, b, d, e⟩ := h.one q
    refine ⟨by omega, b, d, fun i i0 i1 => ?_⟩
    by_cases e2 : i = k
    · rw [e2]; exact hf
    · exact e i (by omega) i1

/-- a beginning over another memory -/
def setM (m : Mm) (o : Os) : Os := ⟨m, o.sl, o.nx, o.s, o.q, o.w, o.hn, o.hs, o.te, o.th, o.tn⟩

/-- right over whatever words -/
def OkW (c : Cf) (o : Os) : Prop := ∀ m : Mm, (∀ i, i < c.n → Word (m.ws i)) → Ook c (setM m o)

theorem Ook.okw {c : Cf} {o : Os} (h : Ook c o) : OkW c o := fun _ hm => ⟨hm, h.s, h.q, h.w, h.hs, h.hn, h.nx, h.sl0, h.sl1, h.th, h.tn, h.sl⟩

theorem Duo9.at {c : Cf} {m : Mm} {a b : Os} (h : Duo9 c m a b) (m' : Mm) : Duo9 c m (setM m' a) b :=
  ⟨h.tal, ⟨h.A.nx, h.A.n3, h.A.lo, h.A.lt, h.A.s, h.A.pass, h.A.mine, h.A.end6⟩, ⟨h.B.nx, h.B.n3, h.B.lo, h.B.lt, h.B.s, h.B.pass, h.B.mine, h.B.end6⟩, h.apart, h.all⟩

theorem Seen.at {c : Cf} {m : Mm} {o : Os} {sq now : Nat} (h : Seen c m o sq now) (m' : Mm) : Seen c m (setM m' o) sq now :=
  ⟨h.nx, h.n3, h.sl, h.tal, h.le, h.fr, h.s, h.q, h.sn, h.t6⟩

end Um

/-
  Plain arithmetic of layer 10: a call that enters, one that leaves. No Go in sight.
-/
namespace Um
set_option maxRecDepth 100000

/-- a status, busy -/
def bzN (s : Nat) : Nat := setN s 26 true

/-- an entering over a memory: is its next step a swap, what it looked at, what it laid, its error, has it ended -/
structure Es where
  m : Mm
  tk : Bool
  s : Nat
  w : Nat
  e : Int
  en : Bool

/-- words -/
structure Eok (c : Cf) (o : Es) : Prop where
  wd : ∀ i, i < c.n → Word (o.m.ws i)
  s : Word o.s
  w : Word o.w
  en : o.en = true → o.tk = false

/-- a leaving over a memory: has it looked, at what, is it done -/
structure Ls where
  m : Mm
  lk : Bool
  s : Nat
  dn : Bool

def lnew (m : Mm) : Ls := ⟨m, false, 0, false⟩

structure Lok (c : Cf) (o : Ls) : Prop where
  wd : ∀ i, i < c.n → Word (o.m.ws i)
  s : Word o.s

theorem lnew_ok {c : Cf} {m : Mm} (h : ∀ i, i < c.n → Word (m.ws i)) : Lok c (lnew m) := ⟨h, zero_word⟩

end Um

/-
  Plain arithmetic of layer 10: two that enter at once; conflicts that are laid meanwhile. No Go in sight.
-/
namespace Um
set_option maxRecDepth 100000

/-- another memory -/
def setE (m : Mm) (o : Es) : Es := ⟨m, o.tk, o.s, o.w, o.e, o.en⟩
def setLs (m : Mm) (o : Ls) : Ls := ⟨m, o.lk, o.s, o.dn⟩

def EokW (c : Cf) (o : Es) : Prop := ∀ m : Mm, (∀ i, i < c.n → Word (m.ws i)) → Eok c (setE m o)
def LokW (c : Cf) (o : Ls) : Prop := ∀ m : Mm, (∀ i, i < c.n → Word (m.ws i)) → Lok c (setLs m o)

theorem Eok.okw {c : Cf} {o : Es} (h : Eok c o) : EokW c o := fun _ hm => ⟨hm, h.s, h.w, h.en⟩
theorem Lok.okw {c : Cf} {o : Ls} (h : Lok c o) : LokW c o := fun _ hm => ⟨hm, h.s⟩

/-- an active status, and it busy -/
def actW : Nat := 268435456
def busW : Nat := bzN actW

def won (a : Es) : Prop := a.en = true ∧ a.e = 0

structure Side10 (W : Nat) (a : Es) : Prop where
  fin : a.en = true → (a.e = 0 ∨ a.e = 3) ∧ W = busW
  tk : a.tk = true → a.s = actW ∧ a.en = false ∧ a.e = 0

structure Duo10 (W : Nat) (a b : Es) : Prop where
  wd : W = actW ∨ W = busW
  A : Side10 W a
  B : Side10 W b
  one : W = busW → (won a ∧ ¬ won b) ∨ (won b ∧ ¬ won a)

theorem Duo10.swap {W : Nat} {a b : Es} (h : Duo10 W a b) : Duo10 W b a := ⟨h.wd, h.B, h.A, fun q => (h.one q).symm⟩

theorem Duo10.at {W : Nat} {a b : Es} (h : Duo10 W a b) (m : Mm) : Duo10 W (setE m a) b := ⟨h.wd, ⟨h.A.fin, h.A.tk⟩, ⟨h.B.fin, h.B.tk⟩, h.one⟩

/-! ## sides -/

theorem move_with (x : Nat) (a b : Int) {st : Nat} (hs : st < 8) (bz : Bool) : moveN (withN x a b) st bz = withN (moveN x st bz) a b := by
  cases ho : okS a b with
  | false => rw [with_bad x a b ho, with_bad _ a b ho]
  | true =>
    have hlt := bitAt_lt ho
    rw [with_ok _ ho, with_ok _ ho]
    generalize bitAt a b = k at *
    apply Nat.eq_of_testBit_eq
    intro j
    rw [move_bits hs, testBit_setN, testBit_setN, move_bits hs]
    by_cases h : k = j
    · subst h
      rw [if_pos rfl, if_pos rfl, if_neg (show ¬ k = 26 by omega), if_neg (show ¬ (27 ≤ k ∧ k < 30) by omega)]
    · rw [if_neg h, if_neg h]

theorem gn_with (x : Nat) (a b : Int) : gnN (withN x a b) = gnN x := by
  apply Nat.eq_of_testBit_eq
  intro j
  unfold gnN
  rw [testBit_part, testBit_part, with_bits _ _ _ _ (by omega)]

/-- one that enters, and then leaves for the state 5, while conflicts are laid; V: what its status will be -/
structure Sid10 (W V : Nat) (e : Es) (l : Ls) : Prop where
  v : stN V = 5 ∧ V.testBit 26 = false ∧ gnN V = 0
  a : e.en = false → W = moveN V 2 false ∧ l.dn = false ∧ l.lk = false
  tk : e.tk = true → e.en = false
  b : e.en = true → l.dn = false → W = moveN V 2 true
  d : l.dn = true → W = V

theorem Sid10.lay {W V : Nat} {e : Es} {l : Ls} (h : Sid10 W V e l) (x y : Int) : Sid10 (withN W x y) (withN V x y) e l := by
  obtain ⟨v1, v2, v3⟩ := h.v
  refine ⟨⟨by rw [st_with]; exact v1, by rw [with_bits _ _ _ _ (by decide)]; exact v2, by rw [gn_with]; exact v3⟩, fun q => ⟨?_, (h.a q).2⟩, h.tk, fun q r => ?_, fun q => by rw [h.d q]⟩
  · rw [(h.a q).1, move_with _ _ _ (by decide)]
  · rw [h.b q r, move_with _ _ _ (by decide)]

theorem Sid10.at {W V : Nat} {e : Es} {l : Ls} (h : Sid10 W V e l) (m m' : Mm) : Sid10 W V (setE m e) (setLs m' l) := ⟨h.v, h.a, h.tk, h.b, h.d⟩

end Um

/-
  Plain arithmetic of layer 10: one that enters, and leaves, comes to its end; what any ticket is told. No Go in sight.
-/
namespace Um
set_option maxRecDepth 100000

def muL (c : Cf) (sl : Int) (l : Ls) : Nat :=
  if l.dn = true then 0 else if l.lk = true then (if l.m.ws (c.cl 4 sl).toNat = l.s then 1 else 3) else 2

theorem muL_le (c : Cf) (sl : Int) (l : Ls) : muL c sl l ≤ 3 := by
  unfold muL
  (repeat' split) <;> omega

end Um

/-
  Plain arithmetic of layer 11: a conflict that is laid, one's own end. No Go in sight.
-/
namespace Um
set_option maxRecDepth 100000

/-- a join over a memory: its next step (0 look, 1 number, 2 lay), what it looked at, what it came to (0: it goes on) -/
structure Js where
  m : Mm
  nx : Nat
  s : Nat
  r : Nat

/-- judged -/
def jjd (sd b : Int) (M : Mm) (nx s : Nat) : Js :=
  if hasN s sd b = true then ⟨M, nx, s, 2⟩ else if stN s ≠ 2 ∧ anyN s (1 - sd) = true then ⟨M, nx, s, 3⟩ else ⟨M, 2, s, 0⟩

def jstep (c : Cf) (sl sd b : Int) (sn : Nat) (o : Js) : Js :=
  if o.r ≠ 0 then o
  else if o.nx = 0 then
    (if stN (mtouch c o.m 1 4 sl 0 0).l.old = 4 then ⟨mtouch c o.m 1 4 sl 0 0, 1, (mtouch c o.m 1 4 sl 0 0).l.old, 0⟩
      else if stN (mtouch c o.m 1 4 sl 0 0).l.old = 2 ∨ stN (mtouch c o.m 1 4 sl 0 0).l.old = 3 then jjd sd b (mtouch c o.m 1 4 sl 0 0) 0 (mtouch c o.m 1 4 sl 0 0).l.old
      else ⟨mtouch c o.m 1 4 sl 0 0, 0, (mtouch c o.m 1 4 sl 0 0).l.old, 1⟩)
  else if o.nx = 1 then
    (if past (mtouch c o.m 1 6 sl 0 0).l.old sn = true then ⟨mtouch c o.m 1 6 sl 0 0, 1, o.s, 1⟩ else jjd sd b (mtouch c o.m 1 6 sl 0 0) 1 o.s)
  else ⟨mtouch c o.m 3 4 sl o.s (withN o.s sd b), 0, o.s, if (mtouch c o.m 3 4 sl o.s (withN o.s sd b)).l.done then 2 else 0⟩

def jit (c : Cf) (sl sd b : Int) (sn : Nat) (o : Js) : Nat → Js
  | 0 => o
  | k + 1 => jstep c sl sd b sn (jit c sl sd b sn o k)

def jnew (m : Mm) : Js := ⟨m, 0, 0, 0⟩

structure Jok (c : Cf) (o : Js) : Prop where
  wd : ∀ i, i < c.n → Word (o.m.ws i)
  s : Word o.s
  nx : o.nx ≤ 2
  r : o.r ≤ 3

theorem jnew_ok {c : Cf} {m : Mm} (h : ∀ i, i < c.n → Word (m.ws i)) : Jok c (jnew m) := ⟨h, zero_word, (show 0 ≤ 2 by decide), (show 0 ≤ 3 by decide)⟩

theorem jjd_ok {c : Cf} {sd b : Int} {M : Mm} {nx s : Nat} (hM : ∀ i, i < c.n → Word (M.ws i)) (hs : Word s) (hn : nx ≤ 2) : Jok c (jjd sd b M nx s) := by
  unfold jjd
  split
  · exact ⟨hM, hs, hn, (show 2 ≤ 3 by decide)⟩
  split
  · exact ⟨hM, hs, hn, (show 3 ≤ 3 by decide)⟩
  · exact ⟨hM, hs, (show 2 ≤ 2 by decide), (show 0 ≤ 3 by decide)⟩

theorem jstep_ok {c : Cf} {sl sd b : Int} {sn : Nat} {o : Js} (h : Jok c o) : Jok c (jstep c sl sd b sn o) := by
  have hld : ∀ a, (∀ i, i < c.n → Word ((mtouch c o.m 1 a sl 0 0).ws i)) := fun a => word_touch h.wd zero_word
  have hlo : ∀ a, Word (mtouch c o.m 1 a sl 0 0).l.old := fun a => old_word h.wd
  unfold jstep
  split
  · exact h
  split
  · split
    · exact ⟨hld 4, hlo 4, (show 1 ≤ 2 by decide), (show 0 ≤ 3 by decide)⟩
    split
    · exact jjd_ok (hld 4) (hlo 4) (by decide)
    · exact ⟨hld 4, hlo 4, (show 0 ≤ 2 by decide), (show 1 ≤ 3 by decide)⟩
  split
  · split
    · exact ⟨hld 6, h.s, (show 1 ≤ 2 by decide), (show 1 ≤ 3 by decide)⟩
    · exact jjd_ok (hld 6) h.s (by decide)
  · refine ⟨word_touch h.wd (with_word h.s _ _), h.s, (show 0 ≤ 2 by decide), ?_⟩
    show (if _ then 2 else 0) ≤ 3
    split <;> decide

theorem jit_ok {c : Cf} {sl sd b : Int} {sn : Nat} {o : Js} (h : Jok c o) (k : Nat) : Jok c (jit c sl sd b sn o k) := by
  induction k with
  | zero => exact h
  | succ k ih => exact jstep_ok ih

theorem jstep_end {c : Cf} {sl sd b : Int} {sn : Nat} {o : Js} (h : o.r ≠ 0) : jstep c sl sd b sn o = o := by
  unfold jstep
  rw [if_pos h]

theorem jit_end {c : Cf} {sl sd b : Int} {sn : Nat} {o : Js} {q : Nat} (h : (jit c sl sd b sn o q).r ≠ 0) {k : Nat} (hk : q ≤ k) : jit c sl sd b sn o k = jit c sl sd b sn o q := by
  obtain ⟨d, rfl⟩ : ∃ d, k = q + d := ⟨k - q, by omega⟩
  clear hk
  induction d with
  | zero => rfl
  | succ d ih =>
    show jstep c sl sd b sn (jit c sl sd b sn o (q + d)) = _
    rw [ih]
    exact jstep_end h

/-- one's own end, over a memory: has it looked, at what, is it done -/
def wstep (c : Cf) (sl sd b : Int) (o : Ls) : Ls :=
  if o.dn = true then o
  else if o.lk = false then ⟨mtouch c o.m 1 4 sl 0 0, true, (mtouch c o.m 1 4 sl 0 0).l.old, decide (withN (mtouch c o.m 1 4 sl 0 0).l.old sd b = (mtouch c o.m 1 4 sl 0 0).l.old)⟩
  else ⟨mtouch c o.m 3 4 sl o.s (withN o.s sd b), false, o.s, (mtouch c o.m 3 4 sl o.s (withN o.s sd b)).l.done⟩

def wit (c : Cf) (sl sd b : Int) (o : Ls) : Nat → Ls
  | 0 => o
  | k + 1 => wstep c sl sd b (wit c sl sd b o k)

theorem wstep_ok {c : Cf} {sl sd b : Int} {o : Ls} (ho : Lok c o) : Lok c (wstep c sl sd b o) := by
  unfold wstep
  split
  · exact ho
  split
  · exact ⟨word_touch ho.wd zero_word, old_word ho.wd⟩
  · exact ⟨word_touch ho.wd (with_word ho.s _ _), ho.s⟩

theorem wit_ok {c : Cf} {sl sd b : Int} {o : Ls} (ho : Lok c o) (k : Nat) : Lok c (wit c sl sd b o k) := by
  induction k with
  | zero => exact ho
  | succ k ih => exact wstep_ok ih

theorem wstep_done {c : Cf} {sl sd b : Int} {o : Ls} (hd : o.dn = true) : wstep c sl sd b o = o := by
  unfold wstep
  rw [if_pos hd]

theorem wit_done {c : Cf} {sl sd b : Int} {o : Ls} {q : Nat} (hd : (wit c sl sd b o q).dn = true) {k : Nat} (hk : q ≤ k) : wit c sl sd b o k = wit c sl sd b o q := by
  obtain ⟨d, rfl⟩ : ∃ d, k = q + d := ⟨k - q, by omega⟩
  clear hk
  induction d with
  | zero => rfl
  | succ d ih =>
    show wstep c sl sd b (wit c sl sd b o (q + d)) = _
    rw [ih]
    exact wstep_done hd

/-! ## words -/

theorem with_self {x : Nat} {a b : Int} (h : hasN x a b = true) : withN x a b = x := by
  unfold hasN at h
  have h1 : okS a b = true := by cases ho : okS a b <;> rw [ho] at h <;> first | rfl | cases h
  rw [h1, Bool.true_and] at h
  rw [with_ok _ h1]
  exact setN_self _ _ _ h

theorem with_twice (x : Nat) (a b : Int) : withN (withN x a b) a b = withN x a b := by
  cases ho : okS a b with
  | false => rw [with_bad _ a b ho, with_bad _ a b ho]
  | true => exact with_self (by rw [hasN_with, ho])

theorem with_comm (x : Nat) (a b a' b' : Int) : withN (withN x a b) a' b' = withN (withN x a' b') a b := by
  cases ho : okS a b with
  | false => rw [with_bad _ a b ho, with_bad _ a b ho]
  | true =>
    cases ho' : okS a' b' with
    | false => rw [with_bad _ a' b' ho', with_bad _ a' b' ho']
    | true =>
      rw [with_ok _ ho, with_ok _ ho', with_ok _ ho', with_ok _ ho]
      exact setN_comm _ _ _ _ _ (.inr rfl)

/-- bits stay -/
theorem has_stay {x : Nat} {a b : Int} (a' b' : Int) (h : hasN x a b = true) : hasN (withN x a' b') a b = true := by
  unfold hasN at h ⊢
  cases ho : okS a b with
  | false => rw [ho] at h; cases h
  | true =>
    rw [ho, Bool.true_and] at h
    rw [Bool.true_and]
    cases ho' : okS a' b' with
    | false => rw [with_bad _ a' b' ho']; exact h
    | true =>
      rw [with_ok _ ho', testBit_setN]
      split
      · rfl
      · exact h

theorem has_any {x : Nat} {a b : Int} (h : hasN x a b = true) : anyN x a = true := by
  have h1 : okS a b = true := by
    unfold hasN at h
    cases ho : okS a b <;> rw [ho] at h <;> first | rfl | cases h
  have := any_with x a b h1
  rwa [with_self h] at this

theorem with_bit {x : Nat} {a b : Int} {j : Nat} (h : x.testBit j = true) : (withN x a b).testBit j = true := by
  cases ho : okS a b with
  | false => rw [with_bad _ a b ho]; exact h
  | true =>
    rw [with_ok _ ho, testBit_setN]
    split
    · rfl
    · exact h

theorem any_stay {x : Nat} {a : Int} (a' b' : Int) (h : anyN x a = true) : anyN (withN x a' b') a = true := by
  by_cases ha : a = 0 ∨ a = 1
  · rw [any_iff ha] at h ⊢
    rcases h with ⟨j, h1, h2⟩ | h
    · exact .inl ⟨j, h1, with_bit h2⟩
    · exact .inr (with_bit h)
  · unfold anyN at h
    rw [decide_eq_false ha] at h
    cases h

theorem any_other {x : Nat} {a a' : Int} (b' : Int) (h : a ≠ a') : anyN (withN x a' b') a = anyN x a := by
  by_cases ha : a = 0 ∨ a = 1
  · cases ho : okS a' b' with
    | false => rw [with_bad _ a' b' ho]
    | true =>
      obtain ⟨h1, h2, h3⟩ := okS_iff.1 ho
      rw [with_ok _ ho]
      refine any_congr ha (fun j j0 j1 => ?_) ?_
      · rw [testBit_setN, if_neg]
        unfold bitAt
        omega
      · have := bitAt_lt ho
        rw [testBit_setN, if_neg]
        omega
  · unfold anyN
    rw [decide_eq_false ha]
    rfl

/-! ## alone -/

/-- what it comes to, alone -/
def jtg (sd b : Int) (sn W N : Nat) : Nat :=
  if stN W < 2 ∨ 4 < stN W ∨ (stN W = 4 ∧ past N sn = true) then 1 else if hasN W sd b = true then 2 else if stN W ≠ 2 ∧ anyN W (1 - sd) = true then 3 else 2

theorem jtg_pos (sd b : Int) (sn W N : Nat) : jtg sd b sn W N ≠ 0 := by
  unfold jtg
  (repeat' split) <;> decide

theorem jjd_r (sd b : Int) (M : Mm) (nx s : Nat) : (jjd sd b M nx s).r = (if hasN s sd b = true then 2 else if stN s ≠ 2 ∧ anyN s (1 - sd) = true then 3 else 0) ∧ (jjd sd b M nx s).m = M ∧ (jjd sd b M nx s).s = s ∧ ((jjd sd b M nx s).r = 0 → (jjd sd b M nx s).nx = 2 ∧ hasN s sd b = false) := by
  unfold jjd
  by_cases h1 : hasN s sd b = true
  · rw [if_pos h1, if_pos h1]
    exact ⟨rfl, rfl, rfl, (fun q => by cases q)⟩
  rw [if_neg h1, if_neg h1]
  by_cases h2 : stN s ≠ 2 ∧ anyN s (1 - sd) = true
  · rw [if_pos h2, if_pos h2]
    exact ⟨rfl, rfl, rfl, (fun q => by cases q)⟩
  · rw [if_neg h2, if_neg h2]
    exact ⟨rfl, rfl, rfl, fun _ => ⟨rfl, by simpa using h1⟩⟩

section
variable {c : Cf} {sl sd b : Int} {sn : Nat}

theorem slot_cells (hr : c.r = true) (h0 : 0 ≤ sl) (h1 : sl < c.s) : 0 ≤ c.cl 4 sl ∧ 0 ≤ c.cl 6 sl := by
  obtain ⟨a, d, e⟩ := sl_cells hr h0 h1
  omega

theorem jstep_look (hr : c.r = true) (h0 : 0 ≤ sl) (h1 : sl < c.s) {o : Js} (hr0 : o.r = 0) (hn : o.nx = 0) :
    jstep c sl sd b sn o = if stN (o.m.ws (c.cl 4 sl).toNat) = 4 then ⟨mtouch c o.m 1 4 sl 0 0, 1, o.m.ws (c.cl 4 sl).toNat, 0⟩
      else if stN (o.m.ws (c.cl 4 sl).toNat) = 2 ∨ stN (o.m.ws (c.cl 4 sl).toNat) = 3 then jjd sd b (mtouch c o.m 1 4 sl 0 0) 0 (o.m.ws (c.cl 4 sl).toNat)
      else ⟨mtouch c o.m 1 4 sl 0 0, 0, o.m.ws (c.cl 4 sl).toNat, 1⟩ := by
  have hc := (slot_cells hr h0 h1).1
  have hold : (mtouch c o.m 1 4 sl 0 0).l.old = o.m.ws (c.cl 4 sl).toNat := by rw [load_old, if_pos hc]
  unfold jstep
  rw [if_neg (by rw [hr0]; decide), if_pos hn, hold]

theorem jstep_num (hr : c.r = true) (h0 : 0 ≤ sl) (h1 : sl < c.s) {o : Js} (hr0 : o.r = 0) (hn : o.nx = 1) :
    jstep c sl sd b sn o = if past (o.m.ws (c.cl 6 sl).toNat) sn = true then ⟨mtouch c o.m 1 6 sl 0 0, 1, o.s, 1⟩ else jjd sd b (mtouch c o.m 1 6 sl 0 0) 1 o.s := by
  have hc := (slot_cells hr h0 h1).2
  have hold : (mtouch c o.m 1 6 sl 0 0).l.old = o.m.ws (c.cl 6 sl).toNat := by rw [load_old, if_pos hc]
  unfold jstep
  rw [if_neg (by rw [hr0]; decide), if_neg (by rw [hn]; decide), if_pos hn, hold]

theorem jstep_lay (hr : c.r = true) (h0 : 0 ≤ sl) (h1 : sl < c.s) {o : Js} (hr0 : o.r = 0) (hn : o.nx = 2) :
    jstep c sl sd b sn o = ⟨mtouch c o.m 3 4 sl o.s (withN o.s sd b), 0, o.s, if o.m.ws (c.cl 4 sl).toNat = o.s then 2 else 0⟩ := by
  have hc := (slot_cells hr h0 h1).1
  have hd : (mtouch c o.m 3 4 sl o.s (withN o.s sd b)).l.done = decide (o.m.ws (c.cl 4 sl).toNat = o.s) := by
    rw [swap_done]
    by_cases e : o.m.ws (c.cl 4 sl).toNat = o.s
    · rw [decide_eq_true e, decide_eq_true ⟨hc, e⟩]
    · rw [decide_eq_false e, decide_eq_false (fun q => e q.2)]
  unfold jstep
  rw [if_neg (by rw [hr0]; decide), if_neg (by rw [hn]; decide), if_neg (by rw [hn]; decide), hd]
  by_cases e : o.m.ws (c.cl 4 sl).toNat = o.s
  · rw [decide_eq_true e, if_pos rfl, if_pos e]
  · rw [decide_eq_false e, if_neg (by decide), if_neg e]

/-- judged, and laid: the next step ends it -/
theorem judged_end (hr : c.r = true) (h0 : 0 ≤ sl) (h1 : sl < c.s) (M : Mm) (nx : Nat) (ws : Nat → Nat) (hM : M.ws = ws) (W : Nat) (hW : W = ws (c.cl 4 sl).toNat) :
    (jstep c sl sd b sn (jjd sd b M nx W)).r = (if hasN W sd b = true then 2 else if stN W ≠ 2 ∧ anyN W (1 - sd) = true then 3 else 2) ∧
    ∀ i : Nat, (jstep c sl sd b sn (jjd sd b M nx W)).m.ws i = if (jstep c sl sd b sn (jjd sd b M nx W)).r = 2 ∧ (i : Int) = c.cl 4 sl then withN (ws i) sd b else ws i := by
  have hc := (slot_cells hr h0 h1).1
  obtain ⟨q1, q2, q3, q4⟩ := jjd_r sd b M nx W
  by_cases hz : (jjd sd b M nx W).r = 0
  · obtain ⟨n2, hf⟩ := q4 hz
    have hl := jstep_lay (sd := sd) (b := b) (sn := sn) hr h0 h1 hz n2
    have he : (jjd sd b M nx W).m.ws (c.cl 4 sl).toNat = (jjd sd b M nx W).s := by rw [q2, q3, hM, hW]
    rw [if_pos he] at hl
    rw [hl]
    have hno : ¬ (stN W ≠ 2 ∧ anyN W (1 - sd) = true) := by
      intro h2
      rw [q1, if_neg (by rw [hf]; decide), if_pos h2] at hz
      cases hz
    rw [if_neg (by rw [hf]; decide), if_neg hno]
    refine ⟨rfl, fun i => ?_⟩
    show (mtouch c _ 3 4 sl _ _).ws i = if 2 = 2 ∧ _ then _ else _
    rw [swap_ws, q2, q3, hM]
    by_cases e : (i : Int) = c.cl 4 sl
    · have ei : i = (c.cl 4 sl).toNat := by omega
      rw [if_pos ⟨e, by rw [ei, hW]⟩, if_pos ⟨rfl, e⟩, ei, hW]
    · rw [if_neg (fun q => e q.1), if_neg (fun q => e q.2)]
  · rw [jstep_end hz, q2, hM]
    rw [q1] at hz ⊢
    by_cases h2 : hasN W sd b = true
    · rw [if_pos h2, if_pos h2]
      refine ⟨rfl, fun i => ?_⟩
      by_cases e : (i : Int) = c.cl 4 sl
      · have ei : i = (c.cl 4 sl).toNat := by omega
        rw [if_pos ⟨rfl, e⟩, ei, ← hW, with_self h2]
      · rw [if_neg (fun q => e q.2)]
    · rw [if_neg h2] at hz ⊢
      rw [if_neg h2]
      by_cases h3 : stN W ≠ 2 ∧ anyN W (1 - sd) = true
      · rw [if_pos h3, if_pos h3]
        exact ⟨rfl, fun i => by rw [if_neg (fun q => by cases q.1)]⟩
      · rw [if_neg h3] at hz
        exact absurd rfl hz

end

/-- alone: at most three steps -/
theorem join_alone {c : Cf} (hr : c.r = true) {sl sd b : Int} {sn : Nat} (h0 : 0 ≤ sl) (h1 : sl < c.s) (m : Mm) {k : Nat} (hk : 3 ≤ k) (A : Js) (hA : A = jit c sl sd b sn (jnew m) k) :
    A.r = jtg sd b sn (m.ws (c.cl 4 sl).toNat) (m.ws (c.cl 6 sl).toNat) ∧ (∀ i : Nat, A.m.ws i = if A.r = 2 ∧ (i : Int) = c.cl 4 sl then withN (m.ws i) sd b else m.ws i) ∧ (jit c sl sd b sn (jnew m) 3).r ≠ 0 ∧
      ((jtg sd b sn (m.ws (c.cl 4 sl).toNat) (m.ws (c.cl 6 sl).toNat) ≠ 2 ∨ hasN (m.ws (c.cl 4 sl).toNat) sd b = true) → (jit c sl sd b sn (jnew m) 2).r ≠ 0) := by
  obtain ⟨W, hW⟩ : ∃ W, W = m.ws (c.cl 4 sl).toNat := ⟨_, rfl⟩
  obtain ⟨N, hN⟩ : ∃ N, N = m.ws (c.cl 6 sl).toNat := ⟨_, rfl⟩
  rw [← hW, ← hN]
  have hws4 : (mtouch c m 1 4 sl 0 0).ws = m.ws := load_ws c m 4 sl
  have e1 : jit c sl sd b sn (jnew m) 1 = _ := jstep_look (sd := sd) (b := b) (sn := sn) hr h0 h1 (o := jnew m) rfl rfl
  have hw0 : (jnew m).m.ws (c.cl 4 sl).toNat = W := hW.symm
  rw [hw0] at e1
  have s2 : jit c sl sd b sn (jnew m) 2 = jstep c sl sd b sn (jit c sl sd b sn (jnew m) 1) := rfl
  have s3 : jit c sl sd b sn (jnew m) 3 = jstep c sl sd b sn (jit c sl sd b sn (jnew m) 2) := rfl
  by_cases h4 : stN W = 4
  · rw [if_pos h4] at e1
    have e2 := jstep_num (sd := sd) (b := b) (sn := sn) hr h0 h1 (o := jit c sl sd b sn (jnew m) 1) (by rw [e1]) (by rw [e1])
    rw [← s2] at e2
    have hm1 : (jit c sl sd b sn (jnew m) 1).m.ws = m.ws := by rw [e1]; exact hws4
    have hs1 : (jit c sl sd b sn (jnew m) 1).s = W := by rw [e1]
    rw [hm1, hs1, ← hN] at e2
    have hws6 : (mtouch c (jit c sl sd b sn (jnew m) 1).m 1 6 sl 0 0).ws = m.ws := by rw [load_ws, hm1]
    by_cases hp : past N sn = true
    · rw [if_pos hp] at e2
      have hr2 : (jit c sl sd b sn (jnew m) 2).r = 1 := by rw [e2]
      have ht : jtg sd b sn W N = 1 := by unfold jtg; rw [if_pos (.inr (.inr ⟨h4, hp⟩))]
      have h2 : (jit c sl sd b sn (jnew m) 2).r ≠ 0 := by rw [hr2]; decide
      rw [hA, jit_end h2 (show 2 ≤ k by omega), hr2, ht]
      refine ⟨rfl, fun i => ?_, ?_, fun _ => (by first | exact h2 | decide)⟩
      · rw [e2, if_neg (fun q => by cases q.1)]
        exact congrFun hws6 i
      · rw [jit_end h2 (show 2 ≤ 3 by omega)]; exact h2
    · rw [if_neg hp] at e2
      have hj := judged_end (sd := sd) (b := b) (sn := sn) hr h0 h1 (mtouch c (jit c sl sd b sn (jnew m) 1).m 1 6 sl 0 0) 1 m.ws hws6 W hW
      rw [← e2, ← s3] at hj
      have ht : jtg sd b sn W N = if hasN W sd b = true then 2 else if stN W ≠ 2 ∧ anyN W (1 - sd) = true then 3 else 2 := by
        unfold jtg
        rw [if_neg (fun q => by rcases q with q | q | q; omega; omega; exact hp q.2)]
      have h3 : (jit c sl sd b sn (jnew m) 3).r ≠ 0 := by rw [hj.1, ← ht]; exact jtg_pos _ _ _ _ _
      rw [hA, jit_end h3 hk]
      refine ⟨by rw [hj.1, ht], hj.2, h3, fun q => ?_⟩
      rw [e2, (jjd_r sd b _ 1 W).1]
      rw [ht] at q
      by_cases g1 : hasN W sd b = true
      · rw [if_pos g1]; decide
      · rw [if_neg g1] at q ⊢
        by_cases g2 : stN W ≠ 2 ∧ anyN W (1 - sd) = true
        · rw [if_pos g2]; decide
        · rw [if_neg g2] at q
          rcases q with q | q
          · exact absurd rfl q
          · exact absurd q g1
  · rw [if_neg h4] at e1
    by_cases h23 : stN W = 2 ∨ stN W = 3
    · rw [if_pos h23] at e1
      have hj := judged_end (sd := sd) (b := b) (sn := sn) hr h0 h1 (mtouch c (jnew m).m 1 4 sl 0 0) 0 m.ws hws4 W hW
      rw [← e1, ← s2] at hj
      have ht : jtg sd b sn W N = if hasN W sd b = true then 2 else if stN W ≠ 2 ∧ anyN W (1 - sd) = true then 3 else 2 := by
        unfold jtg
        rw [if_neg (fun q => by rcases q with q | q | q <;> omega)]
      have h2 : (jit c sl sd b sn (jnew m) 2).r ≠ 0 := by rw [hj.1, ← ht]; exact jtg_pos _ _ _ _ _
      rw [hA, jit_end h2 (show 2 ≤ k by omega)]
      refine ⟨by rw [hj.1, ht], hj.2, ?_, fun _ => h2⟩
      rw [jit_end h2 (show 2 ≤ 3 by omega)]
      exact h2
    · rw [if_neg h23] at e1
      have hr1 : (jit c sl sd b sn (jnew m) 1).r = 1 := by rw [e1]
      have g1 : (jit c sl sd b sn (jnew m) 1).r ≠ 0 := by rw [hr1]; decide
      have hlt : stN W < 8 := part_lt W 27 3
      have ht : jtg sd b sn W N = 1 := by
        unfold jtg
        rw [if_pos (by omega)]
      rw [hA, jit_end g1 (show 1 ≤ k by omega), hr1, ht]
      refine ⟨rfl, fun i => ?_, ?_, fun _ => ?_⟩
      · rw [e1, if_neg (fun q => by cases q.1)]
        exact congrFun hws4 i
      · rw [jit_end g1 (show 1 ≤ 3 by omega)]; exact g1
      · rw [jit_end g1 (show 1 ≤ 2 by omega)]; exact g1

end Um

/-
  Plain arithmetic of layer 11: two that lay conflicts to one status at once. No Go in sight.
-/
namespace Um
set_option maxRecDepth 100000

/-- another memory -/
def setJ (m : Mm) (o : Js) : Js := ⟨m, o.nx, o.s, o.r⟩

def JokW (c : Cf) (o : Js) : Prop := ∀ m : Mm, (∀ i, i < c.n → Word (m.ws i)) → Jok c (setJ m o)

theorem Jok.okw {c : Cf} {o : Js} (h : Jok c o) : JokW c o := fun _ hm => ⟨hm, h.s, h.nx, h.r⟩

/-- one that lays a conflict to a status W that is not Free, Beginning or aborted, and not past -/
structure Sj (W : Nat) (sd b : Int) (a : Js) : Prop where
  r : a.r = 0 ∨ a.r = 2 ∨ a.r = 3
  nx : a.nx ≤ 2
  two : a.r = 2 → hasN W sd b = true
  thr : a.r = 3 → anyN W (1 - sd) = true ∧ stN W ≠ 2
  s : a.r = 0 → 1 ≤ a.nx → (hasN a.s sd b = true → hasN W sd b = true) ∧ (anyN a.s (1 - sd) = true → anyN W (1 - sd) = true) ∧ stN a.s = stN W
  lay : a.r = 0 → a.nx = 2 → stN a.s ≠ 2 → anyN a.s (1 - sd) = false

theorem Sj.grow {W : Nat} {sd b : Int} {a : Js} (h : Sj W sd b a) (x y : Int) : Sj (withN W x y) sd b a :=
  ⟨h.r, h.nx, fun q => has_stay _ _ (h.two q), fun q => ⟨any_stay _ _ (h.thr q).1, by rw [st_with]; exact (h.thr q).2⟩, fun q r => ⟨fun t => has_stay _ _ ((h.s q r).1 t), fun t => any_stay _ _ ((h.s q r).2.1 t), by rw [st_with]; exact (h.s q r).2.2⟩, h.lay⟩

theorem Sj.at {W : Nat} {sd b : Int} {a : Js} (h : Sj W sd b a) (m : Mm) : Sj W sd b (setJ m a) := ⟨h.r, h.nx, h.two, h.thr, h.s, h.lay⟩

theorem sj_new (W : Nat) (sd b : Int) (m : Mm) : Sj W sd b (jnew m) := ⟨.inl rfl, (show 0 ≤ 2 by decide), (fun q => by cases q), (fun q => by cases q), (fun _ q => absurd (show 1 ≤ 0 from q) (by decide)), (fun _ q => by cases q)⟩

/-- judged by a status that W has grown from -/
theorem sj_judge {W : Nat} {sd b : Int} (M : Mm) {nx s : Nat} (hn : nx ≤ 2) (h1 : hasN s sd b = true → hasN W sd b = true) (h2 : anyN s (1 - sd) = true → anyN W (1 - sd) = true) (h3 : stN s = stN W) : Sj W sd b (jjd sd b M nx s) := by
  unfold jjd
  by_cases g1 : hasN s sd b = true
  · rw [if_pos g1]
    exact ⟨.inr (.inl rfl), hn, fun _ => h1 g1, (fun q => by cases q), (fun q => by cases q), (fun q => by cases q)⟩
  rw [if_neg g1]
  by_cases g2 : stN s ≠ 2 ∧ anyN s (1 - sd) = true
  · rw [if_pos g2]
    exact ⟨.inr (.inr rfl), hn, (fun q => by cases q), fun _ => ⟨h2 g2.2, by rw [← h3]; exact g2.1⟩, (fun q => by cases q), (fun q => by cases q)⟩
  · rw [if_neg g2]
    refine ⟨.inl rfl, (show 2 ≤ 2 by decide), (fun q => by cases q), (fun q => by cases q), fun _ _ => ⟨h1, h2, h3⟩, fun _ _ q => ?_⟩
    cases hq : anyN s (1 - sd) with
    | false => rfl
    | true => exact absurd ⟨q, hq⟩ g2

theorem num_ne {c : Cf} (hr : c.r = true) {sl : Int} (h0 : 0 ≤ sl) (h1 : sl < c.s) : c.cl 6 sl ≠ c.cl 4 sl := by
  obtain ⟨a, d, e⟩ := sl_cells hr h0 h1
  omega

theorem sj_step {c : Cf} (hr : c.r = true) {sl sd b : Int} {sn : Nat} (h0 : 0 ≤ sl) (h1 : sl < c.s) (hok : okS sd b = true) {a : Js} {W : Nat} (hW : W = a.m.ws (c.cl 4 sl).toNat) (hst : stN W = 2 ∨ stN W = 3 ∨ stN W = 4) (hp : past (a.m.ws (c.cl 6 sl).toNat) sn = false) (h : Sj W sd b a) :
    ((jstep c sl sd b sn a).m.ws (c.cl 4 sl).toNat = W ∨ ((jstep c sl sd b sn a).m.ws (c.cl 4 sl).toNat = withN W sd b ∧ (stN W ≠ 2 → anyN W (1 - sd) = false))) ∧
    Sj ((jstep c sl sd b sn a).m.ws (c.cl 4 sl).toNat) sd b (jstep c sl sd b sn a) ∧ (jstep c sl sd b sn a).m.ws (c.cl 6 sl).toNat = a.m.ws (c.cl 6 sl).toNat := by
  have hc := slot_cells hr h0 h1
  have hne := num_ne hr h0 h1
  by_cases hz : a.r = 0
  · rcases (by have := h.nx; omega : a.nx = 0 ∨ a.nx = 1 ∨ a.nx = 2) with e | e | e
    · have hl := jstep_look (sd := sd) (b := b) (sn := sn) hr h0 h1 hz e
      rw [← hW] at hl
      have hws : (mtouch c a.m 1 4 sl 0 0).ws = a.m.ws := load_ws c a.m 4 sl
      by_cases h4 : stN W = 4
      · rw [if_pos h4] at hl
        rw [hl]
        refine ⟨.inl (by rw [hW]; exact congrFun hws _), ?_, congrFun hws _⟩
        show Sj ((mtouch c a.m 1 4 sl 0 0).ws _) sd b _
        rw [hws, ← hW]
        exact ⟨.inl rfl, (show 1 ≤ 2 by decide), (fun q => by cases q), (fun q => by cases q), fun _ _ => ⟨id, id, rfl⟩, (fun _ q => by cases q)⟩
      · rw [if_neg h4, if_pos (by omega)] at hl
        rw [hl, (jjd_r sd b _ 0 W).2.1, hws, ← hW]
        exact ⟨.inl rfl, sj_judge _ (by decide) id id rfl, rfl⟩
    · have hl := jstep_num (sd := sd) (b := b) (sn := sn) hr h0 h1 hz e
      rw [if_neg (by rw [hp]; decide)] at hl
      have hws : (mtouch c a.m 1 6 sl 0 0).ws = a.m.ws := load_ws c a.m 6 sl
      obtain ⟨g1, g2, g3⟩ := h.s hz (by omega)
      rw [hl, (jjd_r sd b _ 1 a.s).2.1, hws, ← hW]
      exact ⟨.inl rfl, sj_judge _ (by decide) g1 g2 g3, rfl⟩
    · have hl := jstep_lay (sd := sd) (b := b) (sn := sn) hr h0 h1 hz e
      rw [← hW] at hl
      rw [hl]
      have hnum : (mtouch c a.m 3 4 sl a.s (withN a.s sd b)).ws (c.cl 6 sl).toNat = a.m.ws (c.cl 6 sl).toNat := by
        rw [swap_ws, if_neg (fun q => hne (by have := q.1; omega))]
      by_cases ee : W = a.s
      · have hw' : (mtouch c a.m 3 4 sl a.s (withN a.s sd b)).ws (c.cl 4 sl).toNat = withN W sd b := by
          rw [swap_ws, if_pos ⟨by omega, by rw [← hW]; exact ee⟩, ← ee]
        refine ⟨.inr ⟨hw', fun q => ?_⟩, ?_, hnum⟩
        · have := h.lay hz e
          rw [← ee] at this
          exact this q
        · show Sj ((mtouch c a.m 3 4 sl a.s (withN a.s sd b)).ws _) sd b _
          rw [hw', if_pos ee]
          exact ⟨.inr (.inl rfl), (show 0 ≤ 2 by decide), fun _ => by rw [hasN_with, hok], (fun q => by cases q), (fun q => by cases q), (fun q => by cases q)⟩
      · have hw' : (mtouch c a.m 3 4 sl a.s (withN a.s sd b)).ws (c.cl 4 sl).toNat = W := by
          rw [swap_ws, if_neg (fun q => ee (by rw [hW]; exact q.2)), hW]
        refine ⟨.inl hw', ?_, hnum⟩
        show Sj ((mtouch c a.m 3 4 sl a.s (withN a.s sd b)).ws _) sd b _
        rw [hw', if_neg ee]
        exact ⟨.inl rfl, (show 0 ≤ 2 by decide), (fun q => by cases q), (fun q => by cases q), (fun _ q => absurd (show 1 ≤ 0 from q) (by decide)), (fun _ q => by cases q)⟩
  · rw [jstep_end hz, ← hW]
    exact ⟨.inl rfl, h, rfl⟩

/-- how far from its end -/
def muJ (c : Cf) (sl : Int) (a : Js) : Nat :=
  if a.r ≠ 0 then 0 else if a.nx = 0 then 3 else if a.nx = 1 then (if a.m.ws (c.cl 4 sl).toNat = a.s then 2 else 5) else (if a.m.ws (c.cl 4 sl).toNat = a.s then 1 else 4)

theorem muJ_le (c : Cf) (sl : Int) (a : Js) : muJ c sl a ≤ 5 := by
  unfold muJ
  (repeat' split) <;> omega

theorem muJ_judge (c : Cf) (sl sd b : Int) (M : Mm) (nx s : Nat) (v : Nat) (hv : M.ws (c.cl 4 sl).toNat = v) : muJ c sl (jjd sd b M nx s) ≤ if v = s then 1 else 4 := by
  unfold jjd
  split
  · show (if (2 : Nat) ≠ 0 then 0 else _) ≤ _
    rw [if_pos (by decide)]
    exact Nat.zero_le _
  split
  · show (if (3 : Nat) ≠ 0 then 0 else _) ≤ _
    rw [if_pos (by decide)]
    exact Nat.zero_le _
  · unfold muJ
    show (if (0 : Nat) ≠ 0 then 0 else if (2 : Nat) = 0 then 3 else if (2 : Nat) = 1 then _ else (if M.ws (c.cl 4 sl).toNat = s then 1 else 4)) ≤ _
    rw [if_neg (by decide), if_neg (by decide), if_neg (by decide), hv]
    exact Nat.le_refl _

theorem muJ_step {c : Cf} (hr : c.r = true) {sl sd b : Int} {sn : Nat} (h0 : 0 ≤ sl) (h1 : sl < c.s) {a : Js} (hst : stN (a.m.ws (c.cl 4 sl).toNat) = 2 ∨ stN (a.m.ws (c.cl 4 sl).toNat) = 3 ∨ stN (a.m.ws (c.cl 4 sl).toNat) = 4) (hnx : a.nx ≤ 2) (hz : a.r = 0) : muJ c sl (jstep c sl sd b sn a) < muJ c sl a := by
  have hc := slot_cells hr h0 h1
  obtain ⟨W, hW⟩ : ∃ W, W = a.m.ws (c.cl 4 sl).toNat := ⟨_, rfl⟩
  rcases (by omega : a.nx = 0 ∨ a.nx = 1 ∨ a.nx = 2) with e | e | e
  · have hm : muJ c sl a = 3 := by unfold muJ; rw [if_neg (by rw [hz]; decide), if_pos e]
    have hl := jstep_look (sd := sd) (b := b) (sn := sn) hr h0 h1 hz e
    rw [← hW] at hl hst
    have hws : (mtouch c a.m 1 4 sl 0 0).ws (c.cl 4 sl).toNat = W := by rw [load_ws, hW]
    rw [hm]
    by_cases h4 : stN W = 4
    · rw [if_pos h4] at hl
      rw [hl]
      unfold muJ
      show (if (0 : Nat) ≠ 0 then 0 else if (1 : Nat) = 0 then 3 else if (1 : Nat) = 1 then (if (mtouch c a.m 1 4 sl 0 0).ws (c.cl 4 sl).toNat = W then 2 else 5) else _) < 3
      rw [if_neg (by decide), if_neg (by decide), if_pos rfl, if_pos hws]
      decide
    · rw [if_neg h4, if_pos (by omega)] at hl
      rw [hl]
      have := muJ_judge c sl sd b (mtouch c a.m 1 4 sl 0 0) 0 W W hws
      rw [if_pos rfl] at this
      omega
  · have hm : muJ c sl a = if W = a.s then 2 else 5 := by unfold muJ; rw [if_neg (by rw [hz]; decide), if_neg (by rw [e]; decide), if_pos e, hW]
    have hl := jstep_num (sd := sd) (b := b) (sn := sn) hr h0 h1 hz e
    have hws : (mtouch c a.m 1 6 sl 0 0).ws (c.cl 4 sl).toNat = W := by rw [load_ws, hW]
    rw [hm, hl]
    split
    · have : muJ c sl ⟨mtouch c a.m 1 6 sl 0 0, 1, a.s, 1⟩ = 0 := by
        unfold muJ
        rw [if_pos (show (1 : Nat) ≠ 0 by decide)]
      rw [this]
      split <;> decide
    · have := muJ_judge c sl sd b (mtouch c a.m 1 6 sl 0 0) 1 a.s W hws
      by_cases ee : W = a.s
      · rw [if_pos ee] at this ⊢; omega
      · rw [if_neg ee] at this ⊢; omega
  · have hm : muJ c sl a = if W = a.s then 1 else 4 := by unfold muJ; rw [if_neg (by rw [hz]; decide), if_neg (by rw [e]; decide), if_neg (by rw [e]; decide), hW]
    have hl := jstep_lay (sd := sd) (b := b) (sn := sn) hr h0 h1 hz e
    rw [← hW] at hl
    rw [hm, hl]
    unfold muJ
    by_cases ee : W = a.s
    · rw [if_pos ee, if_pos ee]
      show (if (2 : Nat) ≠ 0 then 0 else _) < 1
      rw [if_pos (by decide)]
      decide
    · rw [if_neg ee, if_neg ee]
      show (if (0 : Nat) ≠ 0 then 0 else if (0 : Nat) = 0 then 3 else _) < 4
      rw [if_neg (by decide), if_pos rfl]
      decide

/-- two of either side, of a status that is committing, or committed -/
structure Bj (W : Nat) (p q b d : Int) (x y : Js) : Prop where
  pq : q = 1 - p ∧ p = 1 - q
  st : stN W = 3 ∨ stN W = 4
  one : ¬ (anyN W p = true ∧ anyN W q = true)
  X : Sj W p b x
  Y : Sj W q d y

theorem Bj.swap {W : Nat} {p q b d : Int} {x y : Js} (h : Bj W p q b d x y) : Bj W q p d b y x := ⟨⟨h.pq.2, h.pq.1⟩, h.st, fun r => h.one ⟨r.2, r.1⟩, h.Y, h.X⟩

theorem Bj.at {W : Nat} {p q b d : Int} {x y : Js} (h : Bj W p q b d x y) (m : Mm) : Bj W p q b d (setJ m x) y := ⟨h.pq, h.st, h.one, h.X.at m, h.Y⟩

theorem bj_step {c : Cf} (hr : c.r = true) {sl p q b d : Int} {sn : Nat} (h0 : 0 ≤ sl) (h1 : sl < c.s) (hok : okS p b = true) {x y : Js} (hp : past (x.m.ws (c.cl 6 sl).toNat) sn = false) (h : Bj (x.m.ws (c.cl 4 sl).toNat) p q b d x y) :
    Bj ((jstep c sl p b sn x).m.ws (c.cl 4 sl).toNat) p q b d (jstep c sl p b sn x) y ∧ (jstep c sl p b sn x).m.ws (c.cl 6 sl).toNat = x.m.ws (c.cl 6 sl).toNat := by
  have hst := h.st
  obtain ⟨g1, g2, g3⟩ := sj_step (sn := sn) hr h0 h1 hok rfl (by omega) hp h.X
  refine ⟨?_, g3⟩
  have hne : q ≠ p := by have := h.pq.1; omega
  rcases g1 with e | ⟨e, e2⟩
  · rw [e] at g2 ⊢
    exact ⟨h.pq, h.st, h.one, g2, h.Y⟩
  · rw [e] at g2 ⊢
    have e3 := e2 (by omega)
    rw [← h.pq.1] at e3
    refine ⟨h.pq, by rw [st_with]; exact h.st, fun r => ?_, g2, h.Y.grow _ _⟩
    have := r.2
    rw [any_other b hne, e3] at this
    cases this

theorem bj_ends {c : Cf} (hr : c.r = true) {sl p q b d : Int} {sn : Nat} (h0 : 0 ≤ sl) (h1 : sl < c.s) (hok : okS p b = true) {x y : Js} (hp : past (x.m.ws (c.cl 6 sl).toNat) sn = false) (h : Bj (x.m.ws (c.cl 4 sl).toNat) p q b d x y) {k : Nat} (hk : 6 ≤ k) (A : Js) (hA : A = jit c sl p b sn x k) :
    Bj (A.m.ws (c.cl 4 sl).toNat) p q b d A y ∧ A.m.ws (c.cl 6 sl).toNat = x.m.ws (c.cl 6 sl).toNat ∧ A.r ≠ 0 := by
  have main : ∀ k, Bj ((jit c sl p b sn x k).m.ws (c.cl 4 sl).toNat) p q b d (jit c sl p b sn x k) y ∧ (jit c sl p b sn x k).m.ws (c.cl 6 sl).toNat = x.m.ws (c.cl 6 sl).toNat ∧ (muJ c sl (jit c sl p b sn x k) + k ≤ muJ c sl x ∨ (jit c sl p b sn x k).r ≠ 0) := by
    intro k
    induction k with
    | zero => exact ⟨h, rfl, .inl (Nat.le_refl _)⟩
    | succ k ih =>
      obtain ⟨i1, i2, i3⟩ := ih
      obtain ⟨s1, s2⟩ := bj_step (sn := sn) hr h0 h1 hok (by rw [i2]; exact hp) i1
      refine ⟨s1, s2.trans i2, ?_⟩
      by_cases hz : (jit c sl p b sn x k).r = 0
      · rcases i3 with i3 | i3
        · have hst := i1.st
          have := muJ_step (sd := p) (b := b) (sn := sn) hr h0 h1 (a := jit c sl p b sn x k) (by omega) i1.X.nx hz
          left
          show muJ c sl (jstep c sl p b sn (jit c sl p b sn x k)) + (k + 1) ≤ _
          omega
        · exact absurd hz i3
      · right
        show (jstep c sl p b sn (jit c sl p b sn x k)).r ≠ 0
        rw [jstep_end hz]
        exact hz
  obtain ⟨m1, m2, m3⟩ := main k
  rw [hA]
  refine ⟨m1, m2, ?_⟩
  rcases m3 with m3 | m3
  · have := muJ_le c sl x; omega
  · exact m3

/-- what two of either side tell -/
theorem bj_tell {W : Nat} {p q b d : Int} {x y : Js} (h : Bj W p q b d x y) (hx : x.r ≠ 0) (hy : y.r ≠ 0) :
    (x.r = 2 ∧ hasN W p b = true ∨ x.r = 3 ∧ hasN W p b = false) ∧ (y.r = 2 ∧ hasN W q d = true ∨ y.r = 3 ∧ hasN W q d = false) ∧ ¬ (x.r = 2 ∧ y.r = 2) := by
  have one : ∀ {p q b d : Int} {x y : Js}, Bj W p q b d x y → x.r ≠ 0 → (x.r = 2 ∧ hasN W p b = true ∨ x.r = 3 ∧ hasN W p b = false) := by
    intro p q b d x y h hx
    rcases h.X.r with e | e | e
    · exact absurd e hx
    · exact .inl ⟨e, h.X.two e⟩
    · refine .inr ⟨e, ?_⟩
      have h1 := (h.X.thr e).1
      rw [← h.pq.1] at h1
      cases hq : hasN W p b with
      | false => rfl
      | true => exact absurd ⟨has_any hq, h1⟩ h.one
  refine ⟨one h hx, one h.swap hy, fun r => h.one ⟨has_any (h.X.two r.1), has_any (h.Y.two r.2)⟩⟩

end Um
