/-
  Texts that the laws stand on, merged (TicketB, OpenW, OpenA).
-/
import Derived.Test.YtkiaogbddfjkkaaM11
import Derived.Test.YtkiaogbddfjkkaaM12
import Derived.Test.YtkiaogbddfjkkaaM14
import Derived.Test.YtkiaogbddfjkkaaM5
import Derived.BigQuiet
import Derived.Deep.QuietTactic
import Derived.Lib.QuietBelow

/-
  The walks of layer 4's functions, and of the document's answers for them.
-/
namespace Go.Proofs.Ytkiaogbddfjkkaa
set_option maxRecDepth 100000
open Go.RowKit Go.Sort

theorem index_parts0 (a0 a1 : Value) (w : World) : Sem.run Try.prog (Instr.index 147 (.agg #[a0, a1]) (.int .i64 0)) w = .ok a0 w := by
  simp [Instr.index, go_sem]

theorem index_parts1 (a0 a1 : Value) (w : World) : Sem.run Try.prog (Instr.index 147 (.agg #[a0, a1]) (.int .i64 1)) w = .ok a1 w := by
  simp [Instr.index, go_sem]

attribute [local go_sem] index_row0 index_row1 index_parts0 index_parts1

theorem ret_twoI {a b : Int} {c : Bool} (h : a = b) : Ending.returned (.tuple #[.int .i64 a, .bool c]) = .returned (.tuple #[.int .i64 b, .bool c]) := by rw [h]

theorem ret_three {a b a' b' : Int} {c : Bool} (h : a = a') (h' : b = b') : Ending.returned (.tuple #[.int .i64 a, .int .i64 b, .bool c]) = .returned (.tuple #[.int .i64 a', .int .i64 b', .bool c]) := by rw [h, h']

set_option maxHeartbeats 400000 in
theorem krSlot_any (x : Nat) (w : World) (hx : Um.Word x) :
    Calls Try.prog 30 #[.int .u64 x] w fun e w' => e = .returned (.tuple #[.int .i64 (Um.svN x), .bool (Um.sok x)]) ∧ w' = w := by
  unfold Um.Word at hx
  cases hok : Um.sok x
  · rw [Um.sv_no hok]
    have hno := Um.sok_no.1 hok
    unfold Um.tsN at hno
    have HN := hide hno
    clear hok hno
    go_enter Try.func30, Try.ntmps30
    go_wp2
    all_goals first
      | (go_ret2; exact ⟨rfl, rfl⟩)
      | (exfalso; have h := unhide HN; omega)
  · rw [Um.sv_yes hok]
    have hyes := Um.sok_iff.1 hok
    unfold Um.tsN at hyes
    have HN := hide hyes
    clear hok hyes
    go_enter Try.func30, Try.ntmps30
    go_wp2
    all_goals first
      | (exfalso; have h := unhide HN; omega)
      | (go_ret2; exact ⟨ret_twoI (by unfold Um.tsN; omega), rfl⟩)

set_option maxHeartbeats 400000 in
theorem krMake_any (s g : Int) (w : World) :
    Calls Try.prog 24 #[.int .i64 s, .int .i64 g] w fun e w' => e = .returned (.tuple #[.int .u64 (Um.mkN s g : Nat), .bool (Um.mok s g)]) ∧ w' = w := by
  cases hok : Um.mok s g
  · rw [Um.mk_no hok]
    have hno := Um.mok_no.1 hok
    have HN := hide hno
    clear hok hno
    go_enter Try.func24, Try.ntmps24
    go_wp2
    all_goals first
      | (go_ret2; exact ⟨rfl, rfl⟩)
      | (exfalso; have h := unhide HN; omega)
  · have hp := Um.mk_yes hok
    have HP := hide hp
    obtain ⟨h1, h2, h3, h4⟩ := Um.mok_iff.1 hok
    clear hp hok
    go_enter Try.func24, Try.ntmps24
    go_wp2
    go_ret2
    rw [unhide HP]
    exact ⟨ret_two (by omega), rfl⟩

theorem make_or {s g : Int} (h : Um.mok s g = true) : bits .or .u64 (bits .or .u64 0 (s + 1)) (16 * g) = (Um.mkN s g : Int) := by
  obtain ⟨h1, h2, h3, h4⟩ := Um.mok_iff.1 h
  have e1 : s + 1 = ((s + 1).toNat : Int) := by omega
  have e2 : 16 * g = ((16 * g.toNat : Nat) : Int) := by omega
  rw [e1, e2, show (0 : Int) = ((0 : Nat) : Int) from rfl, u64_or_nat 0 _ (by decide) (by omega), Nat.zero_or, u64_or_nat _ _ (by omega) (by omega), Um.or_sixteen _ _ (by omega), Um.mk_yes h]
  omega

set_option maxHeartbeats 1000000 in
theorem kMake_any (s g : Int) (w : World) :
    Calls Try.prog 95 #[.int .i64 s, .int .i64 g] w fun e w' => e = .returned (.tuple #[.int .u64 (Um.mkN s g : Nat), .bool (Um.mok s g)]) ∧ Below w.heap.size w w' := by
  have hneq := neqParts (Um.near_mok (s := s) (g := g))
  cases hok : Um.mok s g
  · rw [hok] at hneq
    rw [Um.mk_no hok]
    clear hok
    go_enter Try.func95, Try.ntmps95
    go_wp2_with fail
    generalize hW : w.alloc _ = W
    have hk0 : ∀ d os, (grow (redrawn W d) os).cell? ⟨w.heap.size, 0, none⟩ = some (.int .i64 s) := fun d os => cell_regrown (by subst hW; go_simp) d os
    have hk1 : ∀ d os, (grow (redrawn W d) os).cell? ⟨w.heap.size, 1, none⟩ = some (.int .i64 g) := fun d os => cell_regrown (by subst hW; go_simp) d os
    have hB : Below w.heap.size w W := by rw [← hW]; exact (Below.refl _ _).alloc (Nat.le_refl _) _
    clear hW
    refine wp_region_quiet_below (by kernel_rfl) (by kernel_rfl) ?_
    repeat (go_big_quiet_step (first | (go_at_call 98; exact Calls.regrown_of (near_any _ _ _))))
    refine wpQuiet_nil ?_
    intro _ hw'
    obtain ⟨⟨dq, osq⟩, hw''⟩ := hw'
    subst hw''
    go_wp2
    go_ret2
    exact ⟨rfl, hB.trans ((below_regrown W dq osq).mono hB.size)⟩
  · rw [hok] at hneq
    have hp := make_or hok
    have HP := hide hp
    obtain ⟨h1, h2, h3, h4⟩ := Um.mok_iff.1 hok
    clear hp hok
    go_enter Try.func95, Try.ntmps95
    go_wp2_with fail
    generalize hW : w.alloc _ = W
    have hz : w.heap.size < W.heap.size := by subst hW; simp
    have hk0 : ∀ d os, (grow (redrawn W d) os).cell? ⟨w.heap.size, 0, none⟩ = some (.int .i64 s) := fun d os => cell_regrown (by subst hW; go_simp) d os
    have hk1 : ∀ d os, (grow (redrawn W d) os).cell? ⟨w.heap.size, 1, none⟩ = some (.int .i64 g) := fun d os => cell_regrown (by subst hW; go_simp) d os
    have hB : Below w.heap.size w W := by rw [← hW]; exact (Below.refl _ _).alloc (Nat.le_refl _) _
    clear hW
    refine wp_region_quiet_below (by kernel_rfl) (by kernel_rfl) ?_
    repeat (go_big_quiet_step (first | (go_at_call 98; exact Calls.regrown_of (near_any _ _ _))))
    refine wpQuiet_nil ?_
    intro _ hw'
    obtain ⟨⟨dq, osq⟩, hw''⟩ := hw'
    subst hw''
    have hB2 := hB.trans ((below_regrown W dq osq).mono hB.size)
    have hk0' := hk0 dq osq
    have hk1' := hk1 dq osq
    have hz2 : w.heap.size < (grow (redrawn W dq) osq).heap.size := Nat.lt_of_lt_of_le hz (below_regrown W dq osq).size
    clear hk0 hk1 hB hz
    generalize grow (redrawn W dq) osq = W2 at *
    go_wp2_with fail
    refine (trow_any _).mono ?_
    rintro e w1 ⟨rfl, hb1⟩
    obtain ⟨hc1, hf1⟩ := bcell hb1
    have c0 : w1.cell? ⟨w.heap.size, 0, none⟩ = some (.int .i64 s) := by go_simp
    have c1 : w1.cell? ⟨w.heap.size, 1, none⟩ = some (.int .i64 g) := by go_simp
    have hz1 : w.heap.size < w1.heap.size := Nat.lt_of_lt_of_le hz2 hb1.size
    have hB1 := hB2.trans (hb1.mono hB2.size)
    clear hk0' hk1' hc1 hf1 hb1 hB2 hz2
    go_wp2_with fail
    refine wp_loop_rounds 3 ?_
    rw [rounds_succ]
    go_wp2_with fail
    go_quiet (first | (go_at_call 100; exact Calls.quiet_of_same (row1_any _ _ h1 h2)))
    go_wp2_with fail
    rw [rounds_succ]
    go_wp2_with fail
    go_quiet (first | (go_at_call 103; exact Calls.quiet_of_same (row4_any _ _ h3 h4)))
    go_wp2_with fail
    rw [rounds_succ]
    go_wp2
    go_ret2
    refine ⟨ret_two (unhide HP), ?_⟩
    repeat first | exact hB1 | refine Below.alloc ?_ (by first | omega | (simp; omega)) _ | refine Below.drew ?_ | refine below_drewN ?_ _

end Go.Proofs.Ytkiaogbddfjkkaa

/-
  The document's beginning: to the next slot; words of layer 1 as layer 9 asks for them.
-/
namespace Go.Proofs.Ytkiaogbddfjkkaa
set_option maxRecDepth 100000
open Go.RowKit Go.Sort

/-- what is told, to the next slot -/
def Gof (n sl te : Int) (th tn : Nat) (fl : Bool) (te2 : Int) (th2 tn2 : Nat) : Prop :=
  (n ≤ sl + 1 → fl = true ∧ te2 = 6 ∧ th2 = 0 ∧ tn2 = 0) ∧ (¬ n ≤ sl + 1 → fl = false ∧ te2 = te ∧ th2 = th ∧ tn2 = tn)

set_option maxHeartbeats 2000000 in
theorem rGoes_any (w : World) (n sl : Int) (s q aw ha th tn : Nat) (nx an te : Int) (ad fl : Bool) (te2 : Int) (th2 tn2 : Nat) (h0 : 0 ≤ sl) (h1 : sl ≤ 20) (hG : Gof n sl te th tn fl te2 th2 tn2) :
    Calls Try.prog 40 #[.agg #[.int .i64 sl, .int .i64 nx, .int .u64 (s : Nat), .int .u64 (q : Nat), .int .u64 (aw : Nat), .int .i64 an, .int .u64 (ha : Nat), .bool ad, .int .i64 te, .int .u64 (th : Nat), .int .u64 (tn : Nat), .bool false], .int .i64 n] w fun r w' => r = .returned (.agg #[.int .i64 (sl + 1), .int .i64 0, .int .u64 (s : Nat), .int .u64 (q : Nat), .int .u64 (aw : Nat), .int .i64 an, .int .u64 (ha : Nat), .bool ad, .int .i64 te2, .int .u64 (th2 : Nat), .int .u64 (tn2 : Nat), .bool fl]) ∧ Below w.heap.size w w' := by
  have hS := Sx.new w
  by_cases hn : n ≤ sl + 1
  · obtain ⟨rfl, rfl, rfl, rfl⟩ := hG.1 hn
    have hd : decide (n ≤ sl + 1) = true := decide_eq_true hn
    clear hG
    go_enter Try.func40, Try.ntmps40
    go_wp2_with (first | (refine wpx_box hS rfl _ _ rfl _ rfl _ (by intro _; simp only [Act.put, List.setIfInBounds_toArray, List.set_cons_zero, List.set_cons_succ]; first | done | exact rfl) ?_; clear hS; intro _ _ hS; dsimp only [blit, List.set, List.cons_append, List.nil_append, Value.cells, List.toList_toArray] at hS) | (refine wpx_alloc hS rfl _ rfl _ (zer_any2 rfl) _ (by intro _; simp only [Act.put, List.setIfInBounds_toArray, List.set_cons_zero, List.set_cons_succ]; first | done | exact rfl) ?_; clear hS; intro _ _ hS; dsimp only [blit, List.set, List.cons_append, List.nil_append, Value.cells, List.toList_toArray] at hS) | (refine wpx_ld hS rfl _ _ rfl _ _ rfl ?_; (first | refine ⟨0, _, rfl, ?_⟩ | refine ⟨1, _, rfl, ?_⟩ | refine ⟨2, _, rfl, ?_⟩ | refine ⟨3, _, rfl, ?_⟩ | refine ⟨4, _, rfl, ?_⟩ | refine ⟨5, _, rfl, ?_⟩ | refine ⟨6, _, rfl, ?_⟩ | refine ⟨7, _, rfl, ?_⟩ | refine ⟨8, _, rfl, ?_⟩ | refine ⟨9, _, rfl, ?_⟩); first | refine .inl ⟨_, one_any2 rfl, rfl, _, (by simp only [Act.put, List.setIfInBounds_toArray, List.set_cons_zero, List.set_cons_succ]; first | done | exact rfl), ?_⟩ | refine .inr ⟨_, _, row_any2 rfl, rfl, (by dsimp only [cutL, List.drop, List.take]; first | done | exact rfl), _, (by simp only [Act.put, List.setIfInBounds_toArray, List.set_cons_zero, List.set_cons_succ]; first | done | exact rfl), ?_⟩) | (refine wpx_st hS rfl _ _ _ rfl rfl _ _ rfl ?_; (first | refine ⟨0, _, rfl, ?_⟩ | refine ⟨1, _, rfl, ?_⟩ | refine ⟨2, _, rfl, ?_⟩ | refine ⟨3, _, rfl, ?_⟩ | refine ⟨4, _, rfl, ?_⟩ | refine ⟨5, _, rfl, ?_⟩ | refine ⟨6, _, rfl, ?_⟩ | refine ⟨7, _, rfl, ?_⟩ | refine ⟨8, _, rfl, ?_⟩ | refine ⟨9, _, rfl, ?_⟩); refine ⟨_, (by first | exact shA rfl | exact shI rfl | exact shB rfl | exact shS rfl | exact shP rfl | exact shF rfl | exact shN rfl), _, siz_any2 rfl, (by exact rfl), (by exact rfl), (by exact rfl), ?_⟩; clear hS; intro _ hS; dsimp only [blit, List.set, List.cons_append, List.nil_append, Value.cells, List.toList_toArray] at hS))
    have hZ := hS.get 1 rfl
    exact bodyPost_ret (v := .agg #[.int .i64 (sl + 1), .int .i64 0, .int .u64 (s : Nat), .int .u64 (q : Nat), .int .u64 (aw : Nat), .int .i64 an, .int .u64 (ha : Nat), .bool ad, .int .i64 6, .int .u64 (0 : Nat), .int .u64 (0 : Nat), .bool true]) (by simp [results, Try.results40, go_sem, hZ.cell 0 _ rfl, hZ.cell 1 _ rfl, hZ.cell 2 _ rfl, hZ.cell 3 _ rfl, hZ.cell 4 _ rfl, hZ.cell 5 _ rfl, hZ.cell 6 _ rfl, hZ.cell 7 _ rfl, hZ.cell 8 _ rfl, hZ.cell 9 _ rfl, hZ.cell 10 _ rfl, hZ.cell 11 _ rfl]) rfl ⟨rfl, hS.bel⟩
  · obtain ⟨rfl, rfl, rfl, rfl⟩ := hG.2 hn
    have hd : decide (n ≤ sl + 1) = false := decide_eq_false hn
    clear hG
    go_enter Try.func40, Try.ntmps40
    go_wp2_with (first | (refine wpx_box hS rfl _ _ rfl _ rfl _ (by intro _; simp only [Act.put, List.setIfInBounds_toArray, List.set_cons_zero, List.set_cons_succ]; first | done | exact rfl) ?_; clear hS; intro _ _ hS; dsimp only [blit, List.set, List.cons_append, List.nil_append, Value.cells, List.toList_toArray] at hS) | (refine wpx_alloc hS rfl _ rfl _ (zer_any2 rfl) _ (by intro _; simp only [Act.put, List.setIfInBounds_toArray, List.set_cons_zero, List.set_cons_succ]; first | done | exact rfl) ?_; clear hS; intro _ _ hS; dsimp only [blit, List.set, List.cons_append, List.nil_append, Value.cells, List.toList_toArray] at hS) | (refine wpx_ld hS rfl _ _ rfl _ _ rfl ?_; (first | refine ⟨0, _, rfl, ?_⟩ | refine ⟨1, _, rfl, ?_⟩ | refine ⟨2, _, rfl, ?_⟩ | refine ⟨3, _, rfl, ?_⟩ | refine ⟨4, _, rfl, ?_⟩ | refine ⟨5, _, rfl, ?_⟩ | refine ⟨6, _, rfl, ?_⟩ | refine ⟨7, _, rfl, ?_⟩ | refine ⟨8, _, rfl, ?_⟩ | refine ⟨9, _, rfl, ?_⟩); first | refine .inl ⟨_, one_any2 rfl, rfl, _, (by simp only [Act.put, List.setIfInBounds_toArray, List.set_cons_zero, List.set_cons_succ]; first | done | exact rfl), ?_⟩ | refine .inr ⟨_, _, row_any2 rfl, rfl, (by dsimp only [cutL, List.drop, List.take]; first | done | exact rfl), _, (by simp only [Act.put, List.setIfInBounds_toArray, List.set_cons_zero, List.set_cons_succ]; first | done | exact rfl), ?_⟩) | (refine wpx_st hS rfl _ _ _ rfl rfl _ _ rfl ?_; (first | refine ⟨0, _, rfl, ?_⟩ | refine ⟨1, _, rfl, ?_⟩ | refine ⟨2, _, rfl, ?_⟩ | refine ⟨3, _, rfl, ?_⟩ | refine ⟨4, _, rfl, ?_⟩ | refine ⟨5, _, rfl, ?_⟩ | refine ⟨6, _, rfl, ?_⟩ | refine ⟨7, _, rfl, ?_⟩ | refine ⟨8, _, rfl, ?_⟩ | refine ⟨9, _, rfl, ?_⟩); refine ⟨_, (by first | exact shA rfl | exact shI rfl | exact shB rfl | exact shS rfl | exact shP rfl | exact shF rfl | exact shN rfl), _, siz_any2 rfl, (by exact rfl), (by exact rfl), (by exact rfl), ?_⟩; clear hS; intro _ hS; dsimp only [blit, List.set, List.cons_append, List.nil_append, Value.cells, List.toList_toArray] at hS))
    have hZ := hS.get 1 rfl
    exact bodyPost_ret (v := .agg #[.int .i64 (sl + 1), .int .i64 0, .int .u64 (s : Nat), .int .u64 (q : Nat), .int .u64 (aw : Nat), .int .i64 an, .int .u64 (ha : Nat), .bool ad, .int .i64 te2, .int .u64 (th2 : Nat), .int .u64 (tn2 : Nat), .bool false]) (by simp [results, Try.results40, go_sem, hZ.cell 0 _ rfl, hZ.cell 1 _ rfl, hZ.cell 2 _ rfl, hZ.cell 3 _ rfl, hZ.cell 4 _ rfl, hZ.cell 5 _ rfl, hZ.cell 6 _ rfl, hZ.cell 7 _ rfl, hZ.cell 8 _ rfl, hZ.cell 9 _ rfl, hZ.cell 10 _ rfl, hZ.cell 11 _ rfl]) rfl ⟨rfl, hS.bel⟩

set_option maxHeartbeats 1000000 in
theorem rGen_x {bs : List Nat} {w0 w : World} {l e : List (Nat × List Value)} (hS : Sx bs w0 w l e) (x : Nat) (hx : Um.Word x) :
    Calls Try.prog 22 #[.int .u64 (x : Nat)] w fun r w' => r = .returned (.int .i64 (Um.gnN x : Int)) ∧ Sx bs w0 w' l e := by
  have HC := hide (number_any x 30 32 w hx (by decide) (by decide) (by decide) (by decide))
  have HS := hide hS
  clear hS hx
  go_enter Try.func22, Try.ntmps22
  go_wp2_with fail
  refine (unhide HC).mono ?_
  rintro r u ⟨rfl, n, rfl⟩
  go_wp2
  go_ret
  exact ⟨rfl, (unhide HS).drewN n⟩

theorem rGen_b (x : Nat) (w : World) (hx : Um.Word x) : Calls Try.prog 22 #[.int .u64 (x : Nat)] w fun r w' => r = .returned (.int .i64 (Um.gnN x : Int)) ∧ Below w.heap.size w w' :=
  (rGen_x (Sx.new w) x hx).mono fun _ _ ⟨h1, h2⟩ => ⟨h1, h2.bel⟩

theorem rState_b (x : Nat) (w : World) (hx : Um.Word x) : Calls Try.prog 21 #[.int .u64 (x : Nat)] w fun r w' => r = .returned (.int .i64 (Um.stN x : Int)) ∧ Below w.heap.size w w' :=
  (rState_x (Sx.new w) x hx).mono fun _ _ ⟨h1, h2⟩ => ⟨h1, h2.bel⟩

theorem rMove1_x {bs : List Nat} {w0 w : World} {l e : List (Nat × List Value)} (hS : Sx bs w0 w l e) (x : Nat) (hx : Um.Word x) :
    Calls Try.prog 42 #[.int .u64 (x : Nat), .int .i64 1, .bool false] w fun r w' => r = .returned (.int .u64 (Um.moveN x 1 false : Int)) ∧ Sx bs w0 w' l e :=
  (refMove_any x 1 false w hx).mono fun _ _ ⟨h1, n, h2⟩ => ⟨h1, h2 ▸ hS.drewN n⟩

theorem rMove2_x {bs : List Nat} {w0 w : World} {l e : List (Nat × List Value)} (hS : Sx bs w0 w l e) (x : Nat) (hx : Um.Word x) :
    Calls Try.prog 42 #[.int .u64 (x : Nat), .int .i64 2, .bool false] w fun r w' => r = .returned (.int .u64 (Um.moveN x 2 false : Int)) ∧ Sx bs w0 w' l e :=
  (refMove_any x 2 false w hx).mono fun _ _ ⟨h1, n, h2⟩ => ⟨h1, h2 ▸ hS.drewN n⟩

theorem egGo (args : Array Value) (w : World) : (callFunc 40 args).run Try.prog w = .ok (.enter 40 args) w := by go_simp

theorem egSto (args : Array Value) (w : World) : (callFunc 38 args).run Try.prog w = .ok (.enter 38 args) w := by go_simp

theorem listv2_eq {a a' b b' : Value} (h1 : a = a') (h2 : b = b') : [a, b] = [a', b'] := by rw [h1, h2]

end Go.Proofs.Ytkiaogbddfjkkaa

/-
  The walks of the program's beginning, the small ones: the next slot, a new one, whether it is done, what it tells, a spot, its end, to the next slot.
-/
namespace Go.Proofs.Ytkiaogbddfjkkaa
set_option maxRecDepth 100000
open Go.RowKit Go.Sort

theorem eqOFn (f : Fn) (x y : Array Value) (w : World) : (binOp .eql 49 (.func f x y) .nilFunc).run Try.prog w = .ok (.bool false) w := by kernel_rfl
theorem eqONo (w : World) : (binOp .eql 49 .nilFunc .nilFunc).run Try.prog w = .ok (.bool true) w := by kernel_rfl
theorem zer_intN : (Try.prog.info? 3).map (·.zero) = some (some (.int .i64 0)) := by kernel_rfl

theorem field_cfgS (a b c d e : Value) (w : World) : (Instr.field 24 (.agg #[a, b, c, d, e]) 1).run Try.prog w = .ok b w := by simp [Instr.field, go_sem, asAgg]
theorem field_cfgG (a b c d e : Value) (w : World) : (Instr.field 24 (.agg #[a, b, c, d, e]) 3).run Try.prog w = .ok d w := by simp [Instr.field, go_sem, asAgg]
theorem field_stat0 (a b c d e f g : Value) (w : World) : (Instr.field 123 (.agg #[a, b, c, d, e, f, g]) 0).run Try.prog w = .ok a w := by simp [Instr.field, go_sem, asAgg]

section
variable {P : Program} {ops : Array Oper} {rest : List Oper} {op : Oper} {a : Act} {bs : List Nat} {w w0 : World} {Q : Exit → Act → World → Prop} {l e : List (Nat × List Value)}

/-- a load of many cells from a block that is only read -/
theorem wpx_loade (hS : Sx bs w0 w l e) (k : Nat) (hw : Region.wanted op (yielded ops a.tmps) = true) (ty : TypeId) (x : Operand) (ho : op.op = .load ty x) (b o : Nat) (hx : a.eval x = .pointer (some ⟨b, o, none⟩)) (cs : List Value) (hk : e[k]? = some (b, cs)) (n : Nat) (hr : Row P ty n) (hn : (o + n).ble cs.length = true) (vs : List Value) (hvs : cutL cs o n = vs)
    (a' : Act) (ha : a.put op.dst (.agg vs.toArray) = a') (h : wpList P ops Q rest a' w) : wpList P ops Q (op :: rest) a w := by
  refine BigFrame.wpList_want hw fun K hK => ?_
  obtain ⟨d, hu, hd, hi⟩ := hr
  subst hvs ha
  have e : (execOp a.eval op).run P w = .ok (.value (.agg (cutL cs o n).toArray)) w := by
    unfold execOp
    rw [ho]
    simp [hx, run_load_st (P := P) (hS.getE k hk) o ty n (Nat.le_of_ble_eq_true hn) d hu hd hi]
  unfold Oper.wp
  rw [e]
  exact hK _ _ h

end

section
variable {bs : List Nat} {w0 w w' : World} {l e : List (Nat × List Value)} {b1 b2 b3 b4 : Nat} {c1 c2 c3 c4 d1 d2 d3 d4 : List Value}

theorem Sx.enter4 (hS : Sx bs w0 w l e) (i j k n : Nat) (hi : l[i]? = some (b1, c1)) (hj : l[j]? = some (b2, c2)) (hk : l[k]? = some (b3, c3)) (hn : l[n]? = some (b4, c4)) (hij : i ≠ j) (hik : i ≠ k) (hjk : j ≠ k) (hin : i ≠ n) (hjn : j ≠ n) (hkn : k ≠ n) : Sx [b1, b2, b3, b4] w w [(b1, c1), (b2, c2), (b3, c3), (b4, c4)] [] :=
  hS.enter [(b1, c1), (b2, c2), (b3, c3), (b4, c4)] [] (fun p hp => by
      rcases (by simpa using hp : p = (b1, c1) ∨ p = (b2, c2) ∨ p = (b3, c3) ∨ p = (b4, c4)) with rfl | rfl | rfl | rfl
      · exact List.mem_of_getElem? hi
      · exact List.mem_of_getElem? hj
      · exact List.mem_of_getElem? hk
      · exact List.mem_of_getElem? hn)
    (by
      have h1 := hS.ne i j hi hj hij
      have h2 := hS.ne i k hi hk hik
      have h3 := hS.ne j k hj hk hjk
      have h4 := hS.ne i n hi hn hin
      have h5 := hS.ne j n hj hn hjn
      have h6 := hS.ne k n hk hn hkn
      simp [h1, h2, h3, h4, h5, h6]) (by simp)

theorem Sx.back4 {r e' : List (Nat × List Value)} (hS : Sx bs w0 w l e) (i j k n : Nat) (hi : l[i]? = some (b1, c1)) (hj : l[j]? = some (b2, c2)) (hk : l[k]? = some (b3, c3)) (hn : l[n]? = some (b4, c4)) (hL : Sx [b1, b2, b3, b4] w w' ((b1, d1) :: (b2, d2) :: (b3, d3) :: (b4, d4) :: r) e') : Sx bs w0 w' (putL l [(i, b1, d1), (j, b2, d2), (k, b3, d3), (n, b4, d4)]) e := by
  refine hS.sets _ (fun u hu => ?_) hL.off (fun u hu => ?_)
  · rcases (by simpa using hu : u = (i, b1, d1) ∨ u = (j, b2, d2) ∨ u = (k, b3, d3) ∨ u = (n, b4, d4)) with rfl | rfl | rfl | rfl
    · exact ⟨_, hi⟩
    · exact ⟨_, hj⟩
    · exact ⟨_, hk⟩
    · exact ⟨_, hn⟩
  · rcases (by simpa using hu : u = (i, b1, d1) ∨ u = (j, b2, d2) ∨ u = (k, b3, d3) ∨ u = (n, b4, d4)) with rfl | rfl | rfl | rfl
    · exact hL.get 0 rfl
    · exact hL.get 1 rfl
    · exact hL.get 2 rfl
    · exact hL.get 3 rfl

/-- a new block beside the turned ones -/
theorem Sx.more {l2 : List (Nat × List Value)} (hS : Sx bs w0 w l e) (h2 : Sx bs w0 w' l2 e) (hf : l2.map (·.1) = l.map (·.1)) {H : Nat} {cs : List Value} (hH : BlkAt w' H cs) (hl : w.heap.size ≤ H) : Sx bs w0 w' (l2 ++ [(H, cs)]) e := by
  have hlt : ∀ p ∈ l2, p.1 < w.heap.size := by
    intro p hp
    have : p.1 ∈ l2.map (·.1) := List.mem_map_of_mem hp
    rw [hf] at this
    obtain ⟨r, hr, e⟩ := List.mem_map.1 this
    rw [← e]
    exact (hS.blk r hr).lt
  refine ⟨h2.off, fun p hp => ?_, fun p hp => ?_, ?_, h2.eb, fun p hp r hr => ?_⟩
  · rcases List.mem_append.1 hp with h | h
    · exact h2.low p h
    · obtain rfl : p = _ := by simpa using h
      exact .inr (Nat.le_trans hS.size hl)
  · rcases List.mem_append.1 hp with h | h
    · exact h2.blk p h
    · obtain rfl : p = _ := by simpa using h
      exact hH
  · rw [List.pairwise_append]
    refine ⟨h2.nd, List.pairwise_singleton _ _, fun p hp r hr => ?_⟩
    obtain rfl : r = _ := by simpa using hr
    have := hlt p hp
    show p.1 ≠ H
    omega
  · rcases List.mem_append.1 hr with h | h
    · exact h2.ed p hp r h
    · obtain rfl : r = _ := by simpa using h
      have := (hS.eb p hp).lt
      show p.1 ≠ H
      omega

end

theorem wrap1 {v : Int} (h0 : -2 ≤ v) (h1 : v ≤ 900) : wrap64 (v + 1) = v + 1 := by unfold wrap64; omega

section
variable {bs : List Nat} {w0 w : World} {l e : List (Nat × List Value)} {B C P K : Nat} {c : Um.Cf} {m : Um.Mm} {sl te : Int} {s q th tn : Nat} {nt : Option Addr} {nx : Value}

theorem config9_x (hS : Sx bs w0 w l e) (i j : Nat) (hi : l[i]? = some (B, memL c C m)) (hj : l[j]? = some (C, rowW m.ws c.n)) (hij : i ≠ j) (hr : c.r = true) (hw : WordsOk c m) : Calls Try.prog 64 #[.pointer (some ⟨B, 0, none⟩)] w fun r w' => r = .returned (.agg #[.int .i64 (c.t), .int .i64 (c.s), .int .i64 (c.k), .int .i64 (c.g), .int .u64 (c.q : Int)]) ∧ Below w.heap.size w w' :=
  mConfig_any (hS.mem i j hi hj hij hr hw)

set_option maxHeartbeats 1000000 in
theorem oNext_x (hS : Sx bs w0 w l e) (n : Nat) (v : Int) (hn : l[n]? = some (K, [.int .i64 v])) (h0 : -2 ≤ v) (h1 : v ≤ 900) : Calls Try.prog 61 #[.pointer (some ⟨K, 0, none⟩)] w fun r w' => r = .returned (.int .i64 (v + 1)) ∧ Sx bs w0 w' (putL l [(n, K, [.int .i64 (v + 1)])]) e := by
  have HS := hide hS
  have HN := hide hn
  have hL := hS.enter1 n hn
  have hw1 := wrap1 h0 h1
  clear hS hn
  have hS := hL
  clear hL
  go_enter Try.func61, Try.ntmps61
  go_wp2_with (first | (refine wpx_box hS rfl _ _ rfl _ rfl _ (by intro _; simp only [Act.put, List.setIfInBounds_toArray, List.set_cons_zero, List.set_cons_succ]; first | done | exact rfl) ?_; clear hS; intro _ _ hS; dsimp only [blit, List.set, List.cons_append, List.nil_append, Value.cells, List.toList_toArray] at hS) | (refine wpx_alloc hS rfl _ rfl _ (zer_any2 rfl) _ (by intro _; simp only [Act.put, List.setIfInBounds_toArray, List.set_cons_zero, List.set_cons_succ]; first | done | exact rfl) ?_; clear hS; intro _ _ hS; dsimp only [blit, List.set, List.cons_append, List.nil_append, Value.cells, List.toList_toArray] at hS) | (refine wpx_ld hS rfl _ _ rfl _ _ rfl ?_; (first | refine ⟨0, _, rfl, ?_⟩ | refine ⟨1, _, rfl, ?_⟩ | refine ⟨2, _, rfl, ?_⟩ | refine ⟨3, _, rfl, ?_⟩ | refine ⟨4, _, rfl, ?_⟩ | refine ⟨5, _, rfl, ?_⟩ | refine ⟨6, _, rfl, ?_⟩ | refine ⟨7, _, rfl, ?_⟩ | refine ⟨8, _, rfl, ?_⟩ | refine ⟨9, _, rfl, ?_⟩); first | refine .inl ⟨_, one_any2 rfl, rfl, _, (by simp only [Act.put, List.setIfInBounds_toArray, List.set_cons_zero, List.set_cons_succ]; first | done | exact rfl), ?_⟩ | refine .inr ⟨_, _, row_any2 rfl, rfl, (by dsimp only [cutL, List.drop, List.take]; first | done | exact rfl), _, (by simp only [Act.put, List.setIfInBounds_toArray, List.set_cons_zero, List.set_cons_succ]; first | done | exact rfl), ?_⟩) | (refine wpx_st hS rfl _ _ _ rfl rfl _ _ rfl ?_; (first | refine ⟨0, _, rfl, ?_⟩ | refine ⟨1, _, rfl, ?_⟩ | refine ⟨2, _, rfl, ?_⟩ | refine ⟨3, _, rfl, ?_⟩ | refine ⟨4, _, rfl, ?_⟩ | refine ⟨5, _, rfl, ?_⟩ | refine ⟨6, _, rfl, ?_⟩ | refine ⟨7, _, rfl, ?_⟩ | refine ⟨8, _, rfl, ?_⟩ | refine ⟨9, _, rfl, ?_⟩); refine ⟨_, (by first | exact shA rfl | exact shI rfl | exact shB rfl | exact shS rfl | exact shP rfl | exact shF rfl | exact shN rfl), _, siz_any2 rfl, (by exact rfl), (by exact rfl), (by exact rfl), ?_⟩; clear hS; intro _ hS; dsimp only [blit, List.set, List.cons_append, List.nil_append, Value.cells, List.toList_toArray] at hS))
  go_ret
  exact ⟨rfl, (unhide HS).back1 n (unhide HN) hS⟩

set_option maxHeartbeats 1000000 in
theorem oRising_x (hS : Sx bs w0 w l e) : Calls Try.prog 36 #[] w fun r w' => ∃ K, r = .returned (.func (.func 61) #[] #[.pointer (some ⟨K, 0, none⟩)]) ∧ Sx bs w0 w' (l ++ [(K, [.int .i64 (-1)])]) e := by
  have HS := hide hS
  clear hS
  have hS := Sx.new w
  go_enter Try.func36, Try.ntmps36
  go_wp2_with (first | (refine wpx_alloc hS rfl _ rfl _ zer_intN _ (by intro _; simp only [Act.put, List.setIfInBounds_toArray, List.set_cons_zero, List.set_cons_succ]; first | done | exact rfl) ?_; clear hS; intro _ _ hS; dsimp only [blit, List.set, List.cons_append, List.nil_append, Value.cells, List.toList_toArray] at hS) | (first | (refine wpx_box hS rfl _ _ rfl _ rfl _ (by intro _; simp only [Act.put, List.setIfInBounds_toArray, List.set_cons_zero, List.set_cons_succ]; first | done | exact rfl) ?_; clear hS; intro _ _ hS; dsimp only [blit, List.set, List.cons_append, List.nil_append, Value.cells, List.toList_toArray] at hS) | (refine wpx_alloc hS rfl _ rfl _ (zer_any2 rfl) _ (by intro _; simp only [Act.put, List.setIfInBounds_toArray, List.set_cons_zero, List.set_cons_succ]; first | done | exact rfl) ?_; clear hS; intro _ _ hS; dsimp only [blit, List.set, List.cons_append, List.nil_append, Value.cells, List.toList_toArray] at hS) | (refine wpx_ld hS rfl _ _ rfl _ _ rfl ?_; (first | refine ⟨0, _, rfl, ?_⟩ | refine ⟨1, _, rfl, ?_⟩ | refine ⟨2, _, rfl, ?_⟩ | refine ⟨3, _, rfl, ?_⟩ | refine ⟨4, _, rfl, ?_⟩ | refine ⟨5, _, rfl, ?_⟩ | refine ⟨6, _, rfl, ?_⟩ | refine ⟨7, _, rfl, ?_⟩ | refine ⟨8, _, rfl, ?_⟩ | refine ⟨9, _, rfl, ?_⟩); first | refine .inl ⟨_, one_any2 rfl, rfl, _, (by simp only [Act.put, List.setIfInBounds_toArray, List.set_cons_zero, List.set_cons_succ]; first | done | exact rfl), ?_⟩ | refine .inr ⟨_, _, row_any2 rfl, rfl, (by dsimp only [cutL, List.drop, List.take]; first | done | exact rfl), _, (by simp only [Act.put, List.setIfInBounds_toArray, List.set_cons_zero, List.set_cons_succ]; first | done | exact rfl), ?_⟩) | (refine wpx_st hS rfl _ _ _ rfl rfl _ _ rfl ?_; (first | refine ⟨0, _, rfl, ?_⟩ | refine ⟨1, _, rfl, ?_⟩ | refine ⟨2, _, rfl, ?_⟩ | refine ⟨3, _, rfl, ?_⟩ | refine ⟨4, _, rfl, ?_⟩ | refine ⟨5, _, rfl, ?_⟩ | refine ⟨6, _, rfl, ?_⟩ | refine ⟨7, _, rfl, ?_⟩ | refine ⟨8, _, rfl, ?_⟩ | refine ⟨9, _, rfl, ?_⟩); refine ⟨_, (by first | exact shA rfl | exact shI rfl | exact shB rfl | exact shS rfl | exact shP rfl | exact shF rfl | exact shN rfl), _, siz_any2 rfl, (by exact rfl), (by exact rfl), (by exact rfl), ?_⟩; clear hS; intro _ hS; dsimp only [blit, List.set, List.cons_append, List.nil_append, Value.cells, List.toList_toArray] at hS)))
  go_ret
  obtain ⟨K, rfl⟩ := nameB hS 0 rfl
  exact ⟨K, rfl, (unhide HS).add hS.bel (hS.get 0 rfl) ((hS.low _ (List.mem_of_getElem? (i := 0) rfl)).resolve_left (by simp))⟩

set_option maxHeartbeats 1000000 in
theorem oNew_x (hS : Sx bs w0 w l e) : Calls Try.prog 11 #[] w fun r w' => ∃ P K, r = .returned (.pointer (some ⟨P, 0, none⟩)) ∧ Sx bs w0 w' (l ++ [(P, [.func (.func 61) #[] #[.pointer (some ⟨K, 0, none⟩)], .int .i64 0, .int .u64 (0 : Nat), .int .u64 (0 : Nat), .pointer none, .func (.func 37) #[.pointer (some ⟨P, 0, none⟩)] #[], .int .i64 0, .int .u64 (0 : Nat), .int .u64 (0 : Nat)]), (K, [.int .i64 0])]) e := by
  have HS := hide hS
  clear hS
  have hS := Sx.new w
  go_enter Try.func11, Try.ntmps11
  go_wp2_with fail
  refine (oRising_x hS).mono ?_
  rintro r u ⟨K, rfl, hSn⟩
  clear hS
  have hS := hSn
  clear hSn
  dsimp only [putL, List.set, List.cons_append, List.nil_append] at hS
  go_wp2_with (first | (refine wpx_box hS rfl _ _ rfl _ rfl _ (by intro _; simp only [Act.put, List.setIfInBounds_toArray, List.set_cons_zero, List.set_cons_succ]; first | done | exact rfl) ?_; clear hS; intro _ _ hS; dsimp only [blit, List.set, List.cons_append, List.nil_append, Value.cells, List.toList_toArray] at hS) | (refine wpx_alloc hS rfl _ rfl _ (zer_any2 rfl) _ (by intro _; simp only [Act.put, List.setIfInBounds_toArray, List.set_cons_zero, List.set_cons_succ]; first | done | exact rfl) ?_; clear hS; intro _ _ hS; dsimp only [blit, List.set, List.cons_append, List.nil_append, Value.cells, List.toList_toArray] at hS) | (refine wpx_ld hS rfl _ _ rfl _ _ rfl ?_; (first | refine ⟨0, _, rfl, ?_⟩ | refine ⟨1, _, rfl, ?_⟩ | refine ⟨2, _, rfl, ?_⟩ | refine ⟨3, _, rfl, ?_⟩ | refine ⟨4, _, rfl, ?_⟩ | refine ⟨5, _, rfl, ?_⟩ | refine ⟨6, _, rfl, ?_⟩ | refine ⟨7, _, rfl, ?_⟩ | refine ⟨8, _, rfl, ?_⟩ | refine ⟨9, _, rfl, ?_⟩); first | refine .inl ⟨_, one_any2 rfl, rfl, _, (by simp only [Act.put, List.setIfInBounds_toArray, List.set_cons_zero, List.set_cons_succ]; first | done | exact rfl), ?_⟩ | refine .inr ⟨_, _, row_any2 rfl, rfl, (by dsimp only [cutL, List.drop, List.take]; first | done | exact rfl), _, (by simp only [Act.put, List.setIfInBounds_toArray, List.set_cons_zero, List.set_cons_succ]; first | done | exact rfl), ?_⟩) | (refine wpx_st hS rfl _ _ _ rfl rfl _ _ rfl ?_; (first | refine ⟨0, _, rfl, ?_⟩ | refine ⟨1, _, rfl, ?_⟩ | refine ⟨2, _, rfl, ?_⟩ | refine ⟨3, _, rfl, ?_⟩ | refine ⟨4, _, rfl, ?_⟩ | refine ⟨5, _, rfl, ?_⟩ | refine ⟨6, _, rfl, ?_⟩ | refine ⟨7, _, rfl, ?_⟩ | refine ⟨8, _, rfl, ?_⟩ | refine ⟨9, _, rfl, ?_⟩); refine ⟨_, (by first | exact shA rfl | exact shI rfl | exact shB rfl | exact shS rfl | exact shP rfl | exact shF rfl | exact shN rfl), _, siz_any2 rfl, (by exact rfl), (by exact rfl), (by exact rfl), ?_⟩; clear hS; intro _ hS; dsimp only [blit, List.set, List.cons_append, List.nil_append, Value.cells, List.toList_toArray] at hS))
  refine (oNext_x hS 0 (-1) rfl (by decide) (by decide)).mono ?_
  rintro r u ⟨rfl, hSn⟩
  clear hS
  have hS := hSn
  clear hSn
  dsimp only [putL, List.set, List.cons_append, List.nil_append] at hS
  go_wp2_with (first | (refine wpx_box hS rfl _ _ rfl _ rfl _ (by intro _; simp only [Act.put, List.setIfInBounds_toArray, List.set_cons_zero, List.set_cons_succ]; first | done | exact rfl) ?_; clear hS; intro _ _ hS; dsimp only [blit, List.set, List.cons_append, List.nil_append, Value.cells, List.toList_toArray] at hS) | (refine wpx_alloc hS rfl _ rfl _ (zer_any2 rfl) _ (by intro _; simp only [Act.put, List.setIfInBounds_toArray, List.set_cons_zero, List.set_cons_succ]; first | done | exact rfl) ?_; clear hS; intro _ _ hS; dsimp only [blit, List.set, List.cons_append, List.nil_append, Value.cells, List.toList_toArray] at hS) | (refine wpx_ld hS rfl _ _ rfl _ _ rfl ?_; (first | refine ⟨0, _, rfl, ?_⟩ | refine ⟨1, _, rfl, ?_⟩ | refine ⟨2, _, rfl, ?_⟩ | refine ⟨3, _, rfl, ?_⟩ | refine ⟨4, _, rfl, ?_⟩ | refine ⟨5, _, rfl, ?_⟩ | refine ⟨6, _, rfl, ?_⟩ | refine ⟨7, _, rfl, ?_⟩ | refine ⟨8, _, rfl, ?_⟩ | refine ⟨9, _, rfl, ?_⟩); first | refine .inl ⟨_, one_any2 rfl, rfl, _, (by simp only [Act.put, List.setIfInBounds_toArray, List.set_cons_zero, List.set_cons_succ]; first | done | exact rfl), ?_⟩ | refine .inr ⟨_, _, row_any2 rfl, rfl, (by dsimp only [cutL, List.drop, List.take]; first | done | exact rfl), _, (by simp only [Act.put, List.setIfInBounds_toArray, List.set_cons_zero, List.set_cons_succ]; first | done | exact rfl), ?_⟩) | (refine wpx_st hS rfl _ _ _ rfl rfl _ _ rfl ?_; (first | refine ⟨0, _, rfl, ?_⟩ | refine ⟨1, _, rfl, ?_⟩ | refine ⟨2, _, rfl, ?_⟩ | refine ⟨3, _, rfl, ?_⟩ | refine ⟨4, _, rfl, ?_⟩ | refine ⟨5, _, rfl, ?_⟩ | refine ⟨6, _, rfl, ?_⟩ | refine ⟨7, _, rfl, ?_⟩ | refine ⟨8, _, rfl, ?_⟩ | refine ⟨9, _, rfl, ?_⟩); refine ⟨_, (by first | exact shA rfl | exact shI rfl | exact shB rfl | exact shS rfl | exact shP rfl | exact shF rfl | exact shN rfl), _, siz_any2 rfl, (by exact rfl), (by exact rfl), (by exact rfl), ?_⟩; clear hS; intro _ hS; dsimp only [blit, List.set, List.cons_append, List.nil_append, Value.cells, List.toList_toArray] at hS))
  go_ret
  obtain ⟨P, rfl⟩ := nameB hS 1 rfl
  have hne := hS.ne 1 0 rfl rfl (by decide)
  refine ⟨P, K, rfl, (unhide HS).adds hS.bel _ (fun p hp => ?_) (fun p hp => ?_) ?_⟩
  · rcases (by simpa using hp : p = (P, _) ∨ p = (K, _)) with rfl | rfl
    · exact hS.get 1 rfl
    · exact hS.get 0 rfl
  · rcases (by simpa using hp : p = (P, _) ∨ p = (K, _)) with rfl | rfl
    · exact (hS.low _ (List.mem_of_getElem? (i := 1) rfl)).resolve_left (by simp)
    · exact (hS.low _ (List.mem_of_getElem? (i := 0) rfl)).resolve_left (by simp)
  · exact List.pairwise_pair.2 hne

set_option maxHeartbeats 1000000 in
theorem oSpot_any (hB : BlkAt w P [.func (.func 61) #[] #[.pointer (some ⟨K, 0, none⟩)], .int .i64 sl, .int .u64 (s : Nat), .int .u64 (q : Nat), .pointer nt, nx, .int .i64 te, .int .u64 (th : Nat), .int .u64 (tn : Nat)]) (kd : Int) : Calls Try.prog 62 #[.pointer (some ⟨P, 0, none⟩), .int .i64 kd] w fun r w' => r = .returned (.agg #[.int .i64 kd, .int .i64 sl]) ∧ Below w.heap.size w w' := by
  have hS := Sx.read1 hB
  clear hB
  go_enter Try.func62, Try.ntmps62
  go_wp2_with (first | (first | (refine wpx_box hS rfl _ _ rfl _ rfl _ (by intro _; simp only [Act.put, List.setIfInBounds_toArray, List.set_cons_zero, List.set_cons_succ]; first | done | exact rfl) ?_; clear hS; intro _ _ hS; dsimp only [blit, List.set, List.cons_append, List.nil_append, Value.cells, List.toList_toArray] at hS) | (refine wpx_alloc hS rfl _ rfl _ (zer_any2 rfl) _ (by intro _; simp only [Act.put, List.setIfInBounds_toArray, List.set_cons_zero, List.set_cons_succ]; first | done | exact rfl) ?_; clear hS; intro _ _ hS; dsimp only [blit, List.set, List.cons_append, List.nil_append, Value.cells, List.toList_toArray] at hS) | (refine wpx_ld hS rfl _ _ rfl _ _ rfl ?_; (first | refine ⟨0, _, rfl, ?_⟩ | refine ⟨1, _, rfl, ?_⟩ | refine ⟨2, _, rfl, ?_⟩ | refine ⟨3, _, rfl, ?_⟩ | refine ⟨4, _, rfl, ?_⟩ | refine ⟨5, _, rfl, ?_⟩ | refine ⟨6, _, rfl, ?_⟩ | refine ⟨7, _, rfl, ?_⟩ | refine ⟨8, _, rfl, ?_⟩ | refine ⟨9, _, rfl, ?_⟩); first | refine .inl ⟨_, one_any2 rfl, rfl, _, (by simp only [Act.put, List.setIfInBounds_toArray, List.set_cons_zero, List.set_cons_succ]; first | done | exact rfl), ?_⟩ | refine .inr ⟨_, _, row_any2 rfl, rfl, (by dsimp only [cutL, List.drop, List.take]; first | done | exact rfl), _, (by simp only [Act.put, List.setIfInBounds_toArray, List.set_cons_zero, List.set_cons_succ]; first | done | exact rfl), ?_⟩) | (refine wpx_st hS rfl _ _ _ rfl rfl _ _ rfl ?_; (first | refine ⟨0, _, rfl, ?_⟩ | refine ⟨1, _, rfl, ?_⟩ | refine ⟨2, _, rfl, ?_⟩ | refine ⟨3, _, rfl, ?_⟩ | refine ⟨4, _, rfl, ?_⟩ | refine ⟨5, _, rfl, ?_⟩ | refine ⟨6, _, rfl, ?_⟩ | refine ⟨7, _, rfl, ?_⟩ | refine ⟨8, _, rfl, ?_⟩ | refine ⟨9, _, rfl, ?_⟩); refine ⟨_, (by first | exact shA rfl | exact shI rfl | exact shB rfl | exact shS rfl | exact shP rfl | exact shF rfl | exact shN rfl), _, siz_any2 rfl, (by exact rfl), (by exact rfl), (by exact rfl), ?_⟩; clear hS; intro _ hS; dsimp only [blit, List.set, List.cons_append, List.nil_append, Value.cells, List.toList_toArray] at hS)) | (refine wpx_load1e hS 0 rfl _ _ rfl _ _ rfl _ rfl (one_any2 rfl) _ rfl _ (by simp only [Act.put, List.setIfInBounds_toArray, List.set_cons_zero, List.set_cons_succ]; first | done | exact rfl) ?_))
  have hZ := hS.get 0 rfl
  exact bodyPost_ret (v := (.agg #[.int .i64 kd, .int .i64 sl])) (by simp [results, Try.results62, go_sem, hZ.cell 0 _ rfl, hZ.cell 1 _ rfl]) rfl ⟨rfl, hS.bel⟩

set_option maxHeartbeats 1000000 in
theorem oAnswer_b (hB : BlkAt w P [.func (.func 61) #[] #[.pointer (some ⟨K, 0, none⟩)], .int .i64 sl, .int .u64 (s : Nat), .int .u64 (q : Nat), .pointer nt, nx, .int .i64 te, .int .u64 (th : Nat), .int .u64 (tn : Nat)]) : Calls Try.prog 18 #[.pointer (some ⟨P, 0, none⟩)] w fun r w' => r = .returned (.agg #[.int .i64 te, .int .u64 (th : Nat), .int .u64 (tn : Nat)]) ∧ Below w.heap.size w w' := by
  have hS := Sx.read1 hB
  clear hB
  go_enter Try.func18, Try.ntmps18
  go_wp2_with (first | (first | (refine wpx_box hS rfl _ _ rfl _ rfl _ (by intro _; simp only [Act.put, List.setIfInBounds_toArray, List.set_cons_zero, List.set_cons_succ]; first | done | exact rfl) ?_; clear hS; intro _ _ hS; dsimp only [blit, List.set, List.cons_append, List.nil_append, Value.cells, List.toList_toArray] at hS) | (refine wpx_alloc hS rfl _ rfl _ (zer_any2 rfl) _ (by intro _; simp only [Act.put, List.setIfInBounds_toArray, List.set_cons_zero, List.set_cons_succ]; first | done | exact rfl) ?_; clear hS; intro _ _ hS; dsimp only [blit, List.set, List.cons_append, List.nil_append, Value.cells, List.toList_toArray] at hS) | (refine wpx_ld hS rfl _ _ rfl _ _ rfl ?_; (first | refine ⟨0, _, rfl, ?_⟩ | refine ⟨1, _, rfl, ?_⟩ | refine ⟨2, _, rfl, ?_⟩ | refine ⟨3, _, rfl, ?_⟩ | refine ⟨4, _, rfl, ?_⟩ | refine ⟨5, _, rfl, ?_⟩ | refine ⟨6, _, rfl, ?_⟩ | refine ⟨7, _, rfl, ?_⟩ | refine ⟨8, _, rfl, ?_⟩ | refine ⟨9, _, rfl, ?_⟩); first | refine .inl ⟨_, one_any2 rfl, rfl, _, (by simp only [Act.put, List.setIfInBounds_toArray, List.set_cons_zero, List.set_cons_succ]; first | done | exact rfl), ?_⟩ | refine .inr ⟨_, _, row_any2 rfl, rfl, (by dsimp only [cutL, List.drop, List.take]; first | done | exact rfl), _, (by simp only [Act.put, List.setIfInBounds_toArray, List.set_cons_zero, List.set_cons_succ]; first | done | exact rfl), ?_⟩) | (refine wpx_st hS rfl _ _ _ rfl rfl _ _ rfl ?_; (first | refine ⟨0, _, rfl, ?_⟩ | refine ⟨1, _, rfl, ?_⟩ | refine ⟨2, _, rfl, ?_⟩ | refine ⟨3, _, rfl, ?_⟩ | refine ⟨4, _, rfl, ?_⟩ | refine ⟨5, _, rfl, ?_⟩ | refine ⟨6, _, rfl, ?_⟩ | refine ⟨7, _, rfl, ?_⟩ | refine ⟨8, _, rfl, ?_⟩ | refine ⟨9, _, rfl, ?_⟩); refine ⟨_, (by first | exact shA rfl | exact shI rfl | exact shB rfl | exact shS rfl | exact shP rfl | exact shF rfl | exact shN rfl), _, siz_any2 rfl, (by exact rfl), (by exact rfl), (by exact rfl), ?_⟩; clear hS; intro _ hS; dsimp only [blit, List.set, List.cons_append, List.nil_append, Value.cells, List.toList_toArray] at hS)) | (refine wpx_loade hS 0 rfl _ _ rfl _ _ rfl _ rfl _ (row_any2 rfl) rfl _ (by dsimp only [cutL, List.drop, List.take]; first | done | exact rfl) _ (by simp only [Act.put, List.setIfInBounds_toArray, List.set_cons_zero, List.set_cons_succ]; first | done | exact rfl) ?_))
  have hZ := hS.get 0 rfl
  exact bodyPost_ret (v := .agg #[.int .i64 te, .int .u64 (th : Nat), .int .u64 (tn : Nat)]) (by simp [results, Try.results18, go_sem, hZ.cell 0 _ rfl, hZ.cell 1 _ rfl, hZ.cell 2 _ rfl]) rfl ⟨rfl, hS.bel⟩

set_option maxHeartbeats 1000000 in
theorem oDone_f (f : Fn) (a1 a2 : Array Value) (hB : BlkAt w P [.func (.func 61) #[] #[.pointer (some ⟨K, 0, none⟩)], .int .i64 sl, .int .u64 (s : Nat), .int .u64 (q : Nat), .pointer nt, .func f a1 a2, .int .i64 te, .int .u64 (th : Nat), .int .u64 (tn : Nat)]) : Calls Try.prog 17 #[.pointer (some ⟨P, 0, none⟩)] w fun r w' => r = .returned (.bool false) ∧ w' = w := by
  have h2 := hB.cell 5 _ rfl
  have hE := eqOFn
  have hE0 := eqONo
  clear hB
  go_enter Try.func17, Try.ntmps17
  go_wp2
  go_ret
  exact ⟨rfl, rfl⟩

set_option maxHeartbeats 1000000 in
theorem oDone_n (hB : BlkAt w P [.func (.func 61) #[] #[.pointer (some ⟨K, 0, none⟩)], .int .i64 sl, .int .u64 (s : Nat), .int .u64 (q : Nat), .pointer nt, .nilFunc, .int .i64 te, .int .u64 (th : Nat), .int .u64 (tn : Nat)]) : Calls Try.prog 17 #[.pointer (some ⟨P, 0, none⟩)] w fun r w' => r = .returned (.bool true) ∧ w' = w := by
  have h2 := hB.cell 5 _ rfl
  have hE := eqOFn
  have hE0 := eqONo
  clear hB
  go_enter Try.func17, Try.ntmps17
  go_wp2
  go_ret
  exact ⟨rfl, rfl⟩

set_option maxHeartbeats 1000000 in
theorem oEnd_x (hS : Sx bs w0 w l e) (k : Nat) (hk : l[k]? = some (P, [.func (.func 61) #[] #[.pointer (some ⟨K, 0, none⟩)], .int .i64 sl, .int .u64 (s : Nat), .int .u64 (q : Nat), .pointer nt, nx, .int .i64 te, .int .u64 (th : Nat), .int .u64 (tn : Nat)])) (te2 : Int) (th2 tn2 : Nat) : Calls Try.prog 79 #[.pointer (some ⟨P, 0, none⟩), .agg #[.int .i64 te2, .int .u64 (th2 : Nat), .int .u64 (tn2 : Nat)]] w fun r w' => r = .returned (.tuple #[]) ∧ Sx bs w0 w' (putL l [(k, P, [.func (.func 61) #[] #[.pointer (some ⟨K, 0, none⟩)], .int .i64 sl, .int .u64 (s : Nat), .int .u64 (q : Nat), .pointer nt, .nilFunc, .int .i64 te2, .int .u64 (th2 : Nat), .int .u64 (tn2 : Nat)])]) e := by
  have HS := hide hS
  have HK := hide hk
  have hL := hS.enter1 k hk
  clear hS hk
  have hS := hL
  clear hL
  go_enter Try.func79, Try.ntmps79
  go_wp2_with (first | (refine wpx_box hS rfl _ _ rfl _ rfl _ (by intro _; simp only [Act.put, List.setIfInBounds_toArray, List.set_cons_zero, List.set_cons_succ]; first | done | exact rfl) ?_; clear hS; intro _ _ hS; dsimp only [blit, List.set, List.cons_append, List.nil_append, Value.cells, List.toList_toArray] at hS) | (refine wpx_alloc hS rfl _ rfl _ (zer_any2 rfl) _ (by intro _; simp only [Act.put, List.setIfInBounds_toArray, List.set_cons_zero, List.set_cons_succ]; first | done | exact rfl) ?_; clear hS; intro _ _ hS; dsimp only [blit, List.set, List.cons_append, List.nil_append, Value.cells, List.toList_toArray] at hS) | (refine wpx_ld hS rfl _ _ rfl _ _ rfl ?_; (first | refine ⟨0, _, rfl, ?_⟩ | refine ⟨1, _, rfl, ?_⟩ | refine ⟨2, _, rfl, ?_⟩ | refine ⟨3, _, rfl, ?_⟩ | refine ⟨4, _, rfl, ?_⟩ | refine ⟨5, _, rfl, ?_⟩ | refine ⟨6, _, rfl, ?_⟩ | refine ⟨7, _, rfl, ?_⟩ | refine ⟨8, _, rfl, ?_⟩ | refine ⟨9, _, rfl, ?_⟩); first | refine .inl ⟨_, one_any2 rfl, rfl, _, (by simp only [Act.put, List.setIfInBounds_toArray, List.set_cons_zero, List.set_cons_succ]; first | done | exact rfl), ?_⟩ | refine .inr ⟨_, _, row_any2 rfl, rfl, (by dsimp only [cutL, List.drop, List.take]; first | done | exact rfl), _, (by simp only [Act.put, List.setIfInBounds_toArray, List.set_cons_zero, List.set_cons_succ]; first | done | exact rfl), ?_⟩) | (refine wpx_st hS rfl _ _ _ rfl rfl _ _ rfl ?_; (first | refine ⟨0, _, rfl, ?_⟩ | refine ⟨1, _, rfl, ?_⟩ | refine ⟨2, _, rfl, ?_⟩ | refine ⟨3, _, rfl, ?_⟩ | refine ⟨4, _, rfl, ?_⟩ | refine ⟨5, _, rfl, ?_⟩ | refine ⟨6, _, rfl, ?_⟩ | refine ⟨7, _, rfl, ?_⟩ | refine ⟨8, _, rfl, ?_⟩ | refine ⟨9, _, rfl, ?_⟩); refine ⟨_, (by first | exact shA rfl | exact shI rfl | exact shB rfl | exact shS rfl | exact shP rfl | exact shF rfl | exact shN rfl), _, siz_any2 rfl, (by exact rfl), (by exact rfl), (by exact rfl), ?_⟩; clear hS; intro _ hS; dsimp only [blit, List.set, List.cons_append, List.nil_append, Value.cells, List.toList_toArray] at hS))
  first | go_end0 | ((try simp only [Exit.inBlock, Exit.then]); refine bodyPost_ret (results_none rfl _ _ _) rfl ?_)
  exact ⟨rfl, (unhide HS).back1 k (unhide HK) hS⟩

set_option maxHeartbeats 2000000 in
theorem oAnother_f (hS : Sx bs w0 w l e) (i j k n : Nat) (hi : l[i]? = some (B, memL c C m)) (hj : l[j]? = some (C, rowW m.ws c.n)) (hk : l[k]? = some (P, [.func (.func 61) #[] #[.pointer (some ⟨K, 0, none⟩)], .int .i64 sl, .int .u64 (s : Nat), .int .u64 (q : Nat), .pointer nt, nx, .int .i64 te, .int .u64 (th : Nat), .int .u64 (tn : Nat)])) (hn : l[n]? = some (K, [.int .i64 sl])) (hij : i ≠ j) (hik : i ≠ k) (hjk : j ≠ k) (hin : i ≠ n) (hjn : j ≠ n) (hkn : k ≠ n) (hr : c.r = true) (hw : WordsOk c m) (h0 : 0 ≤ sl) (h1 : sl ≤ 20) (hs : c.s ≤ sl + 1) : Calls Try.prog 66 #[.pointer (some ⟨P, 0, none⟩), .pointer (some ⟨B, 0, none⟩)] w fun r w' => r = .returned (.tuple #[]) ∧ Sx bs w0 w' (putL l [(i, B, memL c C m), (j, C, rowW m.ws c.n), (k, P, [.func (.func 61) #[] #[.pointer (some ⟨K, 0, none⟩)], .int .i64 (sl + 1), .int .u64 (s : Nat), .int .u64 (q : Nat), .pointer nt, .nilFunc, .int .i64 6, .int .u64 (0 : Nat), .int .u64 (0 : Nat)]), (n, K, [.int .i64 (sl + 1)])]) e := by
  have HS := hide hS
  have HI := hide (And.intro hi (And.intro hj (And.intro hk hn)))
  have hL := hS.enter4 i j k n hi hj hk hn hij hik hjk hin hjn hkn
  have HR := hide hr
  have HW := hide hw
  have hf := field_cfgS
  have hd : decide (c.s ≤ sl + 1) = true := decide_eq_true hs
  clear hS hi hj hk hn hr hw
  have hS := hL
  clear hL
  go_enter Try.func66, Try.ntmps66
  go_wp2_with (first | (refine wpx_box hS rfl _ _ rfl _ rfl _ (by intro _; simp only [Act.put, List.setIfInBounds_toArray, List.set_cons_zero, List.set_cons_succ]; first | done | exact rfl) ?_; clear hS; intro _ _ hS; dsimp only [blit, List.set, List.cons_append, List.nil_append, Value.cells, List.toList_toArray] at hS) | (refine wpx_alloc hS rfl _ rfl _ (zer_any2 rfl) _ (by intro _; simp only [Act.put, List.setIfInBounds_toArray, List.set_cons_zero, List.set_cons_succ]; first | done | exact rfl) ?_; clear hS; intro _ _ hS; dsimp only [blit, List.set, List.cons_append, List.nil_append, Value.cells, List.toList_toArray] at hS) | (refine wpx_ld hS rfl _ _ rfl _ _ rfl ?_; (first | refine ⟨0, _, rfl, ?_⟩ | refine ⟨1, _, rfl, ?_⟩ | refine ⟨2, _, rfl, ?_⟩ | refine ⟨3, _, rfl, ?_⟩ | refine ⟨4, _, rfl, ?_⟩ | refine ⟨5, _, rfl, ?_⟩ | refine ⟨6, _, rfl, ?_⟩ | refine ⟨7, _, rfl, ?_⟩ | refine ⟨8, _, rfl, ?_⟩ | refine ⟨9, _, rfl, ?_⟩); first | refine .inl ⟨_, one_any2 rfl, rfl, _, (by simp only [Act.put, List.setIfInBounds_toArray, List.set_cons_zero, List.set_cons_succ]; first | done | exact rfl), ?_⟩ | refine .inr ⟨_, _, row_any2 rfl, rfl, (by dsimp only [cutL, List.drop, List.take]; first | done | exact rfl), _, (by simp only [Act.put, List.setIfInBounds_toArray, List.set_cons_zero, List.set_cons_succ]; first | done | exact rfl), ?_⟩) | (refine wpx_st hS rfl _ _ _ rfl rfl _ _ rfl ?_; (first | refine ⟨0, _, rfl, ?_⟩ | refine ⟨1, _, rfl, ?_⟩ | refine ⟨2, _, rfl, ?_⟩ | refine ⟨3, _, rfl, ?_⟩ | refine ⟨4, _, rfl, ?_⟩ | refine ⟨5, _, rfl, ?_⟩ | refine ⟨6, _, rfl, ?_⟩ | refine ⟨7, _, rfl, ?_⟩ | refine ⟨8, _, rfl, ?_⟩ | refine ⟨9, _, rfl, ?_⟩); refine ⟨_, (by first | exact shA rfl | exact shI rfl | exact shB rfl | exact shS rfl | exact shP rfl | exact shF rfl | exact shN rfl), _, siz_any2 rfl, (by exact rfl), (by exact rfl), (by exact rfl), ?_⟩; clear hS; intro _ hS; dsimp only [blit, List.set, List.cons_append, List.nil_append, Value.cells, List.toList_toArray] at hS))
  refine (oNext_x hS 3 sl rfl (by omega) (by omega)).mono ?_
  rintro r u ⟨rfl, hSn⟩
  clear hS
  have hS := hSn
  clear hSn
  dsimp only [putL, List.set, List.cons_append, List.nil_append] at hS
  go_wp2_with (first | (refine wpx_box hS rfl _ _ rfl _ rfl _ (by intro _; simp only [Act.put, List.setIfInBounds_toArray, List.set_cons_zero, List.set_cons_succ]; first | done | exact rfl) ?_; clear hS; intro _ _ hS; dsimp only [blit, List.set, List.cons_append, List.nil_append, Value.cells, List.toList_toArray] at hS) | (refine wpx_alloc hS rfl _ rfl _ (zer_any2 rfl) _ (by intro _; simp only [Act.put, List.setIfInBounds_toArray, List.set_cons_zero, List.set_cons_succ]; first | done | exact rfl) ?_; clear hS; intro _ _ hS; dsimp only [blit, List.set, List.cons_append, List.nil_append, Value.cells, List.toList_toArray] at hS) | (refine wpx_ld hS rfl _ _ rfl _ _ rfl ?_; (first | refine ⟨0, _, rfl, ?_⟩ | refine ⟨1, _, rfl, ?_⟩ | refine ⟨2, _, rfl, ?_⟩ | refine ⟨3, _, rfl, ?_⟩ | refine ⟨4, _, rfl, ?_⟩ | refine ⟨5, _, rfl, ?_⟩ | refine ⟨6, _, rfl, ?_⟩ | refine ⟨7, _, rfl, ?_⟩ | refine ⟨8, _, rfl, ?_⟩ | refine ⟨9, _, rfl, ?_⟩); first | refine .inl ⟨_, one_any2 rfl, rfl, _, (by simp only [Act.put, List.setIfInBounds_toArray, List.set_cons_zero, List.set_cons_succ]; first | done | exact rfl), ?_⟩ | refine .inr ⟨_, _, row_any2 rfl, rfl, (by dsimp only [cutL, List.drop, List.take]; first | done | exact rfl), _, (by simp only [Act.put, List.setIfInBounds_toArray, List.set_cons_zero, List.set_cons_succ]; first | done | exact rfl), ?_⟩) | (refine wpx_st hS rfl _ _ _ rfl rfl _ _ rfl ?_; (first | refine ⟨0, _, rfl, ?_⟩ | refine ⟨1, _, rfl, ?_⟩ | refine ⟨2, _, rfl, ?_⟩ | refine ⟨3, _, rfl, ?_⟩ | refine ⟨4, _, rfl, ?_⟩ | refine ⟨5, _, rfl, ?_⟩ | refine ⟨6, _, rfl, ?_⟩ | refine ⟨7, _, rfl, ?_⟩ | refine ⟨8, _, rfl, ?_⟩ | refine ⟨9, _, rfl, ?_⟩); refine ⟨_, (by first | exact shA rfl | exact shI rfl | exact shB rfl | exact shS rfl | exact shP rfl | exact shF rfl | exact shN rfl), _, siz_any2 rfl, (by exact rfl), (by exact rfl), (by exact rfl), ?_⟩; clear hS; intro _ hS; dsimp only [blit, List.set, List.cons_append, List.nil_append, Value.cells, List.toList_toArray] at hS))
  obtain ⟨u, rfl⟩ := nameW hS
  have HCF := hide (fun d os => Calls.regrown_of (config9_x (hS.call (below_regrown u d os)) 0 1 rfl rfl (by decide) (unhide HR) (unhide HW)))
  have kA := cell_regrown ((hS.get 2 rfl).cell 1 _ rfl)
  have HSQ := hide hS
  clear hS
  refine wp_region_quiet_below (by kernel_rfl) (by kernel_rfl) ?_
  repeat (go_big_quiet_step (first | (go_at_call 64; exact (unhide HCF) _ _)))
  refine wpQuiet_nil ?_
  intro _ hw'
  obtain ⟨⟨dq, osq⟩, hw''⟩ := hw'
  subst hw''
  have hS := (unhide HSQ).call (below_regrown u dq osq)
  clear HSQ kA HCF
  generalize grow (redrawn u dq) osq = u9 at *
  go_wp2_with (first | (refine wpx_box hS rfl _ _ rfl _ rfl _ (by intro _; simp only [Act.put, List.setIfInBounds_toArray, List.set_cons_zero, List.set_cons_succ]; first | done | exact rfl) ?_; clear hS; intro _ _ hS; dsimp only [blit, List.set, List.cons_append, List.nil_append, Value.cells, List.toList_toArray] at hS) | (refine wpx_alloc hS rfl _ rfl _ (zer_any2 rfl) _ (by intro _; simp only [Act.put, List.setIfInBounds_toArray, List.set_cons_zero, List.set_cons_succ]; first | done | exact rfl) ?_; clear hS; intro _ _ hS; dsimp only [blit, List.set, List.cons_append, List.nil_append, Value.cells, List.toList_toArray] at hS) | (refine wpx_ld hS rfl _ _ rfl _ _ rfl ?_; (first | refine ⟨0, _, rfl, ?_⟩ | refine ⟨1, _, rfl, ?_⟩ | refine ⟨2, _, rfl, ?_⟩ | refine ⟨3, _, rfl, ?_⟩ | refine ⟨4, _, rfl, ?_⟩ | refine ⟨5, _, rfl, ?_⟩ | refine ⟨6, _, rfl, ?_⟩ | refine ⟨7, _, rfl, ?_⟩ | refine ⟨8, _, rfl, ?_⟩ | refine ⟨9, _, rfl, ?_⟩); first | refine .inl ⟨_, one_any2 rfl, rfl, _, (by simp only [Act.put, List.setIfInBounds_toArray, List.set_cons_zero, List.set_cons_succ]; first | done | exact rfl), ?_⟩ | refine .inr ⟨_, _, row_any2 rfl, rfl, (by dsimp only [cutL, List.drop, List.take]; first | done | exact rfl), _, (by simp only [Act.put, List.setIfInBounds_toArray, List.set_cons_zero, List.set_cons_succ]; first | done | exact rfl), ?_⟩) | (refine wpx_st hS rfl _ _ _ rfl rfl _ _ rfl ?_; (first | refine ⟨0, _, rfl, ?_⟩ | refine ⟨1, _, rfl, ?_⟩ | refine ⟨2, _, rfl, ?_⟩ | refine ⟨3, _, rfl, ?_⟩ | refine ⟨4, _, rfl, ?_⟩ | refine ⟨5, _, rfl, ?_⟩ | refine ⟨6, _, rfl, ?_⟩ | refine ⟨7, _, rfl, ?_⟩ | refine ⟨8, _, rfl, ?_⟩ | refine ⟨9, _, rfl, ?_⟩); refine ⟨_, (by first | exact shA rfl | exact shI rfl | exact shB rfl | exact shS rfl | exact shP rfl | exact shF rfl | exact shN rfl), _, siz_any2 rfl, (by exact rfl), (by exact rfl), (by exact rfl), ?_⟩; clear hS; intro _ hS; dsimp only [blit, List.set, List.cons_append, List.nil_append, Value.cells, List.toList_toArray] at hS))
  refine (oEnd_x hS 2 rfl 6 0 0).mono ?_
  rintro r u ⟨rfl, hSn⟩
  clear hS
  have hS := hSn
  clear hSn
  dsimp only [putL, List.set, List.cons_append, List.nil_append] at hS
  go_wp2_with fail
  first | go_end0 | ((try simp only [Exit.inBlock, Exit.then]); refine bodyPost_ret (results_none rfl _ _ _) rfl ?_)
  exact ⟨rfl, (unhide HS).back4 i j k n (unhide HI).1 (unhide HI).2.1 (unhide HI).2.2.1 (unhide HI).2.2.2 hS⟩

set_option maxHeartbeats 2000000 in
theorem oAnother_n (hS : Sx bs w0 w l e) (i j k n : Nat) (hi : l[i]? = some (B, memL c C m)) (hj : l[j]? = some (C, rowW m.ws c.n)) (hk : l[k]? = some (P, [.func (.func 61) #[] #[.pointer (some ⟨K, 0, none⟩)], .int .i64 sl, .int .u64 (s : Nat), .int .u64 (q : Nat), .pointer nt, nx, .int .i64 te, .int .u64 (th : Nat), .int .u64 (tn : Nat)])) (hn : l[n]? = some (K, [.int .i64 sl])) (hij : i ≠ j) (hik : i ≠ k) (hjk : j ≠ k) (hin : i ≠ n) (hjn : j ≠ n) (hkn : k ≠ n) (hr : c.r = true) (hw : WordsOk c m) (h0 : 0 ≤ sl) (h1 : sl ≤ 20) (hs : ¬ c.s ≤ sl + 1) : Calls Try.prog 66 #[.pointer (some ⟨P, 0, none⟩), .pointer (some ⟨B, 0, none⟩)] w fun r w' => r = .returned (.tuple #[]) ∧ Sx bs w0 w' (putL l [(i, B, memL c C m), (j, C, rowW m.ws c.n), (k, P, [.func (.func 61) #[] #[.pointer (some ⟨K, 0, none⟩)], .int .i64 (sl + 1), .int .u64 (s : Nat), .int .u64 (q : Nat), .pointer nt, .func (.func 37) #[.pointer (some ⟨P, 0, none⟩)] #[], .int .i64 te, .int .u64 (th : Nat), .int .u64 (tn : Nat)]), (n, K, [.int .i64 (sl + 1)])]) e := by
  have HS := hide hS
  have HI := hide (And.intro hi (And.intro hj (And.intro hk hn)))
  have hL := hS.enter4 i j k n hi hj hk hn hij hik hjk hin hjn hkn
  have HR := hide hr
  have HW := hide hw
  have hf := field_cfgS
  have hd : decide (c.s ≤ sl + 1) = false := decide_eq_false hs
  clear hS hi hj hk hn hr hw
  have hS := hL
  clear hL
  go_enter Try.func66, Try.ntmps66
  go_wp2_with (first | (refine wpx_box hS rfl _ _ rfl _ rfl _ (by intro _; simp only [Act.put, List.setIfInBounds_toArray, List.set_cons_zero, List.set_cons_succ]; first | done | exact rfl) ?_; clear hS; intro _ _ hS; dsimp only [blit, List.set, List.cons_append, List.nil_append, Value.cells, List.toList_toArray] at hS) | (refine wpx_alloc hS rfl _ rfl _ (zer_any2 rfl) _ (by intro _; simp only [Act.put, List.setIfInBounds_toArray, List.set_cons_zero, List.set_cons_succ]; first | done | exact rfl) ?_; clear hS; intro _ _ hS; dsimp only [blit, List.set, List.cons_append, List.nil_append, Value.cells, List.toList_toArray] at hS) | (refine wpx_ld hS rfl _ _ rfl _ _ rfl ?_; (first | refine ⟨0, _, rfl, ?_⟩ | refine ⟨1, _, rfl, ?_⟩ | refine ⟨2, _, rfl, ?_⟩ | refine ⟨3, _, rfl, ?_⟩ | refine ⟨4, _, rfl, ?_⟩ | refine ⟨5, _, rfl, ?_⟩ | refine ⟨6, _, rfl, ?_⟩ | refine ⟨7, _, rfl, ?_⟩ | refine ⟨8, _, rfl, ?_⟩ | refine ⟨9, _, rfl, ?_⟩); first | refine .inl ⟨_, one_any2 rfl, rfl, _, (by simp only [Act.put, List.setIfInBounds_toArray, List.set_cons_zero, List.set_cons_succ]; first | done | exact rfl), ?_⟩ | refine .inr ⟨_, _, row_any2 rfl, rfl, (by dsimp only [cutL, List.drop, List.take]; first | done | exact rfl), _, (by simp only [Act.put, List.setIfInBounds_toArray, List.set_cons_zero, List.set_cons_succ]; first | done | exact rfl), ?_⟩) | (refine wpx_st hS rfl _ _ _ rfl rfl _ _ rfl ?_; (first | refine ⟨0, _, rfl, ?_⟩ | refine ⟨1, _, rfl, ?_⟩ | refine ⟨2, _, rfl, ?_⟩ | refine ⟨3, _, rfl, ?_⟩ | refine ⟨4, _, rfl, ?_⟩ | refine ⟨5, _, rfl, ?_⟩ | refine ⟨6, _, rfl, ?_⟩ | refine ⟨7, _, rfl, ?_⟩ | refine ⟨8, _, rfl, ?_⟩ | refine ⟨9, _, rfl, ?_⟩); refine ⟨_, (by first | exact shA rfl | exact shI rfl | exact shB rfl | exact shS rfl | exact shP rfl | exact shF rfl | exact shN rfl), _, siz_any2 rfl, (by exact rfl), (by exact rfl), (by exact rfl), ?_⟩; clear hS; intro _ hS; dsimp only [blit, List.set, List.cons_append, List.nil_append, Value.cells, List.toList_toArray] at hS))
  refine (oNext_x hS 3 sl rfl (by omega) (by omega)).mono ?_
  rintro r u ⟨rfl, hSn⟩
  clear hS
  have hS := hSn
  clear hSn
  dsimp only [putL, List.set, List.cons_append, List.nil_append] at hS
  go_wp2_with (first | (refine wpx_box hS rfl _ _ rfl _ rfl _ (by intro _; simp only [Act.put, List.setIfInBounds_toArray, List.set_cons_zero, List.set_cons_succ]; first | done | exact rfl) ?_; clear hS; intro _ _ hS; dsimp only [blit, List.set, List.cons_append, List.nil_append, Value.cells, List.toList_toArray] at hS) | (refine wpx_alloc hS rfl _ rfl _ (zer_any2 rfl) _ (by intro _; simp only [Act.put, List.setIfInBounds_toArray, List.set_cons_zero, List.set_cons_succ]; first | done | exact rfl) ?_; clear hS; intro _ _ hS; dsimp only [blit, List.set, List.cons_append, List.nil_append, Value.cells, List.toList_toArray] at hS) | (refine wpx_ld hS rfl _ _ rfl _ _ rfl ?_; (first | refine ⟨0, _, rfl, ?_⟩ | refine ⟨1, _, rfl, ?_⟩ | refine ⟨2, _, rfl, ?_⟩ | refine ⟨3, _, rfl, ?_⟩ | refine ⟨4, _, rfl, ?_⟩ | refine ⟨5, _, rfl, ?_⟩ | refine ⟨6, _, rfl, ?_⟩ | refine ⟨7, _, rfl, ?_⟩ | refine ⟨8, _, rfl, ?_⟩ | refine ⟨9, _, rfl, ?_⟩); first | refine .inl ⟨_, one_any2 rfl, rfl, _, (by simp only [Act.put, List.setIfInBounds_toArray, List.set_cons_zero, List.set_cons_succ]; first | done | exact rfl), ?_⟩ | refine .inr ⟨_, _, row_any2 rfl, rfl, (by dsimp only [cutL, List.drop, List.take]; first | done | exact rfl), _, (by simp only [Act.put, List.setIfInBounds_toArray, List.set_cons_zero, List.set_cons_succ]; first | done | exact rfl), ?_⟩) | (refine wpx_st hS rfl _ _ _ rfl rfl _ _ rfl ?_; (first | refine ⟨0, _, rfl, ?_⟩ | refine ⟨1, _, rfl, ?_⟩ | refine ⟨2, _, rfl, ?_⟩ | refine ⟨3, _, rfl, ?_⟩ | refine ⟨4, _, rfl, ?_⟩ | refine ⟨5, _, rfl, ?_⟩ | refine ⟨6, _, rfl, ?_⟩ | refine ⟨7, _, rfl, ?_⟩ | refine ⟨8, _, rfl, ?_⟩ | refine ⟨9, _, rfl, ?_⟩); refine ⟨_, (by first | exact shA rfl | exact shI rfl | exact shB rfl | exact shS rfl | exact shP rfl | exact shF rfl | exact shN rfl), _, siz_any2 rfl, (by exact rfl), (by exact rfl), (by exact rfl), ?_⟩; clear hS; intro _ hS; dsimp only [blit, List.set, List.cons_append, List.nil_append, Value.cells, List.toList_toArray] at hS))
  obtain ⟨u, rfl⟩ := nameW hS
  have HCF := hide (fun d os => Calls.regrown_of (config9_x (hS.call (below_regrown u d os)) 0 1 rfl rfl (by decide) (unhide HR) (unhide HW)))
  have kA := cell_regrown ((hS.get 2 rfl).cell 1 _ rfl)
  have HSQ := hide hS
  clear hS
  refine wp_region_quiet_below (by kernel_rfl) (by kernel_rfl) ?_
  repeat (go_big_quiet_step (first | (go_at_call 64; exact (unhide HCF) _ _)))
  refine wpQuiet_nil ?_
  intro _ hw'
  obtain ⟨⟨dq, osq⟩, hw''⟩ := hw'
  subst hw''
  have hS := (unhide HSQ).call (below_regrown u dq osq)
  clear HSQ kA HCF
  generalize grow (redrawn u dq) osq = u9 at *
  go_wp2_with (first | (refine wpx_box hS rfl _ _ rfl _ rfl _ (by intro _; simp only [Act.put, List.setIfInBounds_toArray, List.set_cons_zero, List.set_cons_succ]; first | done | exact rfl) ?_; clear hS; intro _ _ hS; dsimp only [blit, List.set, List.cons_append, List.nil_append, Value.cells, List.toList_toArray] at hS) | (refine wpx_alloc hS rfl _ rfl _ (zer_any2 rfl) _ (by intro _; simp only [Act.put, List.setIfInBounds_toArray, List.set_cons_zero, List.set_cons_succ]; first | done | exact rfl) ?_; clear hS; intro _ _ hS; dsimp only [blit, List.set, List.cons_append, List.nil_append, Value.cells, List.toList_toArray] at hS) | (refine wpx_ld hS rfl _ _ rfl _ _ rfl ?_; (first | refine ⟨0, _, rfl, ?_⟩ | refine ⟨1, _, rfl, ?_⟩ | refine ⟨2, _, rfl, ?_⟩ | refine ⟨3, _, rfl, ?_⟩ | refine ⟨4, _, rfl, ?_⟩ | refine ⟨5, _, rfl, ?_⟩ | refine ⟨6, _, rfl, ?_⟩ | refine ⟨7, _, rfl, ?_⟩ | refine ⟨8, _, rfl, ?_⟩ | refine ⟨9, _, rfl, ?_⟩); first | refine .inl ⟨_, one_any2 rfl, rfl, _, (by simp only [Act.put, List.setIfInBounds_toArray, List.set_cons_zero, List.set_cons_succ]; first | done | exact rfl), ?_⟩ | refine .inr ⟨_, _, row_any2 rfl, rfl, (by dsimp only [cutL, List.drop, List.take]; first | done | exact rfl), _, (by simp only [Act.put, List.setIfInBounds_toArray, List.set_cons_zero, List.set_cons_succ]; first | done | exact rfl), ?_⟩) | (refine wpx_st hS rfl _ _ _ rfl rfl _ _ rfl ?_; (first | refine ⟨0, _, rfl, ?_⟩ | refine ⟨1, _, rfl, ?_⟩ | refine ⟨2, _, rfl, ?_⟩ | refine ⟨3, _, rfl, ?_⟩ | refine ⟨4, _, rfl, ?_⟩ | refine ⟨5, _, rfl, ?_⟩ | refine ⟨6, _, rfl, ?_⟩ | refine ⟨7, _, rfl, ?_⟩ | refine ⟨8, _, rfl, ?_⟩ | refine ⟨9, _, rfl, ?_⟩); refine ⟨_, (by first | exact shA rfl | exact shI rfl | exact shB rfl | exact shS rfl | exact shP rfl | exact shF rfl | exact shN rfl), _, siz_any2 rfl, (by exact rfl), (by exact rfl), (by exact rfl), ?_⟩; clear hS; intro _ hS; dsimp only [blit, List.set, List.cons_append, List.nil_append, Value.cells, List.toList_toArray] at hS))
  first | go_end0 | ((try simp only [Exit.inBlock, Exit.then]); refine bodyPost_ret (results_none rfl _ _ _) rfl ?_)
  exact ⟨rfl, (unhide HS).back4 i j k n (unhide HI).1 (unhide HI).2.1 (unhide HI).2.2.1 (unhide HI).2.2.2 hS⟩

end

end Go.Proofs.Ytkiaogbddfjkkaa
