/-
  The walks of layer 4's functions, and of the document's answers for them.
-/
import Derived.Test.YtahddfnkodmnmaaTicketA
import Derived.Deep.QuietTactic
import Derived.BigQuiet
namespace Go.Proofs.Ytahddfnkodmnmaa
open Go.RowKit Go.Sort

theorem index_parts0 (a0 a1 : Value) (w : World) : Sem.run Try.prog (Instr.index 37 (.agg #[a0, a1]) (.int .i64 0)) w = .ok a0 w := by
  simp [Instr.index, go_sem]

theorem index_parts1 (a0 a1 : Value) (w : World) : Sem.run Try.prog (Instr.index 37 (.agg #[a0, a1]) (.int .i64 1)) w = .ok a1 w := by
  simp [Instr.index, go_sem]

attribute [local go_sem] index_row0 index_row1 index_parts0 index_parts1

theorem ret_twoI {a b : Int} {c : Bool} (h : a = b) : Ending.returned (.tuple #[.int .i64 a, .bool c]) = .returned (.tuple #[.int .i64 b, .bool c]) := by rw [h]

theorem ret_three {a b a' b' : Int} {c : Bool} (h : a = a') (h' : b = b') : Ending.returned (.tuple #[.int .i64 a, .int .i64 b, .bool c]) = .returned (.tuple #[.int .i64 a', .int .i64 b', .bool c]) := by rw [h, h']

set_option maxHeartbeats 400000 in
theorem kGen_any (x : Nat) (w : World) (hx : Um.Word x) :
    Calls Try.prog 13 #[.int .u64 x] w fun e w' => e = .returned (.int .i64 (Um.tgN x)) ∧ Below w.heap.size w w' := by
  go_enter Try.func13, Try.ntmps13
  go_wp2_with fail
  refine (apart_any _ _ hx).mono ?_
  rintro e w1 ⟨rfl, hb1⟩
  go_wp2
  go_ret
  exact ⟨rfl, hb1⟩

set_option maxHeartbeats 1000000 in
theorem kSlot_any (x : Nat) (w : World) (hx : Um.Word x) :
    Calls Try.prog 11 #[.int .u64 x] w fun e w' => e = .returned (.tuple #[.int .i64 (Um.svN x), .bool (Um.sok x)]) ∧ Below w.heap.size w w' := by
  have hneq := neqParts (Um.near_sok (x := x))
  cases hok : Um.sok x
  · rw [Um.sv_no hok]
    rw [hok] at hneq
    clear hok
    go_enter Try.func11, Try.ntmps11
    go_wp2_with fail
    refine (apart_any _ _ hx).mono ?_
    rintro e w1 ⟨rfl, hb1⟩
    go_wp2_with fail
    generalize hW : w1.alloc _ = W
    have hk0 : ∀ d os, (grow (redrawn W d) os).cell? ⟨w1.heap.size, 0, none⟩ = some (.int .i64 (Um.tsN x)) := fun d os => cell_regrown (by subst hW; go_simp) d os
    have hk1 : ∀ d os, (grow (redrawn W d) os).cell? ⟨w1.heap.size, 1, none⟩ = some (.int .i64 0) := fun d os => cell_regrown (by subst hW; go_simp) d os
    have hB : Below w.heap.size w W := by rw [← hW]; exact hb1.alloc hb1.size _
    clear hW
    refine wp_region_quiet_below (by kernel_rfl) (by kernel_rfl) ?_
    repeat (go_big_quiet_step (first | (go_at_call 18; exact Calls.regrown_of (near_any _ _ _))))
    refine wpQuiet_nil ?_
    intro _ hw'
    obtain ⟨⟨dq, osq⟩, hw''⟩ := hw'
    subst hw''
    go_wp2
    go_ret2
    exact ⟨rfl, hB.trans ((below_regrown W dq osq).mono hB.size)⟩
  · rw [Um.sv_yes hok]
    rw [hok] at hneq
    clear hok
    go_enter Try.func11, Try.ntmps11
    go_wp2_with fail
    refine (apart_any _ _ hx).mono ?_
    rintro e w1 ⟨rfl, hb1⟩
    go_wp2_with fail
    generalize hW : w1.alloc _ = W
    have hk0 : ∀ d os, (grow (redrawn W d) os).cell? ⟨w1.heap.size, 0, none⟩ = some (.int .i64 (Um.tsN x)) := fun d os => cell_regrown (by subst hW; go_simp) d os
    have hk1 : ∀ d os, (grow (redrawn W d) os).cell? ⟨w1.heap.size, 1, none⟩ = some (.int .i64 0) := fun d os => cell_regrown (by subst hW; go_simp) d os
    have hB : Below w.heap.size w W := by rw [← hW]; exact hb1.alloc hb1.size _
    clear hW
    refine wp_region_quiet_below (by kernel_rfl) (by kernel_rfl) ?_
    repeat (go_big_quiet_step (first | (go_at_call 18; exact Calls.regrown_of (near_any _ _ _))))
    refine wpQuiet_nil ?_
    intro _ hw'
    obtain ⟨⟨dq, osq⟩, hw''⟩ := hw'
    subst hw''
    go_wp2
    go_ret2
    exact ⟨rfl, hB.trans ((below_regrown W dq osq).mono hB.size)⟩

set_option maxHeartbeats 1000000 in
theorem kOf_any (x : Nat) (n : Int) (w : World) (hx : Um.Word x) :
    Calls Try.prog 16 #[.int .u64 x, .int .i64 n] w fun e w' => e = .returned (.tuple #[.int .i64 (Um.osN x n), .int .i64 (Um.ogN x n), .bool (Um.ook x n)]) ∧ Below w.heap.size w w' := by
  have hneq := neqParts (Um.near_ook (x := x))
  by_cases h1 : 0 ≤ Um.tsN x ∧ Um.tsN x ≤ 11 ∧ Um.tgN x ≤ 1073741823
  · rw [decide_eq_true h1] at hneq
    by_cases h2 : Um.tsN x < n
    · have hok : Um.ook x n = true := Um.ook_iff.2 ⟨h1.1, h1.2.1, h1.2.2, h2⟩
      rw [Um.os_yes hok, Um.og_yes hok, hok]
      clear hok h1
      go_enter Try.func16, Try.ntmps16
      go_wp2_with fail
      refine (apart_any _ _ hx).mono ?_
      rintro e w1 ⟨rfl, hb1⟩
      go_wp2_with fail
      generalize hW : w1.alloc _ = W
      have hk0 : ∀ d os, (grow (redrawn W d) os).cell? ⟨w1.heap.size, 0, none⟩ = some (.int .i64 (Um.tsN x)) := fun d os => cell_regrown (by subst hW; go_simp) d os
      have hk1 : ∀ d os, (grow (redrawn W d) os).cell? ⟨w1.heap.size, 1, none⟩ = some (.int .i64 (Um.tgN x)) := fun d os => cell_regrown (by subst hW; go_simp) d os
      have hB : Below w.heap.size w W := by rw [← hW]; exact hb1.alloc hb1.size _
      clear hW
      refine wp_region_quiet_below (by kernel_rfl) (by kernel_rfl) ?_
      repeat (go_big_quiet_step (first | (go_at_call 18; exact Calls.regrown_of (near_any _ _ _))))
      refine wpQuiet_nil ?_
      intro _ hw'
      obtain ⟨⟨dq, osq⟩, hw''⟩ := hw'
      subst hw''
      have hB2 := hB.trans ((below_regrown W dq osq).mono hB.size)
      have hk0' := hk0 dq osq
      have hk1' := hk1 dq osq
      clear hk0 hk1
      generalize grow (redrawn W dq) osq = W2 at *
      go_wp2_with fail
      go_quiet (fail)
      go_wp2
      refine bodyPost_ret (v := .tuple #[.int .i64 (Um.tsN x), .int .i64 (Um.tgN x), .bool true]) (by simp [results, Try.results16, go_sem]) rfl ⟨rfl, ?_⟩
      exact below_drewN hB2 _
    · have hok : Um.ook x n = false := Um.ook_no.2 (by omega)
      rw [Um.os_no hok, Um.og_no hok, hok]
      have h3 : n ≤ Um.tsN x := by omega
      clear hok h1 h2
      go_enter Try.func16, Try.ntmps16
      go_wp2_with fail
      refine (apart_any _ _ hx).mono ?_
      rintro e w1 ⟨rfl, hb1⟩
      go_wp2_with fail
      generalize hW : w1.alloc _ = W
      have hk0 : ∀ d os, (grow (redrawn W d) os).cell? ⟨w1.heap.size, 0, none⟩ = some (.int .i64 (Um.tsN x)) := fun d os => cell_regrown (by subst hW; go_simp) d os
      have hk1 : ∀ d os, (grow (redrawn W d) os).cell? ⟨w1.heap.size, 1, none⟩ = some (.int .i64 (Um.tgN x)) := fun d os => cell_regrown (by subst hW; go_simp) d os
      have hB : Below w.heap.size w W := by rw [← hW]; exact hb1.alloc hb1.size _
      clear hW
      refine wp_region_quiet_below (by kernel_rfl) (by kernel_rfl) ?_
      repeat (go_big_quiet_step (first | (go_at_call 18; exact Calls.regrown_of (near_any _ _ _))))
      refine wpQuiet_nil ?_
      intro _ hw'
      obtain ⟨⟨dq, osq⟩, hw''⟩ := hw'
      subst hw''
      have hB2 := hB.trans ((below_regrown W dq osq).mono hB.size)
      have hk0' := hk0 dq osq
      have hk1' := hk1 dq osq
      clear hk0 hk1
      generalize grow (redrawn W dq) osq = W2 at *
      go_wp2
      refine bodyPost_ret (v := .tuple #[.int .i64 0, .int .i64 0, .bool false]) (by simp [results, Try.results16, go_sem]) rfl ⟨rfl, ?_⟩
      exact hB2
  · have hok : Um.ook x n = false := Um.ook_no.2 (by omega)
    rw [Um.os_no hok, Um.og_no hok, hok]
    rw [decide_eq_false h1] at hneq
    clear hok h1
    go_enter Try.func16, Try.ntmps16
    go_wp2_with fail
    refine (apart_any _ _ hx).mono ?_
    rintro e w1 ⟨rfl, hb1⟩
    go_wp2_with fail
    generalize hW : w1.alloc _ = W
    have hk0 : ∀ d os, (grow (redrawn W d) os).cell? ⟨w1.heap.size, 0, none⟩ = some (.int .i64 (Um.tsN x)) := fun d os => cell_regrown (by subst hW; go_simp) d os
    have hk1 : ∀ d os, (grow (redrawn W d) os).cell? ⟨w1.heap.size, 1, none⟩ = some (.int .i64 (Um.tgN x)) := fun d os => cell_regrown (by subst hW; go_simp) d os
    have hB : Below w.heap.size w W := by rw [← hW]; exact hb1.alloc hb1.size _
    clear hW
    refine wp_region_quiet_below (by kernel_rfl) (by kernel_rfl) ?_
    repeat (go_big_quiet_step (first | (go_at_call 18; exact Calls.regrown_of (near_any _ _ _))))
    refine wpQuiet_nil ?_
    intro _ hw'
    obtain ⟨⟨dq, osq⟩, hw''⟩ := hw'
    subst hw''
    have hB2 := hB.trans ((below_regrown W dq osq).mono hB.size)
    have hk0' := hk0 dq osq
    have hk1' := hk1 dq osq
    clear hk0 hk1
    generalize grow (redrawn W dq) osq = W2 at *
    go_wp2
    refine bodyPost_ret (v := .tuple #[.int .i64 0, .int .i64 0, .bool false]) (by simp [results, Try.results16, go_sem]) rfl ⟨rfl, ?_⟩
    exact hB2

set_option maxHeartbeats 400000 in
theorem krSlot_any (x : Nat) (w : World) (hx : Um.Word x) :
    Calls Try.prog 14 #[.int .u64 x] w fun e w' => e = .returned (.tuple #[.int .i64 (Um.svN x), .bool (Um.sok x)]) ∧ w' = w := by
  unfold Um.Word at hx
  cases hok : Um.sok x
  · rw [Um.sv_no hok]
    have hno := Um.sok_no.1 hok
    unfold Um.tsN at hno
    have HN := hide hno
    clear hok hno
    go_enter Try.func14, Try.ntmps14
    go_wp2
    all_goals first
      | (go_ret2; exact ⟨rfl, rfl⟩)
      | (exfalso; have h := unhide HN; omega)
  · rw [Um.sv_yes hok]
    have hyes := Um.sok_iff.1 hok
    unfold Um.tsN at hyes
    have HN := hide hyes
    clear hok hyes
    go_enter Try.func14, Try.ntmps14
    go_wp2
    all_goals first
      | (exfalso; have h := unhide HN; omega)
      | (go_ret2; exact ⟨ret_twoI (by unfold Um.tsN; omega), rfl⟩)

set_option maxHeartbeats 400000 in
theorem krGen_any (x : Nat) (w : World) (hx : Um.Word x) :
    Calls Try.prog 15 #[.int .u64 x] w fun e w' => e = .returned (.int .i64 (Um.tgN x)) ∧ w' = w := by
  unfold Um.Word at hx
  go_enter Try.func15, Try.ntmps15
  go_wp2
  all_goals go_ret
  all_goals refine ⟨ret_i64 ?_, rfl⟩
  all_goals unfold Um.tgN
  all_goals omega

set_option maxHeartbeats 400000 in
theorem krMake_any (s g : Int) (w : World) :
    Calls Try.prog 10 #[.int .i64 s, .int .i64 g] w fun e w' => e = .returned (.tuple #[.int .u64 (Um.mkN s g : Nat), .bool (Um.mok s g)]) ∧ w' = w := by
  cases hok : Um.mok s g
  · rw [Um.mk_no hok]
    have hno := Um.mok_no.1 hok
    have HN := hide hno
    clear hok hno
    go_enter Try.func10, Try.ntmps10
    go_wp2
    all_goals first
      | (go_ret2; exact ⟨rfl, rfl⟩)
      | (exfalso; have h := unhide HN; omega)
  · have hp := Um.mk_yes hok
    have HP := hide hp
    obtain ⟨h1, h2, h3, h4⟩ := Um.mok_iff.1 hok
    clear hp hok
    go_enter Try.func10, Try.ntmps10
    go_wp2
    go_ret2
    rw [unhide HP]
    exact ⟨ret_two (by omega), rfl⟩

set_option maxHeartbeats 1000000 in
theorem krOf_any (x : Nat) (n : Int) (w : World) (hx : Um.Word x) :
    Calls Try.prog 17 #[.int .u64 x, .int .i64 n] w fun e w' => e = .returned (.tuple #[.int .i64 (Um.osN x n), .int .i64 (Um.ogN x n), .bool (Um.ook x n)]) ∧ w' = w := by
  have hb := Um.tg_bd x
  cases hs : Um.sok x
  · have hok : Um.ook x n = false := Um.ook_no.2 (by have := Um.sok_no.1 hs; omega)
    rw [Um.os_no hok, Um.og_no hok, hok]
    have hc := krSlot_any x w hx
    rw [hs] at hc
    clear hok hs
    go_enter Try.func17, Try.ntmps17
    go_wp2_with fail
    refine hc.mono ?_
    rintro e w1 ⟨rfl, rfl⟩
    go_wp2
    refine bodyPost_ret (v := .tuple #[.int .i64 0, .int .i64 0, .bool false]) (by simp [results, Try.results17, go_sem]) rfl ⟨rfl, rfl⟩
  · have hc := krSlot_any x w hx
    rw [hs, Um.sv_yes hs] at hc
    have h1 := Um.sok_iff.1 hs
    clear hs
    by_cases h2 : Um.tsN x < n
    · by_cases h3 : Um.tgN x ≤ 1073741823
      · have hok : Um.ook x n = true := Um.ook_iff.2 ⟨h1.1, h1.2, h3, h2⟩
        rw [Um.os_yes hok, Um.og_yes hok, hok]
        clear hok h1
        go_enter Try.func17, Try.ntmps17
        go_wp2_with fail
        refine hc.mono ?_
        rintro e w1 ⟨rfl, rfl⟩
        go_wp2_with fail
        refine (krGen_any _ _ hx).mono ?_
        rintro e w1 ⟨rfl, rfl⟩
        go_wp2_with fail
        refine (krGen_any _ _ hx).mono ?_
        rintro e w1 ⟨rfl, rfl⟩
        go_wp2
        refine bodyPost_ret (v := .tuple #[.int .i64 (Um.tsN x), .int .i64 (Um.tgN x), .bool true]) (by simp [results, Try.results17, go_sem]) rfl ⟨rfl, rfl⟩
      · have hok : Um.ook x n = false := Um.ook_no.2 (by omega)
        rw [Um.os_no hok, Um.og_no hok, hok]
        have h4 : 1073741823 < Um.tgN x := by omega
        clear hok h1 h3
        go_enter Try.func17, Try.ntmps17
        go_wp2_with fail
        refine hc.mono ?_
        rintro e w1 ⟨rfl, rfl⟩
        go_wp2_with fail
        refine (krGen_any _ _ hx).mono ?_
        rintro e w1 ⟨rfl, rfl⟩
        go_wp2
        refine bodyPost_ret (v := .tuple #[.int .i64 0, .int .i64 0, .bool false]) (by simp [results, Try.results17, go_sem]) rfl ⟨rfl, rfl⟩
    · have hok : Um.ook x n = false := Um.ook_no.2 (by omega)
      rw [Um.os_no hok, Um.og_no hok, hok]
      have h4 : n ≤ Um.tsN x := by omega
      clear hok h1 h2
      go_enter Try.func17, Try.ntmps17
      go_wp2_with fail
      refine hc.mono ?_
      rintro e w1 ⟨rfl, rfl⟩
      go_wp2
      refine bodyPost_ret (v := .tuple #[.int .i64 0, .int .i64 0, .bool false]) (by simp [results, Try.results17, go_sem]) rfl ⟨rfl, rfl⟩

theorem make_or {s g : Int} (h : Um.mok s g = true) : bits .or .u64 (bits .or .u64 0 (s + 1)) (16 * g) = (Um.mkN s g : Int) := by
  obtain ⟨h1, h2, h3, h4⟩ := Um.mok_iff.1 h
  have e1 : s + 1 = ((s + 1).toNat : Int) := by omega
  have e2 : 16 * g = ((16 * g.toNat : Nat) : Int) := by omega
  rw [e1, e2, show (0 : Int) = ((0 : Nat) : Int) from rfl, u64_or_nat 0 _ (by decide) (by omega), Nat.zero_or, u64_or_nat _ _ (by omega) (by omega), Um.or_sixteen _ _ (by omega), Um.mk_yes h]
  omega

set_option maxHeartbeats 1000000 in
theorem kMake_any (s g : Int) (w : World) :
    Calls Try.prog 9 #[.int .i64 s, .int .i64 g] w fun e w' => e = .returned (.tuple #[.int .u64 (Um.mkN s g : Nat), .bool (Um.mok s g)]) ∧ Below w.heap.size w w' := by
  have hneq := neqParts (Um.near_mok (s := s) (g := g))
  cases hok : Um.mok s g
  · rw [hok] at hneq
    rw [Um.mk_no hok]
    clear hok
    go_enter Try.func9, Try.ntmps9
    go_wp2_with fail
    generalize hW : w.alloc _ = W
    have hk0 : ∀ d os, (grow (redrawn W d) os).cell? ⟨w.heap.size, 0, none⟩ = some (.int .i64 s) := fun d os => cell_regrown (by subst hW; go_simp) d os
    have hk1 : ∀ d os, (grow (redrawn W d) os).cell? ⟨w.heap.size, 1, none⟩ = some (.int .i64 g) := fun d os => cell_regrown (by subst hW; go_simp) d os
    have hB : Below w.heap.size w W := by rw [← hW]; exact (Below.refl _ _).alloc (Nat.le_refl _) _
    clear hW
    refine wp_region_quiet_below (by kernel_rfl) (by kernel_rfl) ?_
    repeat (go_big_quiet_step (first | (go_at_call 18; exact Calls.regrown_of (near_any _ _ _))))
    refine wpQuiet_nil ?_
    intro _ hw'
    obtain ⟨⟨dq, osq⟩, hw''⟩ := hw'
    subst hw''
    go_wp2
    go_ret2
    exact ⟨rfl, hB.trans ((below_regrown W dq osq).mono hB.size)⟩
  · rw [hok] at hneq
    have hp := make_or hok
    have HP := hide hp
    obtain ⟨h1, h2, h3, h4⟩ := Um.mok_iff.1 hok
    clear hp hok
    go_enter Try.func9, Try.ntmps9
    go_wp2_with fail
    generalize hW : w.alloc _ = W
    have hz : w.heap.size < W.heap.size := by subst hW; simp
    have hk0 : ∀ d os, (grow (redrawn W d) os).cell? ⟨w.heap.size, 0, none⟩ = some (.int .i64 s) := fun d os => cell_regrown (by subst hW; go_simp) d os
    have hk1 : ∀ d os, (grow (redrawn W d) os).cell? ⟨w.heap.size, 1, none⟩ = some (.int .i64 g) := fun d os => cell_regrown (by subst hW; go_simp) d os
    have hB : Below w.heap.size w W := by rw [← hW]; exact (Below.refl _ _).alloc (Nat.le_refl _) _
    clear hW
    refine wp_region_quiet_below (by kernel_rfl) (by kernel_rfl) ?_
    repeat (go_big_quiet_step (first | (go_at_call 18; exact Calls.regrown_of (near_any _ _ _))))
    refine wpQuiet_nil ?_
    intro _ hw'
    obtain ⟨⟨dq, osq⟩, hw''⟩ := hw'
    subst hw''
    have hB2 := hB.trans ((below_regrown W dq osq).mono hB.size)
    have hk0' := hk0 dq osq
    have hk1' := hk1 dq osq
    have hz2 : w.heap.size < (grow (redrawn W dq) osq).heap.size := Nat.lt_of_lt_of_le hz (below_regrown W dq osq).size
    clear hk0 hk1 hB hz
    generalize grow (redrawn W dq) osq = W2 at *
    go_wp2_with fail
    refine (row_any _).mono ?_
    rintro e w1 ⟨rfl, hb1⟩
    obtain ⟨hc1, hf1⟩ := bcell hb1
    have c0 : w1.cell? ⟨w.heap.size, 0, none⟩ = some (.int .i64 s) := by go_simp
    have c1 : w1.cell? ⟨w.heap.size, 1, none⟩ = some (.int .i64 g) := by go_simp
    have hz1 : w.heap.size < w1.heap.size := Nat.lt_of_lt_of_le hz2 hb1.size
    have hB1 := hB2.trans (hb1.mono hB2.size)
    clear hk0' hk1' hc1 hf1 hb1 hB2 hz2
    go_wp2_with fail
    refine wp_loop_rounds 3 ?_
    rw [rounds_succ]
    go_wp2_with fail
    go_quiet (first | (go_at_call 21; exact Calls.quiet_of_same (row1_any _ _ h1 h2)))
    go_wp2_with fail
    rw [rounds_succ]
    go_wp2_with fail
    go_quiet (first | (go_at_call 24; exact Calls.quiet_of_same (row4_any _ _ h3 h4)))
    go_wp2_with fail
    rw [rounds_succ]
    go_wp2
    go_ret2
    refine ⟨ret_two (unhide HP), ?_⟩
    repeat first | exact hB1 | refine Below.alloc ?_ (by first | omega | (simp; omega)) _ | refine Below.drew ?_ | refine below_drewN ?_ _

end Go.Proofs.Ytahddfnkodmnmaa
