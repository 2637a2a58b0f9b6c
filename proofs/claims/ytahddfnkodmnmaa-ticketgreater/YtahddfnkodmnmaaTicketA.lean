/-
  The walks of layer 4's row of functions, and of what is told by it.
-/
import Derived.Test.YtahddfnkodmnmaaPair
import Derived.Test.YtahddfnkodmnmaaTicketMath
import Derived.LoopN
import Derived.Deep.RegionWith
import Derived.Laws.EntriesVeiled
import Derived.Lib.QuietBelow
namespace Go.Proofs.Ytahddfnkodmnmaa
open Go.RowKit Go.Sort

set_option maxHeartbeats 400000 in
theorem row1_any (n : Int) (w : World) (h0 : 0 ≤ n) (h1 : n ≤ 11) :
    Calls Try.prog 21 #[.int .i64 n] w fun e w' => e = .returned (.int .u64 (n + 1)) ∧ w' = w := by
  go_enter Try.func21, Try.ntmps21
  go_wp2
  go_ret
  exact ⟨ret_u64 (by omega), rfl⟩

set_option maxHeartbeats 400000 in
theorem row2_any (x : Nat) (w : World) (hx : Um.Word x) :
    Calls Try.prog 22 #[.int .u64 x] w fun e w' => e = .returned (.int .i64 (Um.tsN x)) ∧ w' = w := by
  have hb : bits .and .u64 (x : Int) 15 = ((x % 16 : Nat) : Int) := by
    rw [show (15 : Int) = ((15 : Nat) : Int) from rfl, u64_and_nat _ _ hx (by decide)]
    have := Um.and_mask x 4
    rw [show (2 : Nat) ^ 4 - 1 = 15 by decide, show (2 : Nat) ^ 4 = 16 by decide] at this
    rw [this]
  go_enter Try.func22, Try.ntmps22
  go_wp2
  go_ret
  refine ⟨ret_i64 ?_, rfl⟩
  unfold Um.tsN
  omega

set_option maxHeartbeats 400000 in
theorem row3_any (n : Int) (w : World) :
    Calls Try.prog 23 #[.int .i64 n] w fun e w' => e = .returned (.int .i64 (Um.nearS n)) ∧ w' = w := by
  go_enter Try.func23, Try.ntmps23
  go_wp2
  all_goals go_ret
  all_goals refine ⟨ret_i64 ?_, rfl⟩
  all_goals unfold Um.nearS
  all_goals omega

set_option maxHeartbeats 400000 in
theorem row4_any (n : Int) (w : World) (h0 : 0 ≤ n) (h1 : n ≤ 1073741823) :
    Calls Try.prog 24 #[.int .i64 n] w fun e w' => e = .returned (.int .u64 (16 * n)) ∧ w' = w := by
  go_enter Try.func24, Try.ntmps24
  go_wp2
  go_ret
  refine ⟨ret_u64 ?_, rfl⟩
  omega

set_option maxHeartbeats 400000 in
theorem row5_any (x : Nat) (w : World) (hx : Um.Word x) :
    Calls Try.prog 25 #[.int .u64 x] w fun e w' => e = .returned (.int .i64 (Um.tgN x)) ∧ w' = w := by
  unfold Um.Word at hx
  go_enter Try.func25, Try.ntmps25
  go_wp2
  all_goals go_ret
  all_goals refine ⟨ret_i64 ?_, rfl⟩
  all_goals unfold Um.tgN
  all_goals omega

set_option maxHeartbeats 400000 in
theorem row6_any (n : Int) (w : World) :
    Calls Try.prog 26 #[.int .i64 n] w fun e w' => e = .returned (.int .i64 (Um.nearG n)) ∧ w' = w := by
  go_enter Try.func26, Try.ntmps26
  go_wp2
  all_goals go_ret
  all_goals refine ⟨ret_i64 ?_, rfl⟩
  all_goals unfold Um.nearG
  all_goals omega

set_option maxHeartbeats 400000 in
theorem row_any (w : World) :
    Calls Try.prog 19 #[] w fun e w' => e = .returned (.agg #[.func (.func 21) #[] #[], .func (.func 22) #[] #[], .func (.func 23) #[] #[], .func (.func 24) #[] #[], .func (.func 25) #[] #[], .func (.func 26) #[] #[]]) ∧ Below w.heap.size w w' := by
  go_enter Try.func19, Try.ntmps19
  go_wp2
  refine bodyPost_ret (v := .agg #[.func (.func 21) #[] #[], .func (.func 22) #[] #[], .func (.func 23) #[] #[], .func (.func 24) #[] #[], .func (.func 25) #[] #[], .func (.func 26) #[] #[]]) (by simp [results, Try.results19, go_sem]) rfl ⟨rfl, ?_⟩
  exact (Below.refl _ _).alloc (Nat.le_refl _) _

theorem index_row0 (a0 a1 a2 a3 a4 a5 : Value) (w : World) : Sem.run Try.prog (Instr.index 43 (.agg #[a0, a1, a2, a3, a4, a5]) (.int .i64 0)) w = .ok (.agg #[a0, a1, a2]) w := by
  simp [Instr.index, go_sem]

theorem index_row1 (a0 a1 a2 a3 a4 a5 : Value) (w : World) : Sem.run Try.prog (Instr.index 43 (.agg #[a0, a1, a2, a3, a4, a5]) (.int .i64 1)) w = .ok (.agg #[a3, a4, a5]) w := by
  simp [Instr.index, go_sem]

attribute [local go_sem] index_row0 index_row1

set_option maxHeartbeats 2000000 in
theorem apart_any (x : Nat) (w : World) (hx : Um.Word x) :
    Calls Try.prog 20 #[.int .u64 x] w fun e w' => e = .returned (.agg #[.int .i64 (Um.tsN x), .int .i64 (Um.tgN x)]) ∧ Below w.heap.size w w' := by
  go_enter Try.func20, Try.ntmps20
  go_wp2_with fail
  refine (row_any _).mono ?_
  rintro e w1 ⟨rfl, hb1⟩
  obtain ⟨hc1, hf1⟩ := bcell hb1
  have hz1 : w.heap.size + 1 < w1.heap.size := by have := hb1.size; simp at this; omega
  have hz0 : w.heap.size < w1.heap.size := by omega
  have hB1 : Below w.heap.size w w1 := (((Below.refl w.heap.size w).alloc (Nat.le_refl _) _).alloc (by simp) _).trans (hb1.mono (by simp; omega))
  have hz : w.heap.size < w.heap.size + 2 := by omega
  have c00 : w1.cell? ⟨w.heap.size, 0, none⟩ = some (.int .i64 0) := by go_simp
  have f00 : w1.frozen? ⟨w.heap.size, 0, none⟩ = false := by go_simp
  have c01 : w1.cell? ⟨w.heap.size, 1, none⟩ = some (.int .i64 0) := by go_simp
  have f01 : w1.frozen? ⟨w.heap.size, 1, none⟩ = false := by go_simp
  have c10 : w1.cell? ⟨w.heap.size + 1, 0, none⟩ = some (.int .i64 0) := by go_simp
  have f10 : w1.frozen? ⟨w.heap.size + 1, 0, none⟩ = false := by go_simp
  have c11 : w1.cell? ⟨w.heap.size + 1, 1, none⟩ = some (.int .i64 0) := by go_simp
  have f11 : w1.frozen? ⟨w.heap.size + 1, 1, none⟩ = false := by go_simp
  clear hc1 hf1 hb1 hz
  go_wp2_with fail
  refine wp_loop_rounds 3 ?_
  rw [rounds_succ]
  go_wp2_with fail
  refine (row2_any _ _ hx).mono ?_
  rintro e w2 ⟨rfl, rfl⟩
  go_wp2_with fail
  rw [rounds_succ]
  go_wp2_with fail
  refine (row5_any _ _ hx).mono ?_
  rintro e w3 ⟨rfl, rfl⟩
  go_wp2_with fail
  rw [rounds_succ]
  go_wp2
  generalize hW : World.alloc _ _ = W
  have hk0 : W.cell? ⟨w.heap.size, 0, none⟩ = some (.int .i64 (Um.tsN x)) := by subst hW; go_simp
  have hk1 : W.cell? ⟨w.heap.size, 1, none⟩ = some (.int .i64 (Um.tgN x)) := by subst hW; go_simp
  refine bodyPost_ret (v := .agg #[.int .i64 (Um.tsN x), .int .i64 (Um.tgN x)]) (by simp [results, Try.results20, go_sem, hk0, hk1]) rfl ⟨rfl, ?_⟩
  subst hW
  repeat first | exact hB1 | refine Below.alloc ?_ (by simp; omega) _ | refine Below.setCell ?_ (by simp) _ | refine Below.drew ?_

set_option maxHeartbeats 2000000 in
theorem near_any (a b : Int) (w : World) :
    Calls Try.prog 18 #[.agg #[.int .i64 a, .int .i64 b]] w fun e w' => e = .returned (.agg #[.int .i64 (Um.nearS a), .int .i64 (Um.nearG b)]) ∧ Below w.heap.size w w' := by
  go_enter Try.func18, Try.ntmps18
  go_wp2_with fail
  refine (row_any _).mono ?_
  rintro e w1 ⟨rfl, hb1⟩
  obtain ⟨hc1, hf1⟩ := bcell hb1
  have hz1 : w.heap.size + 1 < w1.heap.size := by have := hb1.size; simp at this; omega
  have hz0 : w.heap.size < w1.heap.size := by omega
  have hB1 : Below w.heap.size w w1 := (((Below.refl w.heap.size w).alloc (Nat.le_refl _) _).alloc (by simp) _).trans (hb1.mono (by simp; omega))
  have hz : w.heap.size < w.heap.size + 2 := by omega
  have c00 : w1.cell? ⟨w.heap.size, 0, none⟩ = some (.int .i64 a) := by go_simp
  have f00 : w1.frozen? ⟨w.heap.size, 0, none⟩ = false := by go_simp
  have c01 : w1.cell? ⟨w.heap.size, 1, none⟩ = some (.int .i64 b) := by go_simp
  have f01 : w1.frozen? ⟨w.heap.size, 1, none⟩ = false := by go_simp
  have c10 : w1.cell? ⟨w.heap.size + 1, 0, none⟩ = some (.int .i64 0) := by go_simp
  have f10 : w1.frozen? ⟨w.heap.size + 1, 0, none⟩ = false := by go_simp
  have c11 : w1.cell? ⟨w.heap.size + 1, 1, none⟩ = some (.int .i64 0) := by go_simp
  have f11 : w1.frozen? ⟨w.heap.size + 1, 1, none⟩ = false := by go_simp
  clear hc1 hf1 hb1 hz
  go_wp2_with fail
  go_loopw [6] (fun i wr => ∃ (k : Nat) (a' b' : Int), ((k = 0 ∧ a' = a ∧ b' = b) ∨ (k = 1 ∧ a' = Um.nearS a ∧ b' = b) ∨ (k = 2 ∧ a' = Um.nearS a ∧ b' = Um.nearG b)) ∧ i = .int .i64 k ∧ Below w.heap.size w wr ∧ w.heap.size + 1 < wr.heap.size ∧
    wr.cell? ⟨w.heap.size, 0, none⟩ = some (.int .i64 a') ∧ wr.cell? ⟨w.heap.size, 1, none⟩ = some (.int .i64 b') ∧ wr.cell? ⟨w.heap.size + 1, 0, none⟩ = some (.int .i64 0) ∧ wr.cell? ⟨w.heap.size + 1, 1, none⟩ = some (.int .i64 0) ∧
    wr.frozen? ⟨w.heap.size, 0, none⟩ = false ∧ wr.frozen? ⟨w.heap.size, 1, none⟩ = false ∧ wr.frozen? ⟨w.heap.size + 1, 0, none⟩ = false ∧ wr.frozen? ⟨w.heap.size + 1, 1, none⟩ = false) (fun i _ => 2 - (intOf i).toNat)
  case atStart => exact ⟨0, a, b, .inl ⟨rfl, rfl, rfl⟩, rfl, hB1, hz1, c00, c01, c10, c11, f00, f01, f10, f11⟩
  case round =>
    rename_i wr
    clear c00 c01 c10 c11 f00 f01 f10 f11 hB1 hz1 hz0
    obtain ⟨k, a', b', hcase, rfl, hB, hz1, c00, c01, c10, c11, f00, f01, f10, f11⟩ := hrel
    have hz0 : w.heap.size < wr.heap.size := by omega
    rcases hcase with ⟨rfl, rfl, rfl⟩ | ⟨rfl, rfl, rfl⟩ | ⟨rfl, rfl, rfl⟩
    · go_wp2_with fail
      go_region_with (go_at_call 23; refine (row3_any _ _).mono ?_; rintro e w' ⟨rfl, rfl⟩)
      all_goals
        go_wp2_with fail
        refine ⟨⟨1, _, _, .inr (.inl ⟨rfl, rfl, rfl⟩), rfl, ((hB.setCell (by simp) _).alloc (by simp; omega) _).drew, by simp; omega, by go_simp, by go_simp, by go_simp, by go_simp, by go_simp, by go_simp, by go_simp, by go_simp⟩, by simp [intOf]⟩
    · go_wp2_with fail
      go_region_with (go_at_call 26; refine (row6_any _ _).mono ?_; rintro e w' ⟨rfl, rfl⟩)
      all_goals
        go_wp2_with fail
        refine ⟨⟨2, _, _, .inr (.inr ⟨rfl, rfl, rfl⟩), rfl, ((hB.setCell (by simp) _).alloc (by simp; omega) _).drew, by simp; omega, by go_simp, by go_simp, by go_simp, by go_simp, by go_simp, by go_simp, by go_simp, by go_simp⟩, by simp [intOf]⟩
    · go_wp2
      generalize hW : World.setCell _ _ _ = W
      have hk0 : W.cell? ⟨w.heap.size + 1, 0, none⟩ = some (.int .i64 (Um.nearS a)) := by subst hW; go_simp
      have hk1 : W.cell? ⟨w.heap.size + 1, 1, none⟩ = some (.int .i64 (Um.nearG b)) := by subst hW; go_simp
      refine bodyPost_ret (v := .agg #[.int .i64 (Um.nearS a), .int .i64 (Um.nearG b)]) (by simp [results, Try.results18, go_sem, hk0, hk1]) rfl ⟨rfl, ?_⟩
      subst hW
      exact (hB.setCell (by simp) _).setCell (by simp) _

end Go.Proofs.Ytahddfnkodmnmaa
