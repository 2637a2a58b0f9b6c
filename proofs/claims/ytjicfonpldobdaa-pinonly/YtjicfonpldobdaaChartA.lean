/-
  The walks of layer 5's functions.
-/
import Derived.Test.YtjicfonpldobdaaPair
import Derived.Test.YtjicfonpldobdaaChartMath
import Derived.LoopN
import Derived.RegionTactic
import Derived.BigRegion
import Derived.BigQuiet
import Derived.Deep.RegionWith
import Derived.Lib.QuietBelow
namespace Go.Proofs.Ytjicfonpldobdaa
set_option maxRecDepth 100000
open Go.RowKit Go.Sort

/-- '==' of two spots. -/
theorem eqSpot (T : TypeId) (hT : T = 39 ∨ T = 29) (s p s' p' : Int) (w : World) :
    (Op.equalIn 10000 T (.agg #[.int .i64 s, .int .i64 p]) (.agg #[.int .i64 s', .int .i64 p'])).run Try.prog w = .ok (decide (s = s' ∧ p = p')) w := by
  rw [show (10000:Nat) = 9999 + 1 from rfl]
  rcases hT with rfl | rfl
  all_goals
    rw [run_equalIn_agg w 9999 _ _ _ (by kernel_rfl) (by kernel_rfl)]
    go_simp
    (repeat' split) <;> simp_all

theorem neqSpot (T : TypeId) (hT : T = 39 ∨ T = 29) {s p s' p' : Int} {r : Bool} (hr : r = decide (s = s' ∧ p = p')) (w : World) :
    (binOp .neq T (.agg #[.int .i64 s, .int .i64 p]) (.agg #[.int .i64 s', .int .i64 p'])).run Try.prog w = .ok (.bool (!r)) w := by
  rw [run_neq_struct, eqSpot T hT, hr]
  rfl

theorem eqlSpot (T : TypeId) (hT : T = 39 ∨ T = 29) {s p s' p' : Int} {r : Bool} (hr : r = decide (s = s' ∧ p = p')) (w : World) :
    (binOp .eql T (.agg #[.int .i64 s, .int .i64 p]) (.agg #[.int .i64 s', .int .i64 p'])).run Try.prog w = .ok (.bool r) w := by
  rw [run_eql_struct, eqSpot T hT, hr]
  rfl

set_option maxHeartbeats 400000 in
theorem cWithin_any (n a b : Int) (w : World) :
    Calls Try.prog 69 #[.int .i64 n, .int .i64 a, .int .i64 b] w fun e w' => e = .returned (.bool (decide (a ≤ n ∧ n ≤ b))) ∧ w' = w := by
  by_cases h1 : a ≤ n
  · go_enter Try.func69, Try.ntmps69
    go_wp2
    go_ret
    exact ⟨ret_bool (by simp [h1]), rfl⟩
  · go_enter Try.func69, Try.ntmps69
    go_wp2
    go_ret
    exact ⟨ret_bool (by rw [Bool.eq_iff_iff]; simp; omega), rfl⟩

set_option maxHeartbeats 400000 in
theorem cLenOf_any (a b f n : Int) (w : World) (h : a * b = n) (h0 : 0 ≤ n) (h1 : n ≤ 48) :
    Calls Try.prog 62 #[.agg #[.int .i64 a, .int .i64 b, .int .i64 f]] w fun e w' => e = .returned (.int .i64 n) ∧ Below w.heap.size w w' := by
  go_enter Try.func62, Try.ntmps62
  go_wp2
  go_ret
  refine ⟨ret_i64 ?_, (Below.refl _ _).alloc (Nat.le_refl _) _⟩
  first | rfl | exact h

set_option maxHeartbeats 1000000 in
theorem cRight_any (t s k g : Int) (q : Nat) (w : World) :
    Calls Try.prog 64 #[(.agg #[.int .i64 t, .int .i64 s, .int .i64 k, .int .i64 g, .int .u64 (q : Int)])] w fun e w' => e = .returned (.bool (Um.rt t s k g q)) ∧ Below w.heap.size w w' := by
  have key : Um.rt t s k g q = (decide (1 ≤ t ∧ t ≤ 8) && decide (1 ≤ s ∧ s ≤ 12) && decide (1 ≤ k ∧ k ≤ 8) && decide (0 ≤ g ∧ g ≤ 1073741823) && decide ((q : Int) ≤ 1099511627775)) := by
    rw [Bool.eq_iff_iff]
    simp [Um.rt]
    omega
  rw [key]
  clear key
  have b1 := cWithin_any t 1 8
  have b2 := cWithin_any s 1 12
  have b3 := cWithin_any k 1 8
  have b4 := cWithin_any g 0 1073741823
  generalize decide (1 ≤ t ∧ t ≤ 8) = v1 at *
  generalize decide (1 ≤ s ∧ s ≤ 12) = v2 at *
  generalize decide (1 ≤ k ∧ k ≤ 8) = v3 at *
  generalize decide (0 ≤ g ∧ g ≤ 1073741823) = v4 at *
  cases v1
  · go_enter Try.func64, Try.ntmps64
    go_wp2_with fail
    refine (b1 _).mono ?_
    rintro e w1 ⟨rfl, rfl⟩
    go_wp2
    go_ret
    exact ⟨rfl, (Below.refl _ _).alloc (Nat.le_refl _) _⟩
  cases v2
  · go_enter Try.func64, Try.ntmps64
    go_wp2_with fail
    refine (b1 _).mono ?_
    rintro e w1 ⟨rfl, rfl⟩
    go_wp2_with fail
    refine (b2 _).mono ?_
    rintro e w2 ⟨rfl, rfl⟩
    go_wp2
    go_ret
    exact ⟨rfl, (Below.refl _ _).alloc (Nat.le_refl _) _⟩
  cases v3
  · go_enter Try.func64, Try.ntmps64
    go_wp2_with fail
    refine (b1 _).mono ?_
    rintro e w1 ⟨rfl, rfl⟩
    go_wp2_with fail
    refine (b2 _).mono ?_
    rintro e w2 ⟨rfl, rfl⟩
    go_wp2_with fail
    refine (b3 _).mono ?_
    rintro e w3 ⟨rfl, rfl⟩
    go_wp2
    go_ret
    exact ⟨rfl, (Below.refl _ _).alloc (Nat.le_refl _) _⟩
  cases v4
  · go_enter Try.func64, Try.ntmps64
    go_wp2_with fail
    refine (b1 _).mono ?_
    rintro e w1 ⟨rfl, rfl⟩
    go_wp2_with fail
    refine (b2 _).mono ?_
    rintro e w2 ⟨rfl, rfl⟩
    go_wp2_with fail
    refine (b3 _).mono ?_
    rintro e w3 ⟨rfl, rfl⟩
    go_wp2_with fail
    refine (b4 _).mono ?_
    rintro e w4 ⟨rfl, rfl⟩
    go_wp2
    go_ret
    exact ⟨rfl, (Below.refl _ _).alloc (Nat.le_refl _) _⟩
  · go_enter Try.func64, Try.ntmps64
    go_wp2_with fail
    refine (b1 _).mono ?_
    rintro e w1 ⟨rfl, rfl⟩
    go_wp2_with fail
    refine (b2 _).mono ?_
    rintro e w2 ⟨rfl, rfl⟩
    go_wp2_with fail
    refine (b3 _).mono ?_
    rintro e w3 ⟨rfl, rfl⟩
    go_wp2_with fail
    refine (b4 _).mono ?_
    rintro e w4 ⟨rfl, rfl⟩
    go_wp2
    go_ret
    exact ⟨rfl, (Below.refl _ _).alloc (Nat.le_refl _) _⟩

/-- the value v holds the five runs: what is asked of it -/
def IsRuns (r : Bool) (t s k : Int) (v : Value) : Prop :=
  ∀ j : Nat, j < 5 → ∀ w, Sem.run Try.prog (Instr.index 112 v (.int .i64 (j : Int))) w = .ok (.agg #[.int .i64 (Um.thN r t s k j), .int .i64 (Um.kiN r j), .int .i64 (Um.fiN r j)]) w

theorem isRuns_no (t s k : Int) : IsRuns false t s k (.agg #[.int .i64 0, .int .i64 0, .int .i64 0, .int .i64 0, .int .i64 0, .int .i64 0, .int .i64 0, .int .i64 0, .int .i64 0, .int .i64 0, .int .i64 0, .int .i64 0, .int .i64 0, .int .i64 0, .int .i64 0]) := by
  intro j hj w
  rcases Um.below5 hj with rfl | rfl | rfl | rfl | rfl <;> simp [Instr.index, go_sem, Um.thN, Um.kiN, Um.fiN]

theorem isRuns_yes (t s k : Int) : IsRuns true t s k (.agg #[.int .i64 1, .int .i64 1, .int .i64 1, .int .i64 1, .int .i64 1, .int .i64 2, .int .i64 t, .int .i64 1, .int .i64 3, .int .i64 s, .int .i64 4, .int .i64 4, .int .i64 k, .int .i64 1, .int .i64 8]) := by
  intro j hj w
  rcases Um.below5 hj with rfl | rfl | rfl | rfl | rfl <;> simp [Instr.index, go_sem, Um.thN, Um.kiN, Um.fiN]

end Go.Proofs.Ytjicfonpldobdaa
