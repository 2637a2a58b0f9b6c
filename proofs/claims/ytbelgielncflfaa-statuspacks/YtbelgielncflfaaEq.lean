/-
  '==' of two statuses: field by field.
-/
import Derived.Test.YtbelgielncflfaaWalkC
namespace Go.Proofs.Ytbelgielncflfaa
open Go.RowKit

set_option maxHeartbeats 1000000 in
theorem eqStatus (T : TypeId) (hT : T = 27 ∨ T = 23) (g st : Int) (b i o : Bool) (n t : Int) (g' st' : Int) (b' i' o' : Bool) (n' t' : Int) (w : World) :
    (Op.equalIn 10000 T (.agg #[.int .i64 g, .int .i64 st, .bool b, .bool i, .bool o, .int .i64 n, .int .i64 t]) (.agg #[.int .i64 g', .int .i64 st', .bool b', .bool i', .bool o', .int .i64 n', .int .i64 t'])).run Try.prog w
      = .ok (decide (g = g' ∧ st = st' ∧ b = b' ∧ i = i' ∧ o = o' ∧ n = n' ∧ t = t')) w := by
  rw [show (10000:Nat) = 9999 + 1 from rfl]
  rcases hT with rfl | rfl
  all_goals
    rw [run_equalIn_agg w 9999 _ _ _ (by kernel_rfl) (by kernel_rfl)]
    go_simp
    (repeat' split) <;> simp_all

theorem neqStatus (T : TypeId) (hT : T = 27 ∨ T = 23) {g st : Int} {b i o : Bool} {n t : Int} {g' st' : Int} {b' i' o' : Bool} {n' t' : Int} {r : Bool}
    (hr : r = decide (g = g' ∧ st = st' ∧ b = b' ∧ i = i' ∧ o = o' ∧ n = n' ∧ t = t')) (w : World) :
    (binOp .neq T (.agg #[.int .i64 g, .int .i64 st, .bool b, .bool i, .bool o, .int .i64 n, .int .i64 t]) (.agg #[.int .i64 g', .int .i64 st', .bool b', .bool i', .bool o', .int .i64 n', .int .i64 t'])).run Try.prog w
      = .ok (.bool (!r)) w := by
  rw [run_neq_struct, eqStatus T hT, hr]
  rfl

theorem eqlStatus (T : TypeId) (hT : T = 27 ∨ T = 23) {g st : Int} {b i o : Bool} {n t : Int} {g' st' : Int} {b' i' o' : Bool} {n' t' : Int} {r : Bool}
    (hr : r = decide (g = g' ∧ st = st' ∧ b = b' ∧ i = i' ∧ o = o' ∧ n = n' ∧ t = t')) (w : World) :
    (binOp .eql T (.agg #[.int .i64 g, .int .i64 st, .bool b, .bool i, .bool o, .int .i64 n, .int .i64 t]) (.agg #[.int .i64 g', .int .i64 st', .bool b', .bool i', .bool o', .int .i64 n', .int .i64 t'])).run Try.prog w
      = .ok (.bool r) w := by
  rw [run_eql_struct, eqStatus T hT, hr]
  rfl

end Go.Proofs.Ytbelgielncflfaa
