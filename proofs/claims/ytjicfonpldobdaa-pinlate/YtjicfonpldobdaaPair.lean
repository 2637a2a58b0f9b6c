/-
  '==' of two arrays of two integers, and small facts on calls.
-/
import Derived.Test.YtjicfonpldobdaaWalkA
import Derived.Test.YtjicfonpldobdaaWords
import Derived.Lib.QuietBelow
namespace Go.Proofs.Ytjicfonpldobdaa
set_option maxRecDepth 100000
open Go.RowKit Go.Sort

/-- '==' of two arrays of two integers. -/
theorem run_equalIn_pair {P : Program} (w : World) (d : Nat) (t e : TypeId) (k : IntKind) (ht : P.underlying t = some (.array 2 e)) (he : P.underlying e = some (.int k)) (hsz : ∀ w, (sizeOf e).run P w = .ok 1 w) (a b a' b' : Int) :
    (Op.equalIn (d + 2) t (.agg #[.int k a, .int k b]) (.agg #[.int k a', .int k b'])).run P w = .ok (decide (a = a' ∧ b = b')) w := by
  rw [Op.equalIn]
  simp only [Sem.run_bind, run_underlying ht, Result.andThen_ok, hsz, Std.Legacy.Range.forIn_eq_forIn_range', Std.Legacy.Range.size, Nat.sub_zero, Nat.add_sub_cancel, Nat.div_one]
  rw [show List.range' 0 2 1 = [0, 1] from rfl]
  have p0 : ∀ (u v : Int) (w : World), (part e #[.int k u, .int k v] (0 * 1)).run P w = .ok (.int k u) w := fun u v w => by simp [part, isAgg, run_underlying he]
  have pe : ∀ (u v : Int) (w : World), (Op.equalIn (d + 1) e (.int k u) (.int k v)).run P w = .ok (u == v) w := fun u v w => run_equalIn_int w d e k k u v he
  have p2 : ∀ (u v : Int) (w : World), (part e #[.int k u, .int k v] 1).run P w = .ok (.int k v) w := fun u v w => by simp [part, isAgg, run_underlying he]
  simp only [List.forIn_cons, List.forIn_nil, Sem.run_bind, p0, pe, Result.andThen_ok]
  by_cases h0 : a = a'
  · by_cases h1 : b = b' <;> simp [h0, h1, p2, pe]
  · simp [h0]

theorem sizeI (w : World) : (sizeOf 3).run Try.prog w = .ok 1 w := by go_simp

theorem sizeU (w : World) : (sizeOf 22).run Try.prog w = .ok 1 w := by go_simp

theorem ret_two {a b : Int} {c : Bool} (h : a = b) : Ending.returned (.tuple #[.int .u64 a, .bool c]) = .returned (.tuple #[.int .u64 b, .bool c]) := by rw [h]

theorem same_below {P : Program} {f : FuncId} {args : Array Value} {w : World} {v : Value} (h : Calls P f args w fun e w' => e = .returned v ∧ w' = w) : Calls P f args w fun e w' => e = .returned v ∧ Below w.heap.size w w' :=
  h.mono fun _ _ h => ⟨h.1, h.2 ▸ Below.refl _ _⟩

end Go.Proofs.Ytjicfonpldobdaa
