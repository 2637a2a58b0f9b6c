/-
  The walks of layer 6's small functions.
-/
import Derived.Test.YtafnoloamfdanaaStoreA
namespace Go.Proofs.Ytafnoloamfdanaa
set_option maxRecDepth 100000
open Go.RowKit Go.Sort

theorem addW_wrap (x y : Nat) : IntKind.u64.wrap ((x : Int) + (y : Int)) = ((Um.addW x y : Nat) : Int) := by
  rw [IntKind.wrap_u64]
  unfold Um.addW
  omega

theorem ret_ub {a b : Int} {c d : Bool} (h : a = b) (h' : c = d) : Ending.returned (.tuple #[.int .u64 a, .bool c]) = .returned (.tuple #[.int .u64 b, .bool d]) := by rw [h, h']

set_option maxHeartbeats 400000 in
theorem wLoad_any (o v x : Nat) (w : World) :
    Calls Try.prog 32 #[.agg #[.int .u64 o, .int .u64 v], .int .u64 x] w fun e w' => e = .returned (.tuple #[.int .u64 (Um.trn 1 o v x : Nat), .bool (Um.trd 1 o x)]) ∧ Below w.heap.size w w' := by
  go_enter Try.func32, Try.ntmps32
  go_wp2
  go_ret2
  exact ⟨ret_ub rfl rfl, (Below.refl _ _).alloc (Nat.le_refl _) _⟩

set_option maxHeartbeats 400000 in
theorem wStore_any (o v x : Nat) (w : World) :
    Calls Try.prog 33 #[.agg #[.int .u64 o, .int .u64 v], .int .u64 x] w fun e w' => e = .returned (.tuple #[.int .u64 (Um.trn 2 o v x : Nat), .bool (Um.trd 2 o x)]) ∧ Below w.heap.size w w' := by
  go_enter Try.func33, Try.ntmps33
  go_wp2
  go_ret2
  exact ⟨ret_ub rfl rfl, (Below.refl _ _).alloc (Nat.le_refl _) _⟩

set_option maxHeartbeats 400000 in
theorem wSwap_any (o v x : Nat) (w : World) :
    Calls Try.prog 34 #[.agg #[.int .u64 o, .int .u64 v], .int .u64 x] w fun e w' => e = .returned (.tuple #[.int .u64 (Um.trn 3 o v x : Nat), .bool (Um.trd 3 o x)]) ∧ Below w.heap.size w w' := by
  by_cases h : x = o
  · subst h
    go_enter Try.func34, Try.ntmps34
    go_wp2
    go_ret2
    exact ⟨ret_ub (by simp [Um.trn]) (by simp [Um.trd]), (Below.refl _ _).alloc (Nat.le_refl _) _⟩
  · have hne : ((x : Int) == (o : Int)) = false := by simp; omega
    go_enter Try.func34, Try.ntmps34
    go_wp2
    go_ret2
    exact ⟨ret_ub (by simp [Um.trn, h]) (by simp [Um.trd, h]), (Below.refl _ _).alloc (Nat.le_refl _) _⟩

set_option maxHeartbeats 400000 in
theorem wAdd_any (o v x : Nat) (w : World) :
    Calls Try.prog 35 #[.agg #[.int .u64 o, .int .u64 v], .int .u64 x] w fun e w' => e = .returned (.tuple #[.int .u64 (Um.trn 4 o v x : Nat), .bool (Um.trd 4 o x)]) ∧ Below w.heap.size w w' := by
  go_enter Try.func35, Try.ntmps35
  go_wp2
  go_ret2
  exact ⟨ret_ub (by first | exact addW_wrap x v | (rw [show Um.trn 4 o v x = Um.addW x v from rfl]; unfold Um.addW; omega)) rfl, (Below.refl _ _).alloc (Nat.le_refl _) _⟩

set_option maxHeartbeats 400000 in
theorem mCount_any {W : World} {B C : Nat} {c : Um.Cf} {m : Um.Mm} (h : MemAt W B C c m) :
    Calls Try.prog 28 #[.pointer (some ⟨B, 0, none⟩)] W fun e w' => e = .returned (.int .i64 m.cnt) ∧ w' = W := by
  have h6 := h.ct
  clear h
  go_enter Try.func28, Try.ntmps28
  go_wp2
  go_ret
  exact ⟨rfl, rfl⟩

set_option maxHeartbeats 1000000 in
theorem mConfig_any {W : World} {B C : Nat} {c : Um.Cf} {m : Um.Mm} (h : MemAt W B C c m) :
    Calls Try.prog 12 #[.pointer (some ⟨B, 0, none⟩)] W fun e w' => e = .returned (.agg #[.int .i64 (c.t), .int .i64 (c.s), .int .i64 (c.k), .int .i64 (c.g), .int .u64 (c.q : Int)]) ∧ Below W.heap.size W w' := by
  obtain ⟨hB, _, _, _, h0, h1, h2, h3, h4, _⟩ := h
  go_enter Try.func12, Try.ntmps12
  go_wp2
  refine bodyPost_ret (v := (.agg #[.int .i64 (c.t), .int .i64 (c.s), .int .i64 (c.k), .int .i64 (c.g), .int .u64 (c.q : Int)])) (by simp [results, Try.results12, go_sem]) rfl ⟨rfl, (Below.refl _ _).alloc (Nat.le_refl _) _⟩

set_option maxHeartbeats 1000000 in
theorem mLast_any {W : World} {B C : Nat} {c : Um.Cf} {m : Um.Mm} (h : MemAt W B C c m) :
    Calls Try.prog 29 #[.pointer (some ⟨B, 0, none⟩)] W fun e w' => e = .returned (.agg #[.int .i64 (m.l.kind), .int .i64 (m.l.a), .int .i64 (m.l.b), .int .u64 (m.l.old : Int), .int .u64 (m.l.new : Int), .bool (m.l.done)]) ∧ Below W.heap.size W w' := by
  obtain ⟨hB, _, _, _, _, _, _, _, _, _, _, h0, h1, h2, h3, h4, h5, _⟩ := h
  go_enter Try.func29, Try.ntmps29
  go_wp2
  refine bodyPost_ret (v := (.agg #[.int .i64 (m.l.kind), .int .i64 (m.l.a), .int .i64 (m.l.b), .int .u64 (m.l.old : Int), .int .u64 (m.l.new : Int), .bool (m.l.done)])) (by simp [results, Try.results29, go_sem]) rfl ⟨rfl, (Below.refl _ _).alloc (Nat.le_refl _) _⟩

end Go.Proofs.Ytafnoloamfdanaa
