/-
  The walks of layer 6's small functions.
-/
import Derived.Test.YtjicfonpldobdaaStoreA
namespace Go.Proofs.Ytjicfonpldobdaa
set_option maxRecDepth 100000
open Go.RowKit Go.Sort

theorem addW_wrap (x y : Nat) : IntKind.u64.wrap ((x : Int) + (y : Int)) = ((Um.addW x y : Nat) : Int) := by
  rw [IntKind.wrap_u64]
  unfold Um.addW
  omega

theorem ret_ub {a b : Int} {c d : Bool} (h : a = b) (h' : c = d) : Ending.returned (.tuple #[.int .u64 a, .bool c]) = .returned (.tuple #[.int .u64 b, .bool d]) := by rw [h, h']

set_option maxHeartbeats 400000 in
theorem wLoad_any (o v x : Nat) (w : World) :
    Calls Try.prog 46 #[.agg #[.int .u64 o, .int .u64 v], .int .u64 x] w fun e w' => e = .returned (.tuple #[.int .u64 (Um.trn 1 o v x : Nat), .bool (Um.trd 1 o x)]) ∧ Below w.heap.size w w' := by
  go_enter Try.func46, Try.ntmps46
  go_wp2
  go_ret2
  exact ⟨ret_ub rfl rfl, (Below.refl _ _).alloc (Nat.le_refl _) _⟩

set_option maxHeartbeats 400000 in
theorem wStore_any (o v x : Nat) (w : World) :
    Calls Try.prog 49 #[.agg #[.int .u64 o, .int .u64 v], .int .u64 x] w fun e w' => e = .returned (.tuple #[.int .u64 (Um.trn 2 o v x : Nat), .bool (Um.trd 2 o x)]) ∧ Below w.heap.size w w' := by
  go_enter Try.func49, Try.ntmps49
  go_wp2
  go_ret2
  exact ⟨ret_ub rfl rfl, (Below.refl _ _).alloc (Nat.le_refl _) _⟩

set_option maxHeartbeats 400000 in
theorem wSwap_any (o v x : Nat) (w : World) :
    Calls Try.prog 50 #[.agg #[.int .u64 o, .int .u64 v], .int .u64 x] w fun e w' => e = .returned (.tuple #[.int .u64 (Um.trn 3 o v x : Nat), .bool (Um.trd 3 o x)]) ∧ Below w.heap.size w w' := by
  by_cases h : x = o
  · subst h
    go_enter Try.func50, Try.ntmps50
    go_wp2
    go_ret2
    exact ⟨ret_ub (by simp [Um.trn]) (by simp [Um.trd]), (Below.refl _ _).alloc (Nat.le_refl _) _⟩
  · have hne : ((x : Int) == (o : Int)) = false := by simp; omega
    go_enter Try.func50, Try.ntmps50
    go_wp2
    go_ret2
    exact ⟨ret_ub (by simp [Um.trn, h]) (by simp [Um.trd, h]), (Below.refl _ _).alloc (Nat.le_refl _) _⟩

set_option maxHeartbeats 400000 in
theorem wAdd_any (o v x : Nat) (w : World) :
    Calls Try.prog 51 #[.agg #[.int .u64 o, .int .u64 v], .int .u64 x] w fun e w' => e = .returned (.tuple #[.int .u64 (Um.trn 4 o v x : Nat), .bool (Um.trd 4 o x)]) ∧ Below w.heap.size w w' := by
  go_enter Try.func51, Try.ntmps51
  go_wp2
  go_ret2
  exact ⟨ret_ub (by first | exact addW_wrap x v | (rw [show Um.trn 4 o v x = Um.addW x v from rfl]; unfold Um.addW; omega)) rfl, (Below.refl _ _).alloc (Nat.le_refl _) _⟩

set_option maxHeartbeats 400000 in
theorem mCount_any {W : World} {B C : Nat} {c : Um.Cf} {m : Um.Mm} (h : MemAt W B C c m) :
    Calls Try.prog 43 #[.pointer (some ⟨B, 0, none⟩)] W fun e w' => e = .returned (.int .i64 m.cnt) ∧ w' = W := by
  have h6 := h.ct
  clear h
  go_enter Try.func43, Try.ntmps43
  go_wp2
  go_ret
  exact ⟨rfl, rfl⟩

set_option maxHeartbeats 1000000 in
theorem mConfig_any {W : World} {B C : Nat} {c : Um.Cf} {m : Um.Mm} (h : MemAt W B C c m) :
    Calls Try.prog 57 #[.pointer (some ⟨B, 0, none⟩)] W fun e w' => e = .returned (.agg #[.int .i64 (c.t), .int .i64 (c.s), .int .i64 (c.k), .int .i64 (c.g), .int .u64 (c.q : Int)]) ∧ Below W.heap.size W w' := by
  obtain ⟨hB, _, _, _, h0, h1, h2, h3, h4, _⟩ := h
  go_enter Try.func57, Try.ntmps57
  go_wp2
  refine bodyPost_ret (v := (.agg #[.int .i64 (c.t), .int .i64 (c.s), .int .i64 (c.k), .int .i64 (c.g), .int .u64 (c.q : Int)])) (by simp [results, Try.results57, go_sem]) rfl ⟨rfl, (Below.refl _ _).alloc (Nat.le_refl _) _⟩

set_option maxHeartbeats 1000000 in
theorem mLast_any {W : World} {B C : Nat} {c : Um.Cf} {m : Um.Mm} (h : MemAt W B C c m) :
    Calls Try.prog 44 #[.pointer (some ⟨B, 0, none⟩)] W fun e w' => e = .returned (.agg #[.int .i64 (m.l.kind), .int .i64 (m.l.a), .int .i64 (m.l.b), .int .u64 (m.l.old : Int), .int .u64 (m.l.new : Int), .bool (m.l.done)]) ∧ Below W.heap.size W w' := by
  obtain ⟨hB, _, _, _, _, _, _, _, _, _, _, h0, h1, h2, h3, h4, h5, _⟩ := h
  go_enter Try.func44, Try.ntmps44
  go_wp2
  refine bodyPost_ret (v := (.agg #[.int .i64 (m.l.kind), .int .i64 (m.l.a), .int .i64 (m.l.b), .int .u64 (m.l.old : Int), .int .u64 (m.l.new : Int), .bool (m.l.done)])) (by simp [results, Try.results44, go_sem]) rfl ⟨rfl, (Below.refl _ _).alloc (Nat.le_refl _) _⟩

end Go.Proofs.Ytjicfonpldobdaa
