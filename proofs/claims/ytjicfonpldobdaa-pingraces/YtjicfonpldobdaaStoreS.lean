/-
  A memory behind stores: of a word, of the count, of the last access; accesses and spots in blocks.
-/
import Derived.Test.YtjicfonpldobdaaStoreD
namespace Go.Proofs.Ytjicfonpldobdaa
set_option maxRecDepth 100000
open Go.RowKit Go.Sort

/-- an access lies in the block B -/
structure TchAt (W : World) (B : Nat) (x : Um.Tch) : Prop where
  lt : B < W.heap.size
  c0 : W.cell? ⟨B, 0, none⟩ = some (.int .i64 x.kind)
  c1 : W.cell? ⟨B, 1, none⟩ = some (.int .i64 x.a)
  c2 : W.cell? ⟨B, 2, none⟩ = some (.int .i64 x.b)
  c3 : W.cell? ⟨B, 3, none⟩ = some (.int .u64 x.old)
  c4 : W.cell? ⟨B, 4, none⟩ = some (.int .u64 x.new)
  c5 : W.cell? ⟨B, 5, none⟩ = some (.bool x.done)
  fz : ∀ o, W.frozen? ⟨B, o, none⟩ = false

theorem TchAt.kept {W W' : World} {B : Nat} {x : Um.Tch} (h : TchAt W B x) (hs : W.heap.size ≤ W'.heap.size) (hb : W'.heap[B]? = W.heap[B]?) : TchAt W' B x :=
  have eb : ∀ o, W'.cell? ⟨B, o, none⟩ = W.cell? ⟨B, o, none⟩ := fun _ => World.cell?_of_block (w := W) hb
  ⟨Nat.lt_of_lt_of_le h.lt hs, (eb _).trans h.c0, (eb _).trans h.c1, (eb _).trans h.c2, (eb _).trans h.c3, (eb _).trans h.c4, (eb _).trans h.c5, fun o => (World.frozen?_of_block (w := W) hb).trans (h.fz o)⟩

theorem TchAt.below {W W' : World} {B : Nat} {x : Um.Tch} (h : TchAt W B x) (b : Below W.heap.size W W') : TchAt W' B x := h.kept b.size (b.block B h.lt)

theorem TchAt.off {W W' : World} {B B' C' : Nat} {x : Um.Tch} (h : TchAt W B x) (b : Off B' C' W W') (h1 : B ≠ B') (h2 : B ≠ C') : TchAt W' B x := h.kept b.size (b.block B h.lt h1 h2)

theorem tchAt_new {W : World} {B : Nat} {e : TypeId} (x : Um.Tch) (hn : W.heap[B]? = some (.cells #[.int .i64 x.kind, .int .i64 x.a, .int .i64 x.b, .int .u64 x.old, .int .u64 x.new, .bool x.done] e (0, 0))) : TchAt W B x :=
  ⟨(Array.getElem?_eq_some_iff.1 hn).1, blk_cell hn 0, blk_cell hn 1, blk_cell hn 2, blk_cell hn 3, blk_cell hn 4, blk_cell hn 5, row_frozen hn⟩

/-- a spot lies in the block B -/
structure SpAt (W : World) (B : Nat) (a b : Int) : Prop where
  lt : B < W.heap.size
  c0 : W.cell? ⟨B, 0, none⟩ = some (.int .i64 a)
  c1 : W.cell? ⟨B, 1, none⟩ = some (.int .i64 b)

theorem SpAt.kept {W W' : World} {B : Nat} {x y : Int} (h : SpAt W B x y) (hs : W.heap.size ≤ W'.heap.size) (hb : W'.heap[B]? = W.heap[B]?) : SpAt W' B x y :=
  have eb : ∀ o, W'.cell? ⟨B, o, none⟩ = W.cell? ⟨B, o, none⟩ := fun _ => World.cell?_of_block (w := W) hb
  ⟨Nat.lt_of_lt_of_le h.lt hs, (eb _).trans h.c0, (eb _).trans h.c1⟩

theorem SpAt.below {W W' : World} {B : Nat} {x y : Int} (h : SpAt W B x y) (b : Below W.heap.size W W') : SpAt W' B x y := h.kept b.size (b.block B h.lt)

theorem SpAt.off {W W' : World} {B B' C' : Nat} {x y : Int} (h : SpAt W B x y) (b : Off B' C' W W') (h1 : B ≠ B') (h2 : B ≠ C') : SpAt W' B x y := h.kept b.size (b.block B h.lt h1 h2)

theorem spAt_new {W : World} {B : Nat} {e : TypeId} {fr : Nat × Nat} {x y : Int} (hn : W.heap[B]? = some (.cells #[.int .i64 x, .int .i64 y] e fr)) : SpAt W B x y :=
  ⟨(Array.getElem?_eq_some_iff.1 hn).1, blk_cell hn 0, blk_cell hn 1⟩

theorem alloc2_at (W : World) (o1 o2 : Obj) : ((W.alloc o1).alloc o2).heap[W.heap.size]? = some o1 ∧ ((W.alloc o1).alloc o2).heap[W.heap.size + 1]? = some o2 := by
  have h1 : (W.alloc o1).heap.size = W.heap.size + 1 := by simp
  refine ⟨?_, ?_⟩
  · rw [Below.heap_alloc _ _ _ (by omega), heap_alloc_new]
  · have := heap_alloc_new (W.alloc o1) o2
    rwa [h1] at this

theorem alloc3_at (W : World) (o1 o2 o3 : Obj) : (((W.alloc o1).alloc o2).alloc o3).heap[W.heap.size]? = some o1 ∧ (((W.alloc o1).alloc o2).alloc o3).heap[W.heap.size + 1]? = some o2 ∧ (((W.alloc o1).alloc o2).alloc o3).heap[W.heap.size + 2]? = some o3 := by
  have h2 : ((W.alloc o1).alloc o2).heap.size = W.heap.size + 2 := by simp
  refine ⟨?_, ?_, ?_⟩
  · rw [Below.heap_alloc _ _ _ (by omega)]; exact (alloc2_at W o1 o2).1
  · rw [Below.heap_alloc _ _ _ (by omega)]; exact (alloc2_at W o1 o2).2
  · have := heap_alloc_new ((W.alloc o1).alloc o2) o3
    rwa [h2] at this

theorem size_set (W : World) (p : Addr) (u : Value) : (W.setCell p u).heap.size = W.heap.size := by simp [World.setCell]

theorem cell_other {W : World} {B o : Nat} {p : Addr} {u : Value} (h : p.block ≠ B ∨ p.off ≠ o) : (W.setCell p u).cell? ⟨B, o, none⟩ = W.cell? ⟨B, o, none⟩ :=
  World.cell?_setCell_other _ _ _ _ (fun e => by subst e; simp at h)

theorem cell_same {W : World} {p : Addr} {u v : Value} (h : W.cell? p = some u) : (W.setCell p v).cell? p = some v := World.cell?_setCell_same' W p v (by rw [h]; rfl)

/-- a memory behind a store elsewhere -/
theorem MemAt.set {W : World} {B C : Nat} {c : Um.Cf} {m : Um.Mm} (h : MemAt W B C c m) {p : Addr} {u : Value} (h1 : p.block ≠ B) (h2 : p.block ≠ C) : MemAt (W.setCell p u) B C c m :=
  h.kept (Nat.le_of_eq (size_set _ _ _).symm) (Below.heap_setCell _ _ _ _ (Ne.symm h1)) (Below.heap_setCell _ _ _ _ (Ne.symm h2))

/-- behind a store of a word -/
theorem MemAt.setWord {W : World} {B C : Nat} {c : Um.Cf} {m : Um.Mm} (h : MemAt W B C c m) {p y : Nat} (hp : p < c.n) (hy : Um.Word y) : MemAt (W.setCell ⟨C, p, none⟩ (.int .u64 (y : Nat))) B C c ⟨Um.putW m.ws p y, m.cnt, m.l⟩ :=
  have eb : ∀ o, (W.setCell ⟨C, p, none⟩ (.int .u64 (y : Nat))).cell? ⟨B, o, none⟩ = W.cell? ⟨B, o, none⟩ := fun _ => cell_other (.inl h.ne.symm)
  ⟨by rw [size_set]; exact h.hB, by rw [size_set]; exact h.hC, h.ne, h.rt, (eb _).trans h.cf0, (eb _).trans h.cf1, (eb _).trans h.cf2, (eb _).trans h.cf3, (eb _).trans h.cf4, (eb _).trans h.sl, (eb _).trans h.ct,
    (eb _).trans h.l0, (eb _).trans h.l1, (eb _).trans h.l2, (eb _).trans h.l3, (eb _).trans h.l4, (eb _).trans h.l5, fun o => by rw [World.frozen?_setCell]; exact h.fB o, fun o => by rw [World.frozen?_setCell]; exact h.fC o,
    fun j hj => by
      by_cases e : j = p
      · subst e
        rw [cell_same (h.ws j hj)]
        simp [Um.putW]
      · rw [cell_other (.inr (Ne.symm e)), h.ws j hj]
        simp [Um.putW, e],
    Um.word_putW h.wd hy⟩

/-- behind a store of the count -/
theorem MemAt.setCnt {W : World} {B C : Nat} {c : Um.Cf} {m : Um.Mm} (h : MemAt W B C c m) (z : Int) : MemAt (W.setCell ⟨B, 6, none⟩ (.int .i64 z)) B C c ⟨m.ws, z, m.l⟩ :=
  have eb : ∀ o, o ≠ 6 → (W.setCell ⟨B, 6, none⟩ (.int .i64 z)).cell? ⟨B, o, none⟩ = W.cell? ⟨B, o, none⟩ := fun _ e => cell_other (.inr (Ne.symm e))
  ⟨by rw [size_set]; exact h.hB, by rw [size_set]; exact h.hC, h.ne, h.rt, (eb _ (by decide)).trans h.cf0, (eb _ (by decide)).trans h.cf1, (eb _ (by decide)).trans h.cf2, (eb _ (by decide)).trans h.cf3, (eb _ (by decide)).trans h.cf4, (eb _ (by decide)).trans h.sl, cell_same h.ct,
    (eb _ (by decide)).trans h.l0, (eb _ (by decide)).trans h.l1, (eb _ (by decide)).trans h.l2, (eb _ (by decide)).trans h.l3, (eb _ (by decide)).trans h.l4, (eb _ (by decide)).trans h.l5, fun o => by rw [World.frozen?_setCell]; exact h.fB o, fun o => by rw [World.frozen?_setCell]; exact h.fC o,
    fun j hj => (cell_other (.inl h.ne)).trans (h.ws j hj), h.wd⟩

theorem TchAt.set0 {W : World} {B : Nat} {x : Um.Tch} (h : TchAt W B x) (z : Int) : TchAt (W.setCell ⟨B, 0, none⟩ (.int .i64 z)) B ⟨z, x.a, x.b, x.old, x.new, x.done⟩ :=
  ⟨by rw [size_set]; exact h.lt, cell_same h.c0, (cell_other (.inr (by simp))).trans h.c1, (cell_other (.inr (by simp))).trans h.c2, (cell_other (.inr (by simp))).trans h.c3, (cell_other (.inr (by simp))).trans h.c4, (cell_other (.inr (by simp))).trans h.c5, fun o => by rw [World.frozen?_setCell]; exact h.fz o⟩

theorem TchAt.set1 {W : World} {B : Nat} {x : Um.Tch} (h : TchAt W B x) (z : Int) : TchAt (W.setCell ⟨B, 1, none⟩ (.int .i64 z)) B ⟨x.kind, z, x.b, x.old, x.new, x.done⟩ :=
  ⟨by rw [size_set]; exact h.lt, (cell_other (.inr (by simp))).trans h.c0, cell_same h.c1, (cell_other (.inr (by simp))).trans h.c2, (cell_other (.inr (by simp))).trans h.c3, (cell_other (.inr (by simp))).trans h.c4, (cell_other (.inr (by simp))).trans h.c5, fun o => by rw [World.frozen?_setCell]; exact h.fz o⟩

theorem TchAt.set2 {W : World} {B : Nat} {x : Um.Tch} (h : TchAt W B x) (z : Int) : TchAt (W.setCell ⟨B, 2, none⟩ (.int .i64 z)) B ⟨x.kind, x.a, z, x.old, x.new, x.done⟩ :=
  ⟨by rw [size_set]; exact h.lt, (cell_other (.inr (by simp))).trans h.c0, (cell_other (.inr (by simp))).trans h.c1, cell_same h.c2, (cell_other (.inr (by simp))).trans h.c3, (cell_other (.inr (by simp))).trans h.c4, (cell_other (.inr (by simp))).trans h.c5, fun o => by rw [World.frozen?_setCell]; exact h.fz o⟩

theorem TchAt.set3 {W : World} {B : Nat} {x : Um.Tch} (h : TchAt W B x) (z : Nat) : TchAt (W.setCell ⟨B, 3, none⟩ (.int .u64 (z : Nat))) B ⟨x.kind, x.a, x.b, z, x.new, x.done⟩ :=
  ⟨by rw [size_set]; exact h.lt, (cell_other (.inr (by simp))).trans h.c0, (cell_other (.inr (by simp))).trans h.c1, (cell_other (.inr (by simp))).trans h.c2, cell_same h.c3, (cell_other (.inr (by simp))).trans h.c4, (cell_other (.inr (by simp))).trans h.c5, fun o => by rw [World.frozen?_setCell]; exact h.fz o⟩

theorem TchAt.set4 {W : World} {B : Nat} {x : Um.Tch} (h : TchAt W B x) (z : Nat) : TchAt (W.setCell ⟨B, 4, none⟩ (.int .u64 (z : Nat))) B ⟨x.kind, x.a, x.b, x.old, z, x.done⟩ :=
  ⟨by rw [size_set]; exact h.lt, (cell_other (.inr (by simp))).trans h.c0, (cell_other (.inr (by simp))).trans h.c1, (cell_other (.inr (by simp))).trans h.c2, (cell_other (.inr (by simp))).trans h.c3, cell_same h.c4, (cell_other (.inr (by simp))).trans h.c5, fun o => by rw [World.frozen?_setCell]; exact h.fz o⟩

theorem TchAt.set5 {W : World} {B : Nat} {x : Um.Tch} (h : TchAt W B x) (z : Bool) : TchAt (W.setCell ⟨B, 5, none⟩ (.bool z)) B ⟨x.kind, x.a, x.b, x.old, x.new, z⟩ :=
  ⟨by rw [size_set]; exact h.lt, (cell_other (.inr (by simp))).trans h.c0, (cell_other (.inr (by simp))).trans h.c1, (cell_other (.inr (by simp))).trans h.c2, (cell_other (.inr (by simp))).trans h.c3, (cell_other (.inr (by simp))).trans h.c4, cell_same h.c5, fun o => by rw [World.frozen?_setCell]; exact h.fz o⟩

theorem TchAt.drew {W : World} {B : Nat} {x : Um.Tch} (h : TchAt W B x) : TchAt W.drew B x := ⟨h.lt, h.c0, h.c1, h.c2, h.c3, h.c4, h.c5, h.fz⟩

theorem MemAt.drew {W : World} {B C : Nat} {c : Um.Cf} {m : Um.Mm} (h : MemAt W B C c m) : MemAt W.drew B C c m :=
  h.kept (Nat.le_refl _) rfl rfl

theorem TchAt.set {W : World} {B : Nat} {x : Um.Tch} (h : TchAt W B x) {p : Addr} {u : Value} (h1 : p.block ≠ B) : TchAt (W.setCell p u) B x :=
  h.kept (Nat.le_of_eq (size_set _ _ _).symm) (Below.heap_setCell _ _ _ _ (Ne.symm h1))

theorem SpAt.set {W : World} {B : Nat} {a b : Int} (h : SpAt W B a b) {p : Addr} {u : Value} (h1 : p.block ≠ B) : SpAt (W.setCell p u) B a b :=
  h.kept (Nat.le_of_eq (size_set _ _ _).symm) (Below.heap_setCell _ _ _ _ (Ne.symm h1))

theorem MemAt.setL0 {W : World} {B C : Nat} {c : Um.Cf} {m : Um.Mm} (h : MemAt W B C c m) (z : Int) : MemAt (W.setCell ⟨B, 7, none⟩ (.int .i64 z)) B C c ⟨m.ws, m.cnt, ⟨z, m.l.a, m.l.b, m.l.old, m.l.new, m.l.done⟩⟩ :=
  have eb : ∀ o, o ≠ 7 → (W.setCell ⟨B, 7, none⟩ (.int .i64 z)).cell? ⟨B, o, none⟩ = W.cell? ⟨B, o, none⟩ := fun _ e => cell_other (.inr (Ne.symm e))
  ⟨by rw [size_set]; exact h.hB, by rw [size_set]; exact h.hC, h.ne, h.rt, (eb _ (by decide)).trans h.cf0, (eb _ (by decide)).trans h.cf1, (eb _ (by decide)).trans h.cf2, (eb _ (by decide)).trans h.cf3, (eb _ (by decide)).trans h.cf4, (eb _ (by decide)).trans h.sl, (eb _ (by decide)).trans h.ct,
    cell_same h.l0, (eb _ (by decide)).trans h.l1, (eb _ (by decide)).trans h.l2, (eb _ (by decide)).trans h.l3, (eb _ (by decide)).trans h.l4, (eb _ (by decide)).trans h.l5, fun o => by rw [World.frozen?_setCell]; exact h.fB o, fun o => by rw [World.frozen?_setCell]; exact h.fC o,
    fun j hj => (cell_other (.inl h.ne)).trans (h.ws j hj), h.wd⟩

theorem MemAt.setL1 {W : World} {B C : Nat} {c : Um.Cf} {m : Um.Mm} (h : MemAt W B C c m) (z : Int) : MemAt (W.setCell ⟨B, 8, none⟩ (.int .i64 z)) B C c ⟨m.ws, m.cnt, ⟨m.l.kind, z, m.l.b, m.l.old, m.l.new, m.l.done⟩⟩ :=
  have eb : ∀ o, o ≠ 8 → (W.setCell ⟨B, 8, none⟩ (.int .i64 z)).cell? ⟨B, o, none⟩ = W.cell? ⟨B, o, none⟩ := fun _ e => cell_other (.inr (Ne.symm e))
  ⟨by rw [size_set]; exact h.hB, by rw [size_set]; exact h.hC, h.ne, h.rt, (eb _ (by decide)).trans h.cf0, (eb _ (by decide)).trans h.cf1, (eb _ (by decide)).trans h.cf2, (eb _ (by decide)).trans h.cf3, (eb _ (by decide)).trans h.cf4, (eb _ (by decide)).trans h.sl, (eb _ (by decide)).trans h.ct,
    (eb _ (by decide)).trans h.l0, cell_same h.l1, (eb _ (by decide)).trans h.l2, (eb _ (by decide)).trans h.l3, (eb _ (by decide)).trans h.l4, (eb _ (by decide)).trans h.l5, fun o => by rw [World.frozen?_setCell]; exact h.fB o, fun o => by rw [World.frozen?_setCell]; exact h.fC o,
    fun j hj => (cell_other (.inl h.ne)).trans (h.ws j hj), h.wd⟩

theorem MemAt.setL2 {W : World} {B C : Nat} {c : Um.Cf} {m : Um.Mm} (h : MemAt W B C c m) (z : Int) : MemAt (W.setCell ⟨B, 9, none⟩ (.int .i64 z)) B C c ⟨m.ws, m.cnt, ⟨m.l.kind, m.l.a, z, m.l.old, m.l.new, m.l.done⟩⟩ :=
  have eb : ∀ o, o ≠ 9 → (W.setCell ⟨B, 9, none⟩ (.int .i64 z)).cell? ⟨B, o, none⟩ = W.cell? ⟨B, o, none⟩ := fun _ e => cell_other (.inr (Ne.symm e))
  ⟨by rw [size_set]; exact h.hB, by rw [size_set]; exact h.hC, h.ne, h.rt, (eb _ (by decide)).trans h.cf0, (eb _ (by decide)).trans h.cf1, (eb _ (by decide)).trans h.cf2, (eb _ (by decide)).trans h.cf3, (eb _ (by decide)).trans h.cf4, (eb _ (by decide)).trans h.sl, (eb _ (by decide)).trans h.ct,
    (eb _ (by decide)).trans h.l0, (eb _ (by decide)).trans h.l1, cell_same h.l2, (eb _ (by decide)).trans h.l3, (eb _ (by decide)).trans h.l4, (eb _ (by decide)).trans h.l5, fun o => by rw [World.frozen?_setCell]; exact h.fB o, fun o => by rw [World.frozen?_setCell]; exact h.fC o,
    fun j hj => (cell_other (.inl h.ne)).trans (h.ws j hj), h.wd⟩

theorem MemAt.setL3 {W : World} {B C : Nat} {c : Um.Cf} {m : Um.Mm} (h : MemAt W B C c m) (z : Nat) : MemAt (W.setCell ⟨B, 10, none⟩ (.int .u64 (z : Nat))) B C c ⟨m.ws, m.cnt, ⟨m.l.kind, m.l.a, m.l.b, z, m.l.new, m.l.done⟩⟩ :=
  have eb : ∀ o, o ≠ 10 → (W.setCell ⟨B, 10, none⟩ (.int .u64 (z : Nat))).cell? ⟨B, o, none⟩ = W.cell? ⟨B, o, none⟩ := fun _ e => cell_other (.inr (Ne.symm e))
  ⟨by rw [size_set]; exact h.hB, by rw [size_set]; exact h.hC, h.ne, h.rt, (eb _ (by decide)).trans h.cf0, (eb _ (by decide)).trans h.cf1, (eb _ (by decide)).trans h.cf2, (eb _ (by decide)).trans h.cf3, (eb _ (by decide)).trans h.cf4, (eb _ (by decide)).trans h.sl, (eb _ (by decide)).trans h.ct,
    (eb _ (by decide)).trans h.l0, (eb _ (by decide)).trans h.l1, (eb _ (by decide)).trans h.l2, cell_same h.l3, (eb _ (by decide)).trans h.l4, (eb _ (by decide)).trans h.l5, fun o => by rw [World.frozen?_setCell]; exact h.fB o, fun o => by rw [World.frozen?_setCell]; exact h.fC o,
    fun j hj => (cell_other (.inl h.ne)).trans (h.ws j hj), h.wd⟩

theorem MemAt.setL4 {W : World} {B C : Nat} {c : Um.Cf} {m : Um.Mm} (h : MemAt W B C c m) (z : Nat) : MemAt (W.setCell ⟨B, 11, none⟩ (.int .u64 (z : Nat))) B C c ⟨m.ws, m.cnt, ⟨m.l.kind, m.l.a, m.l.b, m.l.old, z, m.l.done⟩⟩ :=
  have eb : ∀ o, o ≠ 11 → (W.setCell ⟨B, 11, none⟩ (.int .u64 (z : Nat))).cell? ⟨B, o, none⟩ = W.cell? ⟨B, o, none⟩ := fun _ e => cell_other (.inr (Ne.symm e))
  ⟨by rw [size_set]; exact h.hB, by rw [size_set]; exact h.hC, h.ne, h.rt, (eb _ (by decide)).trans h.cf0, (eb _ (by decide)).trans h.cf1, (eb _ (by decide)).trans h.cf2, (eb _ (by decide)).trans h.cf3, (eb _ (by decide)).trans h.cf4, (eb _ (by decide)).trans h.sl, (eb _ (by decide)).trans h.ct,
    (eb _ (by decide)).trans h.l0, (eb _ (by decide)).trans h.l1, (eb _ (by decide)).trans h.l2, (eb _ (by decide)).trans h.l3, cell_same h.l4, (eb _ (by decide)).trans h.l5, fun o => by rw [World.frozen?_setCell]; exact h.fB o, fun o => by rw [World.frozen?_setCell]; exact h.fC o,
    fun j hj => (cell_other (.inl h.ne)).trans (h.ws j hj), h.wd⟩

theorem MemAt.setL5 {W : World} {B C : Nat} {c : Um.Cf} {m : Um.Mm} (h : MemAt W B C c m) (z : Bool) : MemAt (W.setCell ⟨B, 12, none⟩ (.bool z)) B C c ⟨m.ws, m.cnt, ⟨m.l.kind, m.l.a, m.l.b, m.l.old, m.l.new, z⟩⟩ :=
  have eb : ∀ o, o ≠ 12 → (W.setCell ⟨B, 12, none⟩ (.bool z)).cell? ⟨B, o, none⟩ = W.cell? ⟨B, o, none⟩ := fun _ e => cell_other (.inr (Ne.symm e))
  ⟨by rw [size_set]; exact h.hB, by rw [size_set]; exact h.hC, h.ne, h.rt, (eb _ (by decide)).trans h.cf0, (eb _ (by decide)).trans h.cf1, (eb _ (by decide)).trans h.cf2, (eb _ (by decide)).trans h.cf3, (eb _ (by decide)).trans h.cf4, (eb _ (by decide)).trans h.sl, (eb _ (by decide)).trans h.ct,
    (eb _ (by decide)).trans h.l0, (eb _ (by decide)).trans h.l1, (eb _ (by decide)).trans h.l2, (eb _ (by decide)).trans h.l3, (eb _ (by decide)).trans h.l4, cell_same h.l5, fun o => by rw [World.frozen?_setCell]; exact h.fB o, fun o => by rw [World.frozen?_setCell]; exact h.fC o,
    fun j hj => (cell_other (.inl h.ne)).trans (h.ws j hj), h.wd⟩

theorem next_eq (z : Int) : wrap64 (z + 1) = Um.nextI z := by
  unfold wrap64 Um.nextI
  rfl

/-- the block B holds these cells -/
structure BlkAt (W : World) (B : Nat) (vs : List Value) : Prop where
  lt : B < W.heap.size
  cell : ∀ (j : Nat) (v : Value), vs[j]? = some v → W.cell? ⟨B, j, none⟩ = some v
  fz : ∀ o, W.frozen? ⟨B, o, none⟩ = false

theorem BlkAt.kept {W W' : World} {B : Nat} {vs : List Value} (h : BlkAt W B vs) (hs : W.heap.size ≤ W'.heap.size) (hb : W'.heap[B]? = W.heap[B]?) : BlkAt W' B vs :=
  ⟨Nat.lt_of_lt_of_le h.lt hs, fun j v e => (World.cell?_of_block (w := W) hb).trans (h.cell j v e), fun o => (World.frozen?_of_block (w := W) hb).trans (h.fz o)⟩

theorem BlkAt.below {W W' : World} {B : Nat} {vs : List Value} (h : BlkAt W B vs) (b : Below W.heap.size W W') : BlkAt W' B vs := h.kept b.size (b.block B h.lt)

theorem BlkAt.off {W W' : World} {B B' C' : Nat} {vs : List Value} (h : BlkAt W B vs) (b : Off B' C' W W') (h1 : B ≠ B') (h2 : B ≠ C') : BlkAt W' B vs := h.kept b.size (b.block B h.lt h1 h2)

theorem BlkAt.drew {W : World} {B : Nat} {vs : List Value} (h : BlkAt W B vs) : BlkAt W.drew B vs := h.kept (Nat.le_refl _) rfl

theorem BlkAt.set {W : World} {B : Nat} {vs : List Value} (h : BlkAt W B vs) {p : Addr} {u : Value} (h1 : p.block ≠ B) : BlkAt (W.setCell p u) B vs :=
  h.kept (Nat.le_of_eq (size_set _ _ _).symm) (Below.heap_setCell _ _ _ _ (Ne.symm h1))

theorem BlkAt.put {W : World} {B : Nat} {vs : List Value} (h : BlkAt W B vs) (j : Nat) (u : Value) : BlkAt (W.setCell ⟨B, j, none⟩ u) B (vs.set j u) := by
  refine ⟨by rw [size_set]; exact h.lt, fun i v e => ?_, fun o => by rw [World.frozen?_setCell]; exact h.fz o⟩
  by_cases e1 : i = j
  · subst e1
    rw [List.getElem?_set] at e
    simp at e
    obtain ⟨e2, rfl⟩ := e
    exact cell_same (h.cell i _ (List.getElem?_eq_getElem e2))
  · rw [cell_other (.inr (Ne.symm e1))]
    rw [List.getElem?_set_ne (Ne.symm e1)] at e
    exact h.cell i v e

theorem blkAt_new {W : World} {B : Nat} {e : TypeId} {cs : Array Value} (hn : W.heap[B]? = some (.cells cs e (0, 0))) : BlkAt W B cs.toList :=
  ⟨(Array.getElem?_eq_some_iff.1 hn).1, fun j v hv => (blk_cell hn j).trans (by simpa using hv), row_frozen hn⟩

theorem isSome_set (W : World) (p q : Addr) (u : Value) (h : (W.cell? q).isSome = true) : ((W.setCell p u).cell? q).isSome = true := by
  obtain ⟨v, hv⟩ := Option.isSome_iff_exists.1 h
  obtain ⟨v', h'⟩ := cell?_setCell_some (p := p) (x := u) hv
  rw [h']
  rfl

theorem alloc6_at (W : World) (o1 o2 o3 o4 o5 o6 : Obj) {X : World} (hX : (((((W.alloc o1).alloc o2).alloc o3).alloc o4).alloc o5).alloc o6 = X) :
    X.heap[W.heap.size]? = some o1 ∧ X.heap[W.heap.size + 1]? = some o2 ∧ X.heap[W.heap.size + 1 + 1]? = some o3 ∧ X.heap[W.heap.size + 1 + 1 + 1]? = some o4 ∧ X.heap[W.heap.size + 1 + 1 + 1 + 1]? = some o5 ∧ X.heap[W.heap.size + 1 + 1 + 1 + 1 + 1]? = some o6 ∧ Below W.heap.size W X ∧ X.heap.size = W.heap.size + 6 := by
  subst hX
  obtain ⟨h1, h2, h3⟩ := alloc3_at W o1 o2 o3
  have hs : (((W.alloc o1).alloc o2).alloc o3).heap.size = W.heap.size + 3 := by simp
  have hb : Below W.heap.size W (((W.alloc o1).alloc o2).alloc o3) := (((Below.refl _ _).alloc (Nat.le_refl _) _).alloc (by simp) _).alloc (by simp; omega) _
  generalize ((W.alloc o1).alloc o2).alloc o3 = V at *
  obtain ⟨h4, h5, h6⟩ := alloc3_at V o4 o5 o6
  have hb2 : Below V.heap.size V (((V.alloc o4).alloc o5).alloc o6) := (((Below.refl _ _).alloc (Nat.le_refl _) _).alloc (by simp) _).alloc (by simp; omega) _
  have hs2 : (((V.alloc o4).alloc o5).alloc o6).heap.size = V.heap.size + 3 := by simp
  generalize ((V.alloc o4).alloc o5).alloc o6 = X at *
  rw [hs] at h4 h5 h6
  exact ⟨(hb2.block _ (by omega)).trans h1, (hb2.block _ (by omega)).trans h2, (hb2.block _ (by omega)).trans h3, h4, h5, h6, hb.trans (hb2.mono hb.size), by omega⟩

end Go.Proofs.Ytjicfonpldobdaa
