/-
  Texts that the laws stand on, merged (StoreS, Blk, BlkT, BlkAny, BlkX, OpenCfg, OpenWords, OpenPlay, OpenHelp, BlkT2, BlkY, StoreE).
-/
import Derived.Test.YtapgghciieloaaaGreatP1
import Derived.Test.YtapgghciieloaaaGreatP2
import Derived.Deep.MidRow
import Derived.Deep.RegionHeld
import Derived.Deep.Slices
import Derived.Laws.EntriesVeiled
import Derived.OpenShut
import Derived.ProofKit
import Derived.ShutString
import Derived.SizedLaws
import Derived.WalkKit

/-
  A memory behind stores: of a word, of the count, of the last access; accesses and spots in blocks.
-/
namespace Go.Proofs.YtapgghciieloaaaGreat
set_option maxRecDepth 100000
open Go.RowKit Go.Sort

/-- an access lies in the block B -/
structure TchAt (W : World) (B : Nat) (x : Um.Tch) : Prop where
  lt : B < W.heap.size
  c0 : W.cell? ⟨B, 0, none⟩ = some (.int .i64 x.kind)
  c1 : W.cell? ⟨B, 1, none⟩ = some (.int .i64 x.a)
  c2 : W.cell? ⟨B, 2, none⟩ = some (.int .i64 x.b)
  c3 : W.cell? ⟨B, 3, none⟩ = some (.int .u64 x.old)
  c4 : W.cell? ⟨B, 4, none⟩ = some (.int .u64 x.new)
  c5 : W.cell? ⟨B, 5, none⟩ = some (.bool x.done)
  fz : ∀ o, W.frozen? ⟨B, o, none⟩ = false

theorem TchAt.kept {W W' : World} {B : Nat} {x : Um.Tch} (h : TchAt W B x) (hs : W.heap.size ≤ W'.heap.size) (hb : W'.heap[B]? = W.heap[B]?) : TchAt W' B x :=
  have eb : ∀ o, W'.cell? ⟨B, o, none⟩ = W.cell? ⟨B, o, none⟩ := fun _ => World.cell?_of_block (w := W) hb
  ⟨Nat.lt_of_lt_of_le h.lt hs, (eb _).trans h.c0, (eb _).trans h.c1, (eb _).trans h.c2, (eb _).trans h.c3, (eb _).trans h.c4, (eb _).trans h.c5, fun o => (World.frozen?_of_block (w := W) hb).trans (h.fz o)⟩

theorem TchAt.below {W W' : World} {B : Nat} {x : Um.Tch} (h : TchAt W B x) (b : Below W.heap.size W W') : TchAt W' B x := h.kept b.size (b.block B h.lt)

theorem TchAt.off {W W' : World} {B B' C' : Nat} {x : Um.Tch} (h : TchAt W B x) (b : Off B' C' W W') (h1 : B ≠ B') (h2 : B ≠ C') : TchAt W' B x := h.kept b.size (b.block B h.lt h1 h2)

theorem tchAt_new {W : World} {B : Nat} {e : TypeId} (x : Um.Tch) (hn : W.heap[B]? = some (.cells #[.int .i64 x.kind, .int .i64 x.a, .int .i64 x.b, .int .u64 x.old, .int .u64 x.new, .bool x.done] e (0, 0))) : TchAt W B x :=
  ⟨(Array.getElem?_eq_some_iff.1 hn).1, blk_cell hn 0, blk_cell hn 1, blk_cell hn 2, blk_cell hn 3, blk_cell hn 4, blk_cell hn 5, row_frozen hn⟩

/-- a spot lies in the block B -/
structure SpAt (W : World) (B : Nat) (a b : Int) : Prop where
  lt : B < W.heap.size
  c0 : W.cell? ⟨B, 0, none⟩ = some (.int .i64 a)
  c1 : W.cell? ⟨B, 1, none⟩ = some (.int .i64 b)

theorem SpAt.kept {W W' : World} {B : Nat} {x y : Int} (h : SpAt W B x y) (hs : W.heap.size ≤ W'.heap.size) (hb : W'.heap[B]? = W.heap[B]?) : SpAt W' B x y :=
  have eb : ∀ o, W'.cell? ⟨B, o, none⟩ = W.cell? ⟨B, o, none⟩ := fun _ => World.cell?_of_block (w := W) hb
  ⟨Nat.lt_of_lt_of_le h.lt hs, (eb _).trans h.c0, (eb _).trans h.c1⟩

theorem SpAt.below {W W' : World} {B : Nat} {x y : Int} (h : SpAt W B x y) (b : Below W.heap.size W W') : SpAt W' B x y := h.kept b.size (b.block B h.lt)

theorem SpAt.off {W W' : World} {B B' C' : Nat} {x y : Int} (h : SpAt W B x y) (b : Off B' C' W W') (h1 : B ≠ B') (h2 : B ≠ C') : SpAt W' B x y := h.kept b.size (b.block B h.lt h1 h2)

theorem spAt_new {W : World} {B : Nat} {e : TypeId} {fr : Nat × Nat} {x y : Int} (hn : W.heap[B]? = some (.cells #[.int .i64 x, .int .i64 y] e fr)) : SpAt W B x y :=
  ⟨(Array.getElem?_eq_some_iff.1 hn).1, blk_cell hn 0, blk_cell hn 1⟩

theorem alloc2_at (W : World) (o1 o2 : Obj) : ((W.alloc o1).alloc o2).heap[W.heap.size]? = some o1 ∧ ((W.alloc o1).alloc o2).heap[W.heap.size + 1]? = some o2 := by
  have h1 : (W.alloc o1).heap.size = W.heap.size + 1 := by simp
  refine ⟨?_, ?_⟩
  · rw [Below.heap_alloc _ _ _ (by omega), heap_alloc_new]
  · have := heap_alloc_new (W.alloc o1) o2
    rwa [h1] at this

theorem alloc3_at (W : World) (o1 o2 o3 : Obj) : (((W.alloc o1).alloc o2).alloc o3).heap[W.heap.size]? = some o1 ∧ (((W.alloc o1).alloc o2).alloc o3).heap[W.heap.size + 1]? = some o2 ∧ (((W.alloc o1).alloc o2).alloc o3).heap[W.heap.size + 2]? = some o3 := by
  have h2 : ((W.alloc o1).alloc o2).heap.size = W.heap.size + 2 := by simp
  refine ⟨?_, ?_, ?_⟩
  · rw [Below.heap_alloc _ _ _ (by omega)]; exact (alloc2_at W o1 o2).1
  · rw [Below.heap_alloc _ _ _ (by omega)]; exact (alloc2_at W o1 o2).2
  · have := heap_alloc_new ((W.alloc o1).alloc o2) o3
    rwa [h2] at this

theorem size_set (W : World) (p : Addr) (u : Value) : (W.setCell p u).heap.size = W.heap.size := by simp [World.setCell]

theorem cell_other {W : World} {B o : Nat} {p : Addr} {u : Value} (h : p.block ≠ B ∨ p.off ≠ o) : (W.setCell p u).cell? ⟨B, o, none⟩ = W.cell? ⟨B, o, none⟩ :=
  World.cell?_setCell_other _ _ _ _ (fun e => by subst e; simp at h)

theorem cell_same {W : World} {p : Addr} {u v : Value} (h : W.cell? p = some u) : (W.setCell p v).cell? p = some v := World.cell?_setCell_same' W p v (by rw [h]; rfl)

/-- a memory behind a store elsewhere -/
theorem MemAt.set {W : World} {B C : Nat} {c : Um.Cf} {m : Um.Mm} (h : MemAt W B C c m) {p : Addr} {u : Value} (h1 : p.block ≠ B) (h2 : p.block ≠ C) : MemAt (W.setCell p u) B C c m :=
  h.kept (Nat.le_of_eq (size_set _ _ _).symm) (Below.heap_setCell _ _ _ _ (Ne.symm h1)) (Below.heap_setCell _ _ _ _ (Ne.symm h2))

/-- behind a store of a word -/
theorem MemAt.setWord {W : World} {B C : Nat} {c : Um.Cf} {m : Um.Mm} (h : MemAt W B C c m) {p y : Nat} (hp : p < c.n) (hy : Um.Word y) : MemAt (W.setCell ⟨C, p, none⟩ (.int .u64 (y : Nat))) B C c ⟨Um.putW m.ws p y, m.cnt, m.l⟩ :=
  have eb : ∀ o, (W.setCell ⟨C, p, none⟩ (.int .u64 (y : Nat))).cell? ⟨B, o, none⟩ = W.cell? ⟨B, o, none⟩ := fun _ => cell_other (.inl h.ne.symm)
  ⟨by rw [size_set]; exact h.hB, by rw [size_set]; exact h.hC, h.ne, h.rt, (eb _).trans h.cf0, (eb _).trans h.cf1, (eb _).trans h.cf2, (eb _).trans h.cf3, (eb _).trans h.cf4, (eb _).trans h.sl, (eb _).trans h.ct,
    (eb _).trans h.l0, (eb _).trans h.l1, (eb _).trans h.l2, (eb _).trans h.l3, (eb _).trans h.l4, (eb _).trans h.l5, fun o => by rw [World.frozen?_setCell]; exact h.fB o, fun o => by rw [World.frozen?_setCell]; exact h.fC o,
    fun j hj => by
      by_cases e : j = p
      · subst e
        rw [cell_same (h.ws j hj)]
        simp [Um.putW]
      · rw [cell_other (.inr (Ne.symm e)), h.ws j hj]
        simp [Um.putW, e],
    Um.word_putW h.wd hy⟩

/-- behind a store of the count -/
theorem MemAt.setCnt {W : World} {B C : Nat} {c : Um.Cf} {m : Um.Mm} (h : MemAt W B C c m) (z : Int) : MemAt (W.setCell ⟨B, 6, none⟩ (.int .i64 z)) B C c ⟨m.ws, z, m.l⟩ :=
  have eb : ∀ o, o ≠ 6 → (W.setCell ⟨B, 6, none⟩ (.int .i64 z)).cell? ⟨B, o, none⟩ = W.cell? ⟨B, o, none⟩ := fun _ e => cell_other (.inr (Ne.symm e))
  ⟨by rw [size_set]; exact h.hB, by rw [size_set]; exact h.hC, h.ne, h.rt, (eb _ (by decide)).trans h.cf0, (eb _ (by decide)).trans h.cf1, (eb _ (by decide)).trans h.cf2, (eb _ (by decide)).trans h.cf3, (eb _ (by decide)).trans h.cf4, (eb _ (by decide)).trans h.sl, cell_same h.ct,
    (eb _ (by decide)).trans h.l0, (eb _ (by decide)).trans h.l1, (eb _ (by decide)).trans h.l2, (eb _ (by decide)).trans h.l3, (eb _ (by decide)).trans h.l4, (eb _ (by decide)).trans h.l5, fun o => by rw [World.frozen?_setCell]; exact h.fB o, fun o => by rw [World.frozen?_setCell]; exact h.fC o,
    fun j hj => (cell_other (.inl h.ne)).trans (h.ws j hj), h.wd⟩

theorem TchAt.set0 {W : World} {B : Nat} {x : Um.Tch} (h : TchAt W B x) (z : Int) : TchAt (W.setCell ⟨B, 0, none⟩ (.int .i64 z)) B ⟨z, x.a, x.b, x.old, x.new, x.done⟩ :=
  ⟨by rw [size_set]; exact h.lt, cell_same h.c0, (cell_other (.inr (by simp))).trans h.c1, (cell_other (.inr (by simp))).trans h.c2, (cell_other (.inr (by simp))).trans h.c3, (cell_other (.inr (by simp))).trans h.c4, (cell_other (.inr (by simp))).trans h.c5, fun o => by rw [World.frozen?_setCell]; exact h.fz o⟩

theorem TchAt.set1 {W : World} {B : Nat} {x : Um.Tch} (h : TchAt W B x) (z : Int) : TchAt (W.setCell ⟨B, 1, none⟩ (.int .i64 z)) B ⟨x.kind, z, x.b, x.old, x.new, x.done⟩ :=
  ⟨by rw [size_set]; exact h.lt, (cell_other (.inr (by simp))).trans h.c0, cell_same h.c1, (cell_other (.inr (by simp))).trans h.c2, (cell_other (.inr (by simp))).trans h.c3, (cell_other (.inr (by simp))).trans h.c4, (cell_other (.inr (by simp))).trans h.c5, fun o => by rw [World.frozen?_setCell]; exact h.fz o⟩

theorem TchAt.set2 {W : World} {B : Nat} {x : Um.Tch} (h : TchAt W B x) (z : Int) : TchAt (W.setCell ⟨B, 2, none⟩ (.int .i64 z)) B ⟨x.kind, x.a, z, x.old, x.new, x.done⟩ :=
  ⟨by rw [size_set]; exact h.lt, (cell_other (.inr (by simp))).trans h.c0, (cell_other (.inr (by simp))).trans h.c1, cell_same h.c2, (cell_other (.inr (by simp))).trans h.c3, (cell_other (.inr (by simp))).trans h.c4, (cell_other (.inr (by simp))).trans h.c5, fun o => by rw [World.frozen?_setCell]; exact h.fz o⟩

theorem TchAt.set3 {W : World} {B : Nat} {x : Um.Tch} (h : TchAt W B x) (z : Nat) : TchAt (W.setCell ⟨B, 3, none⟩ (.int .u64 (z : Nat))) B ⟨x.kind, x.a, x.b, z, x.new, x.done⟩ :=
  ⟨by rw [size_set]; exact h.lt, (cell_other (.inr (by simp))).trans h.c0, (cell_other (.inr (by simp))).trans h.c1, (cell_other (.inr (by simp))).trans h.c2, cell_same h.c3, (cell_other (.inr (by simp))).trans h.c4, (cell_other (.inr (by simp))).trans h.c5, fun o => by rw [World.frozen?_setCell]; exact h.fz o⟩

theorem TchAt.set4 {W : World} {B : Nat} {x : Um.Tch} (h : TchAt W B x) (z : Nat) : TchAt (W.setCell ⟨B, 4, none⟩ (.int .u64 (z : Nat))) B ⟨x.kind, x.a, x.b, x.old, z, x.done⟩ :=
  ⟨by rw [size_set]; exact h.lt, (cell_other (.inr (by simp))).trans h.c0, (cell_other (.inr (by simp))).trans h.c1, (cell_other (.inr (by simp))).trans h.c2, (cell_other (.inr (by simp))).trans h.c3, cell_same h.c4, (cell_other (.inr (by simp))).trans h.c5, fun o => by rw [World.frozen?_setCell]; exact h.fz o⟩

theorem TchAt.set5 {W : World} {B : Nat} {x : Um.Tch} (h : TchAt W B x) (z : Bool) : TchAt (W.setCell ⟨B, 5, none⟩ (.bool z)) B ⟨x.kind, x.a, x.b, x.old, x.new, z⟩ :=
  ⟨by rw [size_set]; exact h.lt, (cell_other (.inr (by simp))).trans h.c0, (cell_other (.inr (by simp))).trans h.c1, (cell_other (.inr (by simp))).trans h.c2, (cell_other (.inr (by simp))).trans h.c3, (cell_other (.inr (by simp))).trans h.c4, cell_same h.c5, fun o => by rw [World.frozen?_setCell]; exact h.fz o⟩

theorem TchAt.drew {W : World} {B : Nat} {x : Um.Tch} (h : TchAt W B x) : TchAt W.drew B x := ⟨h.lt, h.c0, h.c1, h.c2, h.c3, h.c4, h.c5, h.fz⟩

theorem MemAt.drew {W : World} {B C : Nat} {c : Um.Cf} {m : Um.Mm} (h : MemAt W B C c m) : MemAt W.drew B C c m :=
  h.kept (Nat.le_refl _) rfl rfl

theorem TchAt.set {W : World} {B : Nat} {x : Um.Tch} (h : TchAt W B x) {p : Addr} {u : Value} (h1 : p.block ≠ B) : TchAt (W.setCell p u) B x :=
  h.kept (Nat.le_of_eq (size_set _ _ _).symm) (Below.heap_setCell _ _ _ _ (Ne.symm h1))

theorem SpAt.set {W : World} {B : Nat} {a b : Int} (h : SpAt W B a b) {p : Addr} {u : Value} (h1 : p.block ≠ B) : SpAt (W.setCell p u) B a b :=
  h.kept (Nat.le_of_eq (size_set _ _ _).symm) (Below.heap_setCell _ _ _ _ (Ne.symm h1))

theorem MemAt.setL0 {W : World} {B C : Nat} {c : Um.Cf} {m : Um.Mm} (h : MemAt W B C c m) (z : Int) : MemAt (W.setCell ⟨B, 7, none⟩ (.int .i64 z)) B C c ⟨m.ws, m.cnt, ⟨z, m.l.a, m.l.b, m.l.old, m.l.new, m.l.done⟩⟩ :=
  have eb : ∀ o, o ≠ 7 → (W.setCell ⟨B, 7, none⟩ (.int .i64 z)).cell? ⟨B, o, none⟩ = W.cell? ⟨B, o, none⟩ := fun _ e => cell_other (.inr (Ne.symm e))
  ⟨by rw [size_set]; exact h.hB, by rw [size_set]; exact h.hC, h.ne, h.rt, (eb _ (by decide)).trans h.cf0, (eb _ (by decide)).trans h.cf1, (eb _ (by decide)).trans h.cf2, (eb _ (by decide)).trans h.cf3, (eb _ (by decide)).trans h.cf4, (eb _ (by decide)).trans h.sl, (eb _ (by decide)).trans h.ct,
    cell_same h.l0, (eb _ (by decide)).trans h.l1, (eb _ (by decide)).trans h.l2, (eb _ (by decide)).trans h.l3, (eb _ (by decide)).trans h.l4, (eb _ (by decide)).trans h.l5, fun o => by rw [World.frozen?_setCell]; exact h.fB o, fun o => by rw [World.frozen?_setCell]; exact h.fC o,
    fun j hj => (cell_other (.inl h.ne)).trans (h.ws j hj), h.wd⟩

theorem MemAt.setL1 {W : World} {B C : Nat} {c : Um.Cf} {m : Um.Mm} (h : MemAt W B C c m) (z : Int) : MemAt (W.setCell ⟨B, 8, none⟩ (.int .i64 z)) B C c ⟨m.ws, m.cnt, ⟨m.l.kind, z, m.l.b, m.l.old, m.l.new, m.l.done⟩⟩ :=
  have eb : ∀ o, o ≠ 8 → (W.setCell ⟨B, 8, none⟩ (.int .i64 z)).cell? ⟨B, o, none⟩ = W.cell? ⟨B, o, none⟩ := fun _ e => cell_other (.inr (Ne.symm e))
  ⟨by rw [size_set]; exact h.hB, by rw [size_set]; exact h.hC, h.ne, h.rt, (eb _ (by decide)).trans h.cf0, (eb _ (by decide)).trans h.cf1, (eb _ (by decide)).trans h.cf2, (eb _ (by decide)).trans h.cf3, (eb _ (by decide)).trans h.cf4, (eb _ (by decide)).trans h.sl, (eb _ (by decide)).trans h.ct,
    (eb _ (by decide)).trans h.l0, cell_same h.l1, (eb _ (by decide)).trans h.l2, (eb _ (by decide)).trans h.l3, (eb _ (by decide)).trans h.l4, (eb _ (by decide)).trans h.l5, fun o => by rw [World.frozen?_setCell]; exact h.fB o, fun o => by rw [World.frozen?_setCell]; exact h.fC o,
    fun j hj => (cell_other (.inl h.ne)).trans (h.ws j hj), h.wd⟩

theorem MemAt.setL2 {W : World} {B C : Nat} {c : Um.Cf} {m : Um.Mm} (h : MemAt W B C c m) (z : Int) : MemAt (W.setCell ⟨B, 9, none⟩ (.int .i64 z)) B C c ⟨m.ws, m.cnt, ⟨m.l.kind, m.l.a, z, m.l.old, m.l.new, m.l.done⟩⟩ :=
  have eb : ∀ o, o ≠ 9 → (W.setCell ⟨B, 9, none⟩ (.int .i64 z)).cell? ⟨B, o, none⟩ = W.cell? ⟨B, o, none⟩ := fun _ e => cell_other (.inr (Ne.symm e))
  ⟨by rw [size_set]; exact h.hB, by rw [size_set]; exact h.hC, h.ne, h.rt, (eb _ (by decide)).trans h.cf0, (eb _ (by decide)).trans h.cf1, (eb _ (by decide)).trans h.cf2, (eb _ (by decide)).trans h.cf3, (eb _ (by decide)).trans h.cf4, (eb _ (by decide)).trans h.sl, (eb _ (by decide)).trans h.ct,
    (eb _ (by decide)).trans h.l0, (eb _ (by decide)).trans h.l1, cell_same h.l2, (eb _ (by decide)).trans h.l3, (eb _ (by decide)).trans h.l4, (eb _ (by decide)).trans h.l5, fun o => by rw [World.frozen?_setCell]; exact h.fB o, fun o => by rw [World.frozen?_setCell]; exact h.fC o,
    fun j hj => (cell_other (.inl h.ne)).trans (h.ws j hj), h.wd⟩

theorem MemAt.setL3 {W : World} {B C : Nat} {c : Um.Cf} {m : Um.Mm} (h : MemAt W B C c m) (z : Nat) : MemAt (W.setCell ⟨B, 10, none⟩ (.int .u64 (z : Nat))) B C c ⟨m.ws, m.cnt, ⟨m.l.kind, m.l.a, m.l.b, z, m.l.new, m.l.done⟩⟩ :=
  have eb : ∀ o, o ≠ 10 → (W.setCell ⟨B, 10, none⟩ (.int .u64 (z : Nat))).cell? ⟨B, o, none⟩ = W.cell? ⟨B, o, none⟩ := fun _ e => cell_other (.inr (Ne.symm e))
  ⟨by rw [size_set]; exact h.hB, by rw [size_set]; exact h.hC, h.ne, h.rt, (eb _ (by decide)).trans h.cf0, (eb _ (by decide)).trans h.cf1, (eb _ (by decide)).trans h.cf2, (eb _ (by decide)).trans h.cf3, (eb _ (by decide)).trans h.cf4, (eb _ (by decide)).trans h.sl, (eb _ (by decide)).trans h.ct,
    (eb _ (by decide)).trans h.l0, (eb _ (by decide)).trans h.l1, (eb _ (by decide)).trans h.l2, cell_same h.l3, (eb _ (by decide)).trans h.l4, (eb _ (by decide)).trans h.l5, fun o => by rw [World.frozen?_setCell]; exact h.fB o, fun o => by rw [World.frozen?_setCell]; exact h.fC o,
    fun j hj => (cell_other (.inl h.ne)).trans (h.ws j hj), h.wd⟩

theorem MemAt.setL4 {W : World} {B C : Nat} {c : Um.Cf} {m : Um.Mm} (h : MemAt W B C c m) (z : Nat) : MemAt (W.setCell ⟨B, 11, none⟩ (.int .u64 (z : Nat))) B C c ⟨m.ws, m.cnt, ⟨m.l.kind, m.l.a, m.l.b, m.l.old, z, m.l.done⟩⟩ :=
  have eb : ∀ o, o ≠ 11 → (W.setCell ⟨B, 11, none⟩ (.int .u64 (z : Nat))).cell? ⟨B, o, none⟩ = W.cell? ⟨B, o, none⟩ := fun _ e => cell_other (.inr (Ne.symm e))
  ⟨by rw [size_set]; exact h.hB, by rw [size_set]; exact h.hC, h.ne, h.rt, (eb _ (by decide)).trans h.cf0, (eb _ (by decide)).trans h.cf1, (eb _ (by decide)).trans h.cf2, (eb _ (by decide)).trans h.cf3, (eb _ (by decide)).trans h.cf4, (eb _ (by decide)).trans h.sl, (eb _ (by decide)).trans h.ct,
    (eb _ (by decide)).trans h.l0, (eb _ (by decide)).trans h.l1, (eb _ (by decide)).trans h.l2, (eb _ (by decide)).trans h.l3, cell_same h.l4, (eb _ (by decide)).trans h.l5, fun o => by rw [World.frozen?_setCell]; exact h.fB o, fun o => by rw [World.frozen?_setCell]; exact h.fC o,
    fun j hj => (cell_other (.inl h.ne)).trans (h.ws j hj), h.wd⟩

theorem MemAt.setL5 {W : World} {B C : Nat} {c : Um.Cf} {m : Um.Mm} (h : MemAt W B C c m) (z : Bool) : MemAt (W.setCell ⟨B, 12, none⟩ (.bool z)) B C c ⟨m.ws, m.cnt, ⟨m.l.kind, m.l.a, m.l.b, m.l.old, m.l.new, z⟩⟩ :=
  have eb : ∀ o, o ≠ 12 → (W.setCell ⟨B, 12, none⟩ (.bool z)).cell? ⟨B, o, none⟩ = W.cell? ⟨B, o, none⟩ := fun _ e => cell_other (.inr (Ne.symm e))
  ⟨by rw [size_set]; exact h.hB, by rw [size_set]; exact h.hC, h.ne, h.rt, (eb _ (by decide)).trans h.cf0, (eb _ (by decide)).trans h.cf1, (eb _ (by decide)).trans h.cf2, (eb _ (by decide)).trans h.cf3, (eb _ (by decide)).trans h.cf4, (eb _ (by decide)).trans h.sl, (eb _ (by decide)).trans h.ct,
    (eb _ (by decide)).trans h.l0, (eb _ (by decide)).trans h.l1, (eb _ (by decide)).trans h.l2, (eb _ (by decide)).trans h.l3, (eb _ (by decide)).trans h.l4, cell_same h.l5, fun o => by rw [World.frozen?_setCell]; exact h.fB o, fun o => by rw [World.frozen?_setCell]; exact h.fC o,
    fun j hj => (cell_other (.inl h.ne)).trans (h.ws j hj), h.wd⟩

theorem next_eq (z : Int) : wrap64 (z + 1) = Um.nextI z := by
  unfold wrap64 Um.nextI
  rfl

/-- the block B holds these cells -/
structure BlkAt (W : World) (B : Nat) (vs : List Value) : Prop where
  lt : B < W.heap.size
  cell : ∀ (j : Nat) (v : Value), vs[j]? = some v → W.cell? ⟨B, j, none⟩ = some v
  fz : ∀ o, W.frozen? ⟨B, o, none⟩ = false

theorem BlkAt.kept {W W' : World} {B : Nat} {vs : List Value} (h : BlkAt W B vs) (hs : W.heap.size ≤ W'.heap.size) (hb : W'.heap[B]? = W.heap[B]?) : BlkAt W' B vs :=
  ⟨Nat.lt_of_lt_of_le h.lt hs, fun j v e => (World.cell?_of_block (w := W) hb).trans (h.cell j v e), fun o => (World.frozen?_of_block (w := W) hb).trans (h.fz o)⟩

theorem BlkAt.below {W W' : World} {B : Nat} {vs : List Value} (h : BlkAt W B vs) (b : Below W.heap.size W W') : BlkAt W' B vs := h.kept b.size (b.block B h.lt)

theorem BlkAt.off {W W' : World} {B B' C' : Nat} {vs : List Value} (h : BlkAt W B vs) (b : Off B' C' W W') (h1 : B ≠ B') (h2 : B ≠ C') : BlkAt W' B vs := h.kept b.size (b.block B h.lt h1 h2)

theorem BlkAt.drew {W : World} {B : Nat} {vs : List Value} (h : BlkAt W B vs) : BlkAt W.drew B vs := h.kept (Nat.le_refl _) rfl

theorem BlkAt.set {W : World} {B : Nat} {vs : List Value} (h : BlkAt W B vs) {p : Addr} {u : Value} (h1 : p.block ≠ B) : BlkAt (W.setCell p u) B vs :=
  h.kept (Nat.le_of_eq (size_set _ _ _).symm) (Below.heap_setCell _ _ _ _ (Ne.symm h1))

theorem BlkAt.put {W : World} {B : Nat} {vs : List Value} (h : BlkAt W B vs) (j : Nat) (u : Value) : BlkAt (W.setCell ⟨B, j, none⟩ u) B (vs.set j u) := by
  refine ⟨by rw [size_set]; exact h.lt, fun i v e => ?_, fun o => by rw [World.frozen?_setCell]; exact h.fz o⟩
  by_cases e1 : i = j
  · subst e1
    rw [List.getElem?_set] at e
    simp at e
    obtain ⟨e2, rfl⟩ := e
    exact cell_same (h.cell i _ (List.getElem?_eq_getElem e2))
  · rw [cell_other (.inr (Ne.symm e1))]
    rw [List.getElem?_set_ne (Ne.symm e1)] at e
    exact h.cell i v e

theorem blkAt_new {W : World} {B : Nat} {e : TypeId} {cs : Array Value} (hn : W.heap[B]? = some (.cells cs e (0, 0))) : BlkAt W B cs.toList :=
  ⟨(Array.getElem?_eq_some_iff.1 hn).1, fun j v hv => (blk_cell hn j).trans (by simpa using hv), row_frozen hn⟩

end Go.Proofs.YtapgghciieloaaaGreat

/-
  Blocks of a call's own, as a list: what they hold; loads and stores of one cell, or of many at once.
-/
namespace Go.Proofs.YtapgghciieloaaaGreat
set_option maxRecDepth 100000
open Go.RowKit Go.Sort

/-- cells written over, from a place on -/
def blit (cs : List Value) (o : Nat) : List Value → List Value
  | [] => cs
  | v :: r => blit (cs.set o v) (o + 1) r

/-- a part of a row -/
def cutL (cs : List Value) (o n : Nat) : List Value := (cs.drop o).take n

theorem BlkAt.cells {B : Nat} (vs : List Value) : ∀ {cs : List Value} {W : World} (_ : BlkAt W B cs) (o : Nat), BlkAt (W.setCells B o vs) B (blit cs o vs) := by
  induction vs with
  | nil => intro cs W h o; exact h
  | cons v r ih => intro cs W h o; exact ih (h.put o v) (o + 1)

theorem Off.cells {B C : Nat} {a : World} (vs : List Value) : ∀ {w : World} (_ : Off B C a w) (o : Nat), Off B C a (w.setCells B o vs) := by
  induction vs with
  | nil => intro w h o; exact h
  | cons v r ih => intro w h o; exact ih (h.set (.inl rfl) v) (o + 1)

theorem BlkAt.range {W : World} {B : Nat} {cs : List Value} (h : BlkAt W B cs) (o n : Nat) : W.rangeAt B o (cutL cs o n) := by
  intro j v hv
  refine h.cell (o + j) v ?_
  unfold cutL at hv
  by_cases hj : j < n
  · rw [List.getElem?_take_of_lt hj, List.getElem?_drop] at hv
    exact hv
  · rw [List.getElem?_take_eq_none (by omega)] at hv
    cases hv

/-- a memory's state inside a call: nothing elder has turned; blocks of its own hold these cells -/
structure St (w0 w : World) (l : List (Nat × List Value)) : Prop where
  bel : Below w0.heap.size w0 w
  low : ∀ p ∈ l, w0.heap.size ≤ p.1
  blk : ∀ p ∈ l, BlkAt w p.1 p.2
  nd : l.Pairwise (fun p q => p.1 ≠ q.1)

theorem St.new (w : World) : St w w [] := ⟨Below.refl _ _, by simp, by simp, List.Pairwise.nil⟩

theorem St.get {w0 w : World} {l : List (Nat × List Value)} (h : St w0 w l) (k : Nat) {b : Nat} {cs : List Value} (hk : l[k]? = some (b, cs)) : BlkAt w b cs := h.blk (b, cs) (List.mem_of_getElem? hk)

theorem St.ne {w0 w : World} {l : List (Nat × List Value)} (h : St w0 w l) (i j : Nat) {b b' : Nat} {cs cs' : List Value} (hi : l[i]? = some (b, cs)) (hj : l[j]? = some (b', cs')) (hij : i ≠ j) : b ≠ b' := by
  obtain ⟨h1, e1⟩ := List.getElem?_eq_some_iff.1 hi
  obtain ⟨h2, e2⟩ := List.getElem?_eq_some_iff.1 hj
  rcases Nat.lt_or_gt_of_ne hij with hlt | hlt
  · have := List.pairwise_iff_getElem.1 h.nd i j h1 h2 hlt
    rwa [e1, e2] at this
  · have := List.pairwise_iff_getElem.1 h.nd j i h2 h1 hlt
    rw [e1, e2] at this
    exact fun e => this e.symm

theorem St.call {w0 w w' : World} {l : List (Nat × List Value)} (h : St w0 w l) (b : Below w.heap.size w w') : St w0 w' l :=
  ⟨h.bel.trans (b.mono h.bel.size), h.low, fun p hp => (h.blk p hp).below b, h.nd⟩

theorem St.drew {w0 w : World} {l : List (Nat × List Value)} (h : St w0 w l) : St w0 w.drew l := ⟨h.bel.drew, h.low, fun p hp => (h.blk p hp).drew, h.nd⟩

theorem St.undrew {w0 w w' : World} {l : List (Nat × List Value)} (h : St w0 w l) (b : Below w.drew.heap.size w.drew w') : St w0 w' l := h.call (below_undrew b)

theorem St.add {w0 w w' : World} {l : List (Nat × List Value)} (h : St w0 w l) (b : Below w.heap.size w w') {g : Nat} {cs : List Value} (hg : BlkAt w' g cs) (hl : w.heap.size ≤ g) : St w0 w' (l ++ [(g, cs)]) := by
  have h' := h.call b
  refine ⟨h'.bel, fun p hp => ?_, fun p hp => ?_, ?_⟩
  · rcases List.mem_append.1 hp with e | e
    · exact h.low p e
    · obtain rfl : p = _ := by simpa using e
      exact Nat.le_trans h.bel.size hl
  · rcases List.mem_append.1 hp with e | e
    · exact h'.blk p e
    · obtain rfl : p = _ := by simpa using e
      exact hg
  · rw [List.pairwise_append]
    refine ⟨h.nd, by simp, fun p hp q hq => ?_⟩
    obtain rfl : q = _ := by simpa using hq
    have := (h.blk p hp).lt
    intro e
    simp at e
    omega

theorem St.alloc {w0 w : World} {l : List (Nat × List Value)} (h : St w0 w l) (cs : Array Value) (t : TypeId) : St w0 (w.alloc (.cells cs t)) (l ++ [(w.heap.size, cs.toList)]) :=
  h.add ((Below.refl _ _).alloc (Nat.le_refl _) _) (blkAt_new (heap_alloc_new _ _)) (Nat.le_refl _)

theorem pairwise_set {l : List (Nat × List Value)} (h : l.Pairwise (fun p q => p.1 ≠ q.1)) {k b : Nat} {cs cs' : List Value} (hk : l[k]? = some (b, cs)) : (l.set k (b, cs')).Pairwise (fun p q => p.1 ≠ q.1) := by
  have e : (l.set k (b, cs')).map (·.1) = l.map (·.1) := by
    apply List.ext_getElem?
    intro i
    simp only [List.getElem?_map, List.getElem?_set]
    split
    · rename_i e
      subst e
      have hk' := (List.getElem?_eq_some_iff.1 hk).1
      have e := (List.getElem?_eq_some_iff.1 hk).2
      simp [hk', e]
    · rfl
  have h1 : (l.map (·.1)).Pairwise (· ≠ ·) := by rw [List.pairwise_map]; exact h
  rw [← e, List.pairwise_map] at h1
  exact h1

theorem St.turn {w0 w w' : World} {l : List (Nat × List Value)} (h : St w0 w l) (k : Nat) {b : Nat} {cs cs' : List Value} (hk : l[k]? = some (b, cs)) (ho : Off b b w w') (hb : BlkAt w' b cs') : St w0 w' (l.set k (b, cs')) := by
  have hlow := h.low (b, cs) (List.mem_of_getElem? hk)
  refine ⟨h.bel.trans (ho.below h.bel.size hlow hlow), fun p hp => ?_, fun p hp => ?_, pairwise_set h.nd hk⟩
  · rcases List.mem_or_eq_of_mem_set hp with e | e
    · exact h.low p e
    · subst e; exact hlow
  · obtain ⟨i, hi⟩ := List.mem_iff_getElem?.1 hp
    rw [List.getElem?_set] at hi
    split at hi
    · split at hi
      · cases hi; exact hb
      · cases hi
    · rename_i hne
      have hpb := h.blk p (List.mem_of_getElem? hi)
      refine hpb.off ho ?_ ?_ <;>
      · intro e
        have h1 := (List.getElem?_eq_some_iff.1 hi)
        have h2 := (List.getElem?_eq_some_iff.1 hk)
        obtain ⟨h1, e1⟩ := h1
        obtain ⟨h2, e2⟩ := h2
        rcases Nat.lt_or_gt_of_ne hne with hlt | hlt
        · have := List.pairwise_iff_getElem.1 h.nd k i h2 h1 hlt
          rw [e1, e2] at this
          exact this e.symm
        · have := List.pairwise_iff_getElem.1 h.nd i k h1 h2 hlt
          rw [e1, e2] at this
          exact this e

theorem St.store {w0 w : World} {l : List (Nat × List Value)} (h : St w0 w l) (k : Nat) {b : Nat} {cs : List Value} (hk : l[k]? = some (b, cs)) (o : Nat) (vs : List Value) : St w0 (w.setCells b o vs) (l.set k (b, blit cs o vs)) :=
  h.turn k hk ((Off.refl b b w).cells vs o) ((h.get k hk).cells vs o)

/-! ### Runs -/

theorem run_load_st {P : Program} {w : World} {b : Nat} {cs : List Value} (h : BlkAt w b cs) (o : Nat) (ty : TypeId) (n : Nat) (hn : o + n ≤ cs.length) (d : TypeDesc) (hu : P.underlying ty = some d) (hd : d.isRow = true) (hi : (P.info? ty).map (·.size) = some n) :
    (Instr.loadAt ty (.pointer (some ⟨b, o, none⟩))).run P w = .ok (.agg (cutL cs o n).toArray) w :=
  run_loadAt_mid w b o ty (cutL cs o n) d (h.range o n) hu hd (by rw [hi]; simp [cutL]; omega)

theorem run_load1_st {P : Program} {w : World} {b : Nat} {cs : List Value} (h : BlkAt w b cs) (o : Nat) (ty : TypeId) (v : Value) (hv : cs[o]? = some v) (d : TypeDesc) (hu : P.underlying ty = some d) (hd : d.isRow = false) :
    (Instr.loadAt ty (.pointer (some ⟨b, o, none⟩))).run P w = .ok v w := by
  have hagg : (isAgg ty).run P w = .ok false w := by
    unfold isAgg
    rw [Sem.run_bind, run_underlying hu w]
    cases d <;> simp_all
  simp [Instr.loadAt, Instr.sureAddr, loadVar, Sem.run_bind, hagg, h.cell o v hv]

theorem run_store_st {P : Program} {w : World} {b : Nat} {cs : List Value} (h : BlkAt w b cs) (o : Nat) (ty : TypeId) (v : Value) (vs : List Value) (hv : v.cells.toList = vs) (hn : o + vs.length ≤ cs.length) (hi : (P.info? ty).map (·.size) = some vs.length) (h1 : vs.all (·.oneCell') = true) :
    (Instr.storeAt ty (.pointer (some ⟨b, o, none⟩)) v).run P w = .ok () (w.setCells b o vs) := by
  have hst := run_storeCells_cells (P := P) b o vs 0 w (fun j hj => by
      have hj' : o + j < cs.length := by omega
      rw [Nat.add_zero, h.cell (o + j) cs[o + j] (List.getElem?_eq_getElem hj')]; rfl) (fun j _ => h.fz _) (fun v hv => List.all_eq_true.1 h1 v hv)
  cases hq : P.info? ty with
  | none => simp [hq] at hi
  | some i =>
    have hs : v.cells.size = i.size := by
      have : vs.length = i.size := by simp [hq] at hi; omega
      rw [← this, ← hv]; simp
    simp only [Nat.add_zero] at hst
    simp [Instr.storeAt, Instr.sureAddr, storeVar, sizeOf, typeInfo, hq, hs, hv, hst]

/-- a type of many cells -/
def Row (P : Program) (ty : TypeId) (n : Nat) : Prop := ∃ d, P.underlying ty = some d ∧ d.isRow = true ∧ (P.info? ty).map (·.size) = some n

/-- a type of one cell -/
def One (P : Program) (ty : TypeId) : Prop := ∃ d, P.underlying ty = some d ∧ d.isRow = false

/-! ### The walk's steps, at a plain list of operations -/
section
variable {P : Program} {ops : Array Oper} {rest : List Oper} {op : Oper} {a : Act} {w w0 : World} {Q : Exit → Act → World → Prop} {l : List (Nat × List Value)}

theorem wpl_box (hS : St w0 w l) (hw : Region.wanted op (yielded ops a.tmps) = true) (ty : TypeId) (x : Operand) (ho : op.op = .box ty x) (vs : List Value) (hx : a.eval x = .agg (List.toArray vs))
    (f : Nat → Act) (hf : ∀ b, a.put op.dst (.pointer (some ⟨b, 0, none⟩)) = f b) (h : ∀ b w', St w0 w' (l ++ [(b, vs)]) → wpList P ops Q rest (f b) w') : wpList P ops Q (op :: rest) a w := by
  refine BigFrame.wpList_want hw fun K hK => ?_
  have e : (execOp a.eval op).run P w = .ok (.value (.pointer (some ⟨w.heap.size, 0, none⟩))) (w.alloc (.cells (List.toArray vs) ty)) := by
    unfold execOp
    rw [ho]
    dsimp only
    rw [hx]
    simp [Instr.box, newVar, newRow, go_sem, Value.cells]
  unfold Oper.wp
  rw [e]
  exact hK _ _ (by rw [hf]; exact h _ _ (hS.alloc (List.toArray vs) ty))

theorem wpl_alloc (hS : St w0 w l) (hw : Region.wanted op (yielded ops a.tmps) = true) (ty : TypeId) (ho : op.op = .alloc ty) (z : Value) (hz : (P.info? ty).map (·.zero) = some (some z))
    (f : Nat → Act) (hf : ∀ b, a.put op.dst (.pointer (some ⟨b, 0, none⟩)) = f b) (h : ∀ b w', St w0 w' (l ++ [(b, z.cells.toList)]) → wpList P ops Q rest (f b) w') : wpList P ops Q (op :: rest) a w := by
  refine BigFrame.wpList_want hw fun K hK => ?_
  have e : (execOp a.eval op).run P w = .ok (.value (.pointer (some ⟨w.heap.size, 0, none⟩))) (w.alloc (.cells z.cells ty)) := by
    unfold execOp
    rw [ho]
    cases hq : P.info? ty with
    | none => simp [hq] at hz
    | some i =>
      have hz' : i.zero = some z := by simpa [hq] using hz
      simp [Instr.alloc, zeroValue, typeInfo, hq, hz', newVar, newRow, go_sem]
  unfold Oper.wp
  rw [e]
  exact hK _ _ (by rw [hf]; exact h _ _ (hS.alloc z.cells ty))

theorem wpl_load (hS : St w0 w l) (k : Nat) (hw : Region.wanted op (yielded ops a.tmps) = true) (ty : TypeId) (x : Operand) (ho : op.op = .load ty x) (b o : Nat) (hx : a.eval x = .pointer (some ⟨b, o, none⟩)) (cs : List Value) (hk : l[k]? = some (b, cs)) (n : Nat) (hr : Row P ty n) (hn : (o + n).ble cs.length = true) (vs : List Value) (hvs : cutL cs o n = vs)
    (a' : Act) (ha : a.put op.dst (.agg vs.toArray) = a') (h : wpList P ops Q rest a' w) : wpList P ops Q (op :: rest) a w := by
  refine BigFrame.wpList_want hw fun K hK => ?_
  obtain ⟨d, hu, hd, hi⟩ := hr
  subst hvs ha
  have e : (execOp a.eval op).run P w = .ok (.value (.agg (cutL cs o n).toArray)) w := by
    unfold execOp
    rw [ho]
    simp [hx, run_load_st (P := P) (hS.get k hk) o ty n (Nat.le_of_ble_eq_true hn) d hu hd hi]
  unfold Oper.wp
  rw [e]
  exact hK _ _ h

theorem wpl_load1 (hS : St w0 w l) (k : Nat) (hw : Region.wanted op (yielded ops a.tmps) = true) (ty : TypeId) (x : Operand) (ho : op.op = .load ty x) (b o : Nat) (hx : a.eval x = .pointer (some ⟨b, o, none⟩)) (cs : List Value) (hk : l[k]? = some (b, cs)) (hr : One P ty) (v : Value) (hv : cs[o]? = some v)
    (a' : Act) (ha : a.put op.dst v = a') (h : wpList P ops Q rest a' w) : wpList P ops Q (op :: rest) a w := by
  refine BigFrame.wpList_want hw fun K hK => ?_
  obtain ⟨d, hu, hd⟩ := hr
  subst ha
  have e : (execOp a.eval op).run P w = .ok (.value v) w := by
    unfold execOp
    rw [ho]
    simp [hx, run_load1_st (P := P) (hS.get k hk) o ty v hv d hu hd]
  unfold Oper.wp
  rw [e]
  exact hK _ _ h

theorem wpl_store (hS : St w0 w l) (k : Nat) (hw : Region.wanted op (yielded ops a.tmps) = true) (ty : TypeId) (x y : Operand) (ho : op.op = .store ty x y) (b o : Nat) (hx : a.eval x = .pointer (some ⟨b, o, none⟩)) (cs : List Value) (hk : l[k]? = some (b, cs)) (v : Value) (hy : a.eval y = v)
    (vs : List Value) (hv : v.cells.toList = vs) (n : Nat) (hi : (P.info? ty).map (·.size) = some n) (hvn : vs.length = n) (hn : (o + vs.length).ble cs.length = true) (h1 : vs.all (·.oneCell') = true)
    (a' : Act) (ha : a.put op.dst undef = a') (h : ∀ w', St w0 w' (l.set k (b, blit cs o vs)) → wpList P ops Q rest a' w') : wpList P ops Q (op :: rest) a w := by
  refine BigFrame.wpList_want hw fun K hK => ?_
  subst ha
  have e : (execOp a.eval op).run P w = .ok .skip (w.setCells b o vs) := by
    unfold execOp
    rw [ho]
    simp [hx, hy, run_store_st (P := P) (hS.get k hk) o ty v vs hv (Nat.le_of_ble_eq_true hn) (hvn ▸ hi) h1]
  unfold Oper.wp
  rw [e]
  exact hK _ _ (h _ (hS.store k hk o vs))

theorem wpl_storeO (hS : St w0 w l) (k : Nat) (hw : Region.wanted op (yielded ops a.tmps) = true) (ty : TypeId) (x y : Operand) (ho : op.op = .store ty x y) (b o : Nat) (hx : a.eval x = .pointer (some ⟨b, o, none⟩)) (cs : List Value) (hk : l[k]? = some (b, cs)) (v : Value) (hy : a.eval y = v)
    (vs : List Value) (hv : v.cells.toList = vs) (n : Nat) (hi : (P.info? ty).map (·.size) = some n) (hvn : vs.length = n) (hn : (o + vs.length).ble cs.length = true) (h1 : vs.all (·.oneCell') = true)
    (a' : Act) (ha : a.put op.dst undef = a') (h : ∀ w', St w0 w' (l.set k (b, blit cs o vs)) → Off b b w w' → wpList P ops Q rest a' w') : wpList P ops Q (op :: rest) a w := by
  refine BigFrame.wpList_want hw fun K hK => ?_
  subst ha
  have e : (execOp a.eval op).run P w = .ok .skip (w.setCells b o vs) := by
    unfold execOp
    rw [ho]
    simp [hx, hy, run_store_st (P := P) (hS.get k hk) o ty v vs hv (Nat.le_of_ble_eq_true hn) (hvn ▸ hi) h1]
  unfold Oper.wp
  rw [e]
  exact hK _ _ (h _ (hS.store k hk o vs) ((Off.refl b b w).cells vs o))

/-- a value's cells -/
def Sh (v : Value) (vs : List Value) : Prop := v.cells.toList = vs

theorem shA {v : Value} {vs : List Value} (h : v = .agg (List.toArray vs)) : Sh v vs := by subst h; rfl
theorem shI {v : Value} {k : IntKind} {i : Int} (h : v = .int k i) : Sh v [.int k i] := by subst h; rfl
theorem shB {v : Value} {b : Bool} (h : v = .bool b) : Sh v [.bool b] := by subst h; rfl
theorem shS {v : Value} {p : Option Addr} {n c : Nat} (h : v = .slice p n c) : Sh v [.slice p n c] := by subst h; rfl
theorem shP {v : Value} {p : Option Addr} (h : v = .pointer p) : Sh v [.pointer p] := by subst h; rfl
theorem shF {v : Value} {f : Fn} {x y : Array Value} (h : v = .func f x y) : Sh v [.func f x y] := by subst h; rfl
theorem shN {v : Value} (h : v = .nilFunc) : Sh v [.nilFunc] := by subst h; rfl

theorem wpl_ld (hS : St w0 w l) (hw : Region.wanted op (yielded ops a.tmps) = true) (ty : TypeId) (x : Operand) (ho : op.op = .load ty x) (b o : Nat) (hx : a.eval x = .pointer (some ⟨b, o, none⟩))
    (h : ∃ (k : Nat) (cs : List Value), l[k]? = some (b, cs) ∧ ((∃ v, One P ty ∧ cs[o]? = some v ∧ ∃ a', a.put op.dst v = a' ∧ wpList P ops Q rest a' w) ∨ ∃ n vs, Row P ty n ∧ (o + n).ble cs.length = true ∧ cutL cs o n = vs ∧ ∃ a', a.put op.dst (.agg vs.toArray) = a' ∧ wpList P ops Q rest a' w)) : wpList P ops Q (op :: rest) a w := by
  obtain ⟨k, cs, hk, ⟨v, h1, h2, a', ha, h⟩ | ⟨n, vs, h1, h2, h3, a', ha, h⟩⟩ := h
  · exact wpl_load1 hS k hw ty x ho b o hx cs hk h1 v h2 a' ha h
  · exact wpl_load hS k hw ty x ho b o hx cs hk n h1 h2 vs h3 a' ha h

theorem wpl_st (hS : St w0 w l) (hw : Region.wanted op (yielded ops a.tmps) = true) (ty : TypeId) (x y : Operand) (ho : op.op = .store ty x y) (hd : op.dst = none) (b o : Nat) (hx : a.eval x = .pointer (some ⟨b, o, none⟩))
    (h : ∃ (k : Nat) (cs : List Value), l[k]? = some (b, cs) ∧ ∃ vs, Sh (a.eval y) vs ∧ ∃ n, (P.info? ty).map (·.size) = some n ∧ vs.length = n ∧ (o + vs.length).ble cs.length = true ∧ vs.all (·.oneCell') = true ∧ ∀ w', St w0 w' (l.set k (b, blit cs o vs)) → wpList P ops Q rest a w') : wpList P ops Q (op :: rest) a w := by
  obtain ⟨k, cs, hk, vs, h1, n, h2, h3, h4, h5, h⟩ := h
  exact wpl_store hS k hw ty x y ho b o hx cs hk _ rfl vs h1 n h2 h3 h4 h5 a (by rw [hd]; rfl) h

theorem wpl_stO (hS : St w0 w l) (hw : Region.wanted op (yielded ops a.tmps) = true) (ty : TypeId) (x y : Operand) (ho : op.op = .store ty x y) (hd : op.dst = none) (b o : Nat) (hx : a.eval x = .pointer (some ⟨b, o, none⟩))
    (h : ∃ (k : Nat) (cs : List Value), l[k]? = some (b, cs) ∧ ∃ vs, Sh (a.eval y) vs ∧ ∃ n, (P.info? ty).map (·.size) = some n ∧ vs.length = n ∧ (o + vs.length).ble cs.length = true ∧ vs.all (·.oneCell') = true ∧ ∀ w', St w0 w' (l.set k (b, blit cs o vs)) → Off b b w w' → wpList P ops Q rest a w') : wpList P ops Q (op :: rest) a w := by
  obtain ⟨k, cs, hk, vs, h1, n, h2, h3, h4, h5, h⟩ := h
  exact wpl_storeO hS k hw ty x y ho b o hx cs hk _ rfl vs h1 n h2 h3 h4 h5 a (by rw [hd]; rfl) h

end

theorem St.add2 {w0 w w' : World} {l : List (Nat × List Value)} (h : St w0 w l) (b : Below w.heap.size w w') {g h' : Nat} {cs ds : List Value} (hg : BlkAt w' g cs) (hl : w.heap.size ≤ g) (hh : BlkAt w' h' ds) (hl' : w.heap.size ≤ h') (hne : g ≠ h') : St w0 w' (l ++ [(g, cs), (h', ds)]) := by
  have k := h.call b
  refine ⟨k.bel, fun p hp => ?_, fun p hp => ?_, ?_⟩
  · rcases List.mem_append.1 hp with e | e
    · exact h.low p e
    · rcases (by simpa using e : p = (g, cs) ∨ p = (h', ds)) with rfl | rfl
      · exact Nat.le_trans h.bel.size hl
      · exact Nat.le_trans h.bel.size hl'
  · rcases List.mem_append.1 hp with e | e
    · exact k.blk p e
    · rcases (by simpa using e : p = (g, cs) ∨ p = (h', ds)) with rfl | rfl
      · exact hg
      · exact hh
  · rw [List.pairwise_append]
    refine ⟨h.nd, by simpa using hne, fun p hp q hq => ?_⟩
    have := (h.blk p hp).lt
    rcases (by simpa using hq : q = (g, cs) ∨ q = (h', ds)) with rfl | rfl <;>
    · intro e
      simp at e
      omega

/-- a memory's cells -/
def memL (c : Um.Cf) (C : Nat) (m : Um.Mm) : List Value := [.int .i64 c.t, .int .i64 c.s, .int .i64 c.k, .int .i64 c.g, .int .u64 c.q, .slice (some ⟨C, 0, none⟩) c.n c.n, .int .i64 m.cnt, .int .i64 m.l.kind, .int .i64 m.l.a, .int .i64 m.l.b, .int .u64 m.l.old, .int .u64 m.l.new, .bool m.l.done]

theorem MemAt.blkB {W : World} {B C : Nat} {c : Um.Cf} {m : Um.Mm} (h : MemAt W B C c m) : BlkAt W B (memL c C m) := by
  refine ⟨h.hB, fun j v hv => ?_, h.fB⟩
  match j, hv with
  | 0, hv => cases hv; exact h.cf0
  | 1, hv => cases hv; exact h.cf1
  | 2, hv => cases hv; exact h.cf2
  | 3, hv => cases hv; exact h.cf3
  | 4, hv => cases hv; exact h.cf4
  | 5, hv => cases hv; exact h.sl
  | 6, hv => cases hv; exact h.ct
  | 7, hv => cases hv; exact h.l0
  | 8, hv => cases hv; exact h.l1
  | 9, hv => cases hv; exact h.l2
  | 10, hv => cases hv; exact h.l3
  | 11, hv => cases hv; exact h.l4
  | 12, hv => cases hv; exact h.l5
  | j + 13, hv => simp [memL] at hv

theorem MemAt.blkC {W : World} {B C : Nat} {c : Um.Cf} {m : Um.Mm} (h : MemAt W B C c m) : BlkAt W C (rowW m.ws c.n) := by
  refine ⟨h.hC, fun j v hv => ?_, h.fC⟩
  have hj : j < c.n := by have := (List.getElem?_eq_some_iff.1 hv).1; rwa [rowW_len] at this
  rw [rowW_get m.ws c.n j hj] at hv
  cases hv
  exact h.ws j hj

theorem memAt_of {W : World} {B C : Nat} {c : Um.Cf} {m : Um.Mm} (hB : BlkAt W B (memL c C m)) (hC : BlkAt W C (rowW m.ws c.n)) (hne : B ≠ C) (hr : c.r = true) (hw : ∀ j, j < c.n → Um.Word (m.ws j)) : MemAt W B C c m :=
  ⟨hB.lt, hC.lt, hne, hr, hB.cell 0 _ rfl, hB.cell 1 _ rfl, hB.cell 2 _ rfl, hB.cell 3 _ rfl, hB.cell 4 _ rfl, hB.cell 5 _ rfl, hB.cell 6 _ rfl, hB.cell 7 _ rfl, hB.cell 8 _ rfl, hB.cell 9 _ rfl, hB.cell 10 _ rfl, hB.cell 11 _ rfl, hB.cell 12 _ rfl, hB.fz, hC.fz, fun j hj => hC.cell j _ (rowW_get m.ws c.n j hj), hw⟩

theorem St.mem {w0 w w' : World} {l : List (Nat × List Value)} (h : St w0 w l) (i j : Nat) {B C : Nat} {cs cs' ds ds' : List Value} (hi : l[i]? = some (B, cs)) (hj : l[j]? = some (C, ds)) (ho : Off B C w w') (hB : BlkAt w' B cs') (hC : BlkAt w' C ds') : St w0 w' ((l.set i (B, cs')).set j (C, ds')) := by
  have lB := h.low _ (List.mem_of_getElem? hi)
  have lC := h.low _ (List.mem_of_getElem? hj)
  have hj' : ∃ ds0, (l.set i (B, cs'))[j]? = some (C, ds0) := by
    rw [List.getElem?_set]
    split
    · rename_i e
      subst e
      rw [hi] at hj
      cases hj
      exact ⟨cs', by simp [(List.getElem?_eq_some_iff.1 hi).1]⟩
    · exact ⟨ds, hj⟩
  obtain ⟨ds0, hj'⟩ := hj'
  refine ⟨h.bel.trans (ho.below h.bel.size lB lC), fun p hp => ?_, fun p hp => ?_, pairwise_set (pairwise_set h.nd hi) hj'⟩
  · rcases List.mem_or_eq_of_mem_set hp with e | e
    · rcases List.mem_or_eq_of_mem_set e with e | e
      · exact h.low p e
      · subst e; exact lB
    · subst e; exact lC
  · obtain ⟨k, hk⟩ := List.mem_iff_getElem?.1 hp
    rw [List.getElem?_set] at hk
    split at hk
    · split at hk
      · cases hk; exact hC
      · cases hk
    rename_i hne
    rw [List.getElem?_set] at hk
    split at hk
    · split at hk
      · cases hk; exact hB
      · cases hk
    rename_i hne'
    obtain ⟨h1, e1⟩ := List.getElem?_eq_some_iff.1 hk
    have key : ∀ (q : Nat) (b : Nat) (xs : List Value), l[q]? = some (b, xs) → q ≠ k → p.1 ≠ b := by
      intro q b xs hq hqk e
      obtain ⟨h2, e2⟩ := List.getElem?_eq_some_iff.1 hq
      rcases Nat.lt_or_gt_of_ne hqk with hlt | hlt
      · have := List.pairwise_iff_getElem.1 h.nd q k h2 h1 hlt
        rw [e1, e2] at this
        exact this e.symm
      · have := List.pairwise_iff_getElem.1 h.nd k q h1 h2 hlt
        rw [e1, e2] at this
        exact this e
    exact (h.blk p (List.mem_of_getElem? hk)).off ho (key i B cs hi hne') (key j C ds hj hne)

theorem St.addMem {w0 w w' : World} {l : List (Nat × List Value)} (h : St w0 w l) (b : Below w.heap.size w w') {B C : Nat} {c : Um.Cf} {m : Um.Mm} (hM : MemAt w' B C c m) (h1 : w.heap.size ≤ B) (h2 : w.heap.size ≤ C) : St w0 w' (l ++ [(B, memL c C m), (C, rowW m.ws c.n)]) :=
  h.add2 b hM.blkB h1 hM.blkC h2 hM.ne

end Go.Proofs.YtapgghciieloaaaGreat

/-
  The types that blocks are made of: how many cells, which zero.
-/
namespace Go.Proofs.YtapgghciieloaaaGreat
set_option maxRecDepth 100000
open Go.RowKit Go.Sort

theorem row_cfg : Row Tryz.prog 24 5 := ⟨_, Tryz.underlying24, rfl, by kernel_rfl⟩

theorem row_rspot : Row Tryz.prog 31 2 := ⟨_, Tryz.underlying31, rfl, by kernel_rfl⟩

theorem row_rtch : Row Tryz.prog 33 6 := ⟨_, Tryz.underlying33, rfl, by kernel_rfl⟩

theorem row_rmem : Row Tryz.prog 35 13 := ⟨_, Tryz.underlying35, rfl, by kernel_rfl⟩

theorem row_spot : Row Tryz.prog 67 2 := ⟨_, Tryz.underlying67, rfl, by kernel_rfl⟩

theorem row_tch : Row Tryz.prog 113 6 := ⟨_, Tryz.underlying113, rfl, by kernel_rfl⟩

theorem one_int : One Tryz.prog 3 := ⟨_, Tryz.underlying3, rfl⟩

theorem one_u64 : One Tryz.prog 22 := ⟨_, Tryz.underlying22, rfl⟩

theorem one_bool : One Tryz.prog 4 := ⟨_, Tryz.underlying4, rfl⟩

theorem one_words : One Tryz.prog 25 := ⟨_, Tryz.underlying25, rfl⟩

theorem siz_cfg : (Tryz.prog.info? 24).map (·.size) = some 5 := by kernel_rfl

theorem siz_rspot : (Tryz.prog.info? 31).map (·.size) = some 2 := by kernel_rfl

theorem siz_rtch : (Tryz.prog.info? 33).map (·.size) = some 6 := by kernel_rfl

theorem siz_rmem : (Tryz.prog.info? 35).map (·.size) = some 13 := by kernel_rfl

theorem siz_spot : (Tryz.prog.info? 67).map (·.size) = some 2 := by kernel_rfl

theorem siz_tch : (Tryz.prog.info? 113).map (·.size) = some 6 := by kernel_rfl

theorem siz_int : (Tryz.prog.info? 3).map (·.size) = some 1 := by kernel_rfl

theorem siz_u64 : (Tryz.prog.info? 22).map (·.size) = some 1 := by kernel_rfl

theorem siz_bool : (Tryz.prog.info? 4).map (·.size) = some 1 := by kernel_rfl

theorem siz_words : (Tryz.prog.info? 25).map (·.size) = some 1 := by kernel_rfl

theorem zer_rspot : (Tryz.prog.info? 31).map (·.zero) = some (some (.agg #[.int .i64 0, .int .i64 0])) := by kernel_rfl

theorem zer_spot : (Tryz.prog.info? 67).map (·.zero) = some (some (.agg #[.int .i64 0, .int .i64 0])) := by kernel_rfl

theorem zer_cfg : (Tryz.prog.info? 24).map (·.zero) = some (some (.agg #[.int .i64 0, .int .i64 0, .int .i64 0, .int .i64 0, .int .u64 0])) := by kernel_rfl

theorem zer_rtch : (Tryz.prog.info? 33).map (·.zero) = some (some (.agg #[.int .i64 0, .int .i64 0, .int .i64 0, .int .u64 0, .int .u64 0, .bool false])) := by kernel_rfl

theorem zer_tch : (Tryz.prog.info? 113).map (·.zero) = some (some (.agg #[.int .i64 0, .int .i64 0, .int .i64 0, .int .u64 0, .int .u64 0, .bool false])) := by kernel_rfl

theorem zer_rmem : (Tryz.prog.info? 35).map (·.zero) = some (some (.agg #[.int .i64 0, .int .i64 0, .int .i64 0, .int .i64 0, .int .u64 0, .slice none 0 0, .int .i64 0, .int .i64 0, .int .i64 0, .int .i64 0, .int .u64 0, .int .u64 0, .bool false])) := by kernel_rfl

theorem look_mem {β : Type} {l : List (Nat × β)} {k : Nat} {v : β} (h : l.lookup k = some v) : (k, v) ∈ l := by
  induction l with
  | nil => cases h
  | cons x r ih =>
    obtain ⟨a, b⟩ := x
    simp only [List.lookup] at h
    split at h
    · rename_i e
      cases h
      rw [eq_of_beq e]
      exact List.mem_cons_self
    · exact List.mem_cons_of_mem _ (ih h)

def rowT : List (Nat × Nat) := [(35, 13), (33, 6), (31, 2), (24, 5), (67, 2), (113, 6)]

theorem row_all : ∀ p ∈ rowT, Row Tryz.prog p.1 p.2 := by
  intro p hp
  simp only [rowT, List.mem_cons, List.not_mem_nil, or_false] at hp
  rcases hp with rfl | rfl | rfl | rfl | rfl | rfl
  · exact row_rmem
  · exact row_rtch
  · exact row_rspot
  · exact row_cfg
  · exact row_spot
  · exact row_tch

theorem row_any {ty : Nat} {v : Nat} (h : rowT.lookup ty = some v) : Row Tryz.prog ty v := row_all (ty, v) (look_mem h)

def onuT : List (Nat × Unit) := [(3, ()), (22, ()), (4, ()), (25, ())]

theorem onu_all : ∀ p ∈ onuT, One Tryz.prog p.1 := by
  intro p hp
  simp only [onuT, List.mem_cons, List.not_mem_nil, or_false] at hp
  rcases hp with rfl | rfl | rfl | rfl
  · exact one_int
  · exact one_u64
  · exact one_bool
  · exact one_words

theorem onu_any {ty : Nat} {v : Unit} (h : onuT.lookup ty = some v) : One Tryz.prog ty := onu_all (ty, v) (look_mem h)

theorem one_any {ty : Nat} (h : onuT.lookup ty = some ()) : One Tryz.prog ty := onu_any h

def sizT : List (Nat × Nat) := [(35, 13), (33, 6), (31, 2), (24, 5), (67, 2), (113, 6), (3, 1), (22, 1), (4, 1), (25, 1)]

theorem siz_all : ∀ p ∈ sizT, (Tryz.prog.info? p.1).map (·.size) = some p.2 := by
  intro p hp
  simp only [sizT, List.mem_cons, List.not_mem_nil, or_false] at hp
  rcases hp with rfl | rfl | rfl | rfl | rfl | rfl | rfl | rfl | rfl | rfl
  · exact siz_rmem
  · exact siz_rtch
  · exact siz_rspot
  · exact siz_cfg
  · exact siz_spot
  · exact siz_tch
  · exact siz_int
  · exact siz_u64
  · exact siz_bool
  · exact siz_words

theorem siz_any {ty : Nat} {v : Nat} (h : sizT.lookup ty = some v) : (Tryz.prog.info? ty).map (·.size) = some v := siz_all (ty, v) (look_mem h)

def zerT : List (Nat × Value) := [(35, (.agg #[.int .i64 0, .int .i64 0, .int .i64 0, .int .i64 0, .int .u64 0, .slice none 0 0, .int .i64 0, .int .i64 0, .int .i64 0, .int .i64 0, .int .u64 0, .int .u64 0, .bool false])), (33, (.agg #[.int .i64 0, .int .i64 0, .int .i64 0, .int .u64 0, .int .u64 0, .bool false])), (31, (.agg #[.int .i64 0, .int .i64 0])), (24, (.agg #[.int .i64 0, .int .i64 0, .int .i64 0, .int .i64 0, .int .u64 0])), (67, (.agg #[.int .i64 0, .int .i64 0])), (113, (.agg #[.int .i64 0, .int .i64 0, .int .i64 0, .int .u64 0, .int .u64 0, .bool false]))]

theorem zer_all : ∀ p ∈ zerT, (Tryz.prog.info? p.1).map (·.zero) = some (some p.2) := by
  intro p hp
  simp only [zerT, List.mem_cons, List.not_mem_nil, or_false] at hp
  rcases hp with rfl | rfl | rfl | rfl | rfl | rfl
  · exact zer_rmem
  · exact zer_rtch
  · exact zer_rspot
  · exact zer_cfg
  · exact zer_spot
  · exact zer_tch

theorem zer_any {ty : Nat} {v : Value} (h : zerT.lookup ty = some v) : (Tryz.prog.info? ty).map (·.zero) = some (some v) := zer_all (ty, v) (look_mem h)


end Go.Proofs.YtapgghciieloaaaGreat

/-
  Blocks of a call's own in a region that draws its order: one operation at a time.
-/
namespace Go.Proofs.YtapgghciieloaaaGreat
set_option maxRecDepth 100000
open Go.RowKit Go.Sort

theorem St.sub {w0 w : World} {l l' : List (Nat × List Value)} (h : St w0 w l) (e : List.Sublist l' l) : St w0 w l' :=
  ⟨h.bel, fun p hp => h.low p (e.subset hp), fun p hp => h.blk p (e.subset hp), h.nd.sublist e⟩

theorem cond_at {b : Bool} {x y z : Value} (h : b = true) (hx : x = z) : cond b x y = z := by rw [h]; exact hx
theorem og_not {p q : Bool} (h : p = true → q = true) (hq : q = false) : p = false := by
  cases p with
  | false => rfl
  | true => rw [h rfl] at hq; cases hq

section
variable {P : Program} {ops : Array Oper} {o : Oper} {a : Act} {w w0 : World} {K : Act → World → Prop} {Q : Exit → Act → World → Prop} {E : Prop} {l : List (Nat × List Value)} {S : World → Prop}

theorem stp_call (hw : Region.wanted o (yielded ops a.tmps) = true) (f : FuncId) (ys : List Operand) (ts : Array TypeId) (ho : o.op = .call { callee := .value (.func f), args := List.toArray ys, argTypes := ts }) (eg : ∀ args w, (callFunc f args).run P w = .ok (.enter f args) w) (args : List Value) (hargs : ys.map a.eval = args)
    (d : Option Tmp) (hd : o.dst = d) (h : Calls P f (List.toArray args) w fun e w' => ∃ v, e = .returned v ∧ K (a.put d v) w') : if Region.wanted o (yielded ops a.tmps) = true then Oper.wp P o a w K Q else E := by
  rw [if_pos hw]
  have e : (execOp a.eval o).run P w = .ok (.enter f (List.toArray args)) w := by
    unfold execOp
    rw [ho]
    subst hargs
    simp [resolve, invoke, eg, go_sem]
  unfold Oper.wp
  rw [e]
  refine h.mono ?_
  rintro e w' ⟨v, rfl, hk⟩
  rw [← hd] at hk
  exact hk

theorem yif_load1 (hw : Region.wanted o (yielded ops a.tmps) = true) (ty : TypeId) (x : Operand) (ho : o.op = .load ty x) (b off : Nat) (hx : a.eval x = .pointer (some ⟨b, off, none⟩)) (cs : List Value) (hS : ∀ w, S w → BlkAt w b cs) (hr : One P ty) (v : Value) (hv : cs[off]? = some v) : YieldsIf P ops S o v a := by
  obtain ⟨d, hu, hd⟩ := hr
  exact .inl ⟨hw, fun w h => by unfold execOp; rw [ho]; simp [hx, run_load1_st (P := P) (hS w h) off ty v hv d hu hd]⟩

theorem stp_val {v : Value} (hw : Region.wanted o (yielded ops a.tmps) = true) (hy : YieldsIf P ops (fun q => q = w) o v a) {d : Option Tmp} (hd : o.dst = d) (h : K (a.put d v) w) : if Region.wanted o (yielded ops a.tmps) = true then Oper.wp P o a w K Q else E := by
  rw [if_pos hw]
  rcases hy with ⟨_, hv⟩ | ⟨hn, _⟩
  · unfold Oper.wp
    rw [hv w rfl]
    subst hd
    exact h
  · rw [hn] at hw
    cases hw

theorem yif_by (hw : Region.wanted o (yielded ops a.tmps) = true) (v : Value) (h : ∀ w, (execOp a.eval o).run P w = .ok (.value v) w) : YieldsIf P ops S o v a := .inl ⟨hw, fun w _ => h w⟩

end

end Go.Proofs.YtapgghciieloaaaGreat

/-
  Blocks as two lists: those that may be written (of the call's own, or handed in), those that are only read. What they hold; loads and stores of one cell, or of many at once.
-/
namespace Go.Proofs.YtapgghciieloaaaGreat
set_option maxRecDepth 100000
open Go.RowKit Go.Sort

/-- all that there was stays, but for these blocks -/
structure Turn (bs : List Nat) (w w' : World) : Prop where
  os : w'.os = w.os
  tape : w'.tape = w.tape
  output : w'.output = w.output
  size : w.heap.size ≤ w'.heap.size
  block : ∀ k, k < w.heap.size → k ∉ bs → w'.heap[k]? = w.heap[k]?

theorem Turn.refl (bs : List Nat) (w : World) : Turn bs w w := ⟨rfl, rfl, rfl, Nat.le_refl _, fun _ _ _ => rfl⟩

theorem Turn.trans {bs : List Nat} {a b c : World} (h : Turn bs a b) (k : Turn bs b c) : Turn bs a c :=
  ⟨k.os.trans h.os, k.tape.trans h.tape, k.output.trans h.output, Nat.le_trans h.size k.size, fun i hi h1 => (k.block i (Nat.lt_of_lt_of_le hi h.size) h1).trans (h.block i hi h1)⟩

theorem Turn.of_below {bs : List Nat} {w w' : World} (h : Below w.heap.size w w') : Turn bs w w' := ⟨h.os, h.tape, h.output, h.size, fun k hk _ => h.block k hk⟩

theorem Turn.below {w w' : World} (h : Turn [] w w') : Below w.heap.size w w' := ⟨h.os, h.tape, h.output, h.size, fun k hk => h.block k hk (by simp)⟩

theorem Turn.of_off {B C : Nat} {w w' : World} (h : Off B C w w') : Turn [B, C] w w' := ⟨h.os, h.tape, h.output, h.size, fun k hk hn => h.block k hk (fun e => hn (by simp [e])) (fun e => hn (by simp [e]))⟩

theorem Turn.of_off1 {B : Nat} {w w' : World} (h : Off B B w w') : Turn [B] w w' := ⟨h.os, h.tape, h.output, h.size, fun k hk hn => h.block k hk (fun e => hn (by simp [e])) (fun e => hn (by simp [e]))⟩

theorem Turn.drew {bs : List Nat} {a w : World} (h : Turn bs a w) : Turn bs a w.drew := ⟨h.os, h.tape, h.output, h.size, h.block⟩

/-- turned blocks are allowed ones, or new -/
theorem Turn.widen {bs bs' : List Nat} {a b c : World} (h : Turn bs a b) (k : Turn bs' b c) (hs : ∀ x ∈ bs', x ∈ bs ∨ a.heap.size ≤ x) : Turn bs a c :=
  ⟨k.os.trans h.os, k.tape.trans h.tape, k.output.trans h.output, Nat.le_trans h.size k.size, fun i hi h1 => (k.block i (Nat.lt_of_lt_of_le hi h.size) (fun hm => by rcases hs i hm with e | e <;> first | exact h1 e | omega)).trans (h.block i hi h1)⟩

theorem BlkAt.turn {w w' : World} {bs : List Nat} {g : Nat} {cs : List Value} (h : BlkAt w g cs) (t : Turn bs w w') (hn : g ∉ bs) : BlkAt w' g cs := h.kept t.size (t.block g h.lt hn)

/-- a memory's state inside a call: l may be written, e is only read -/
structure Sx (bs : List Nat) (w0 w : World) (l e : List (Nat × List Value)) : Prop where
  off : Turn bs w0 w
  low : ∀ p ∈ l, p.1 ∈ bs ∨ w0.heap.size ≤ p.1
  blk : ∀ p ∈ l, BlkAt w p.1 p.2
  nd : l.Pairwise (fun p q => p.1 ≠ q.1)
  eb : ∀ p ∈ e, BlkAt w p.1 p.2
  ed : ∀ p ∈ e, ∀ q ∈ l, p.1 ≠ q.1

section
variable {bs : List Nat} {w0 w w' : World} {l e : List (Nat × List Value)}

theorem Sx.new (w : World) : Sx [] w w [] [] := ⟨Turn.refl _ _, by simp, by simp, List.Pairwise.nil, by simp, by simp⟩

theorem Sx.read (w : World) (e : List (Nat × List Value)) (h : ∀ p ∈ e, BlkAt w p.1 p.2) : Sx [] w w [] e := ⟨Turn.refl _ _, by simp, by simp, List.Pairwise.nil, h, by simp⟩

theorem Sx.start (l e : List (Nat × List Value)) (h : ∀ p ∈ l, BlkAt w p.1 p.2) (nd : l.Pairwise (fun p q => p.1 ≠ q.1)) (he : ∀ p ∈ e, BlkAt w p.1 p.2) (ed : ∀ p ∈ e, ∀ q ∈ l, p.1 ≠ q.1) : Sx (l.map (·.1)) w w l e :=
  ⟨Turn.refl _ _, fun _ hp => .inl (List.mem_map_of_mem hp), h, nd, he, ed⟩

/-- what a caller has is what the callee begins with -/
theorem Sx.enter (h : Sx bs w0 w l e) (l' e' : List (Nat × List Value)) (hl : ∀ p ∈ l', p ∈ l) (nd : l'.Pairwise (fun p q => p.1 ≠ q.1)) (he : ∀ p ∈ e', p ∈ e) : Sx (l'.map (·.1)) w w l' e' :=
  Sx.start l' e' (fun p hp => h.blk p (hl p hp)) nd (fun p hp => h.eb p (he p hp)) (fun p hp q hq => h.ed p (he p hp) q (hl q hq))

theorem Sx.get (h : Sx bs w0 w l e) (k : Nat) {b : Nat} {cs : List Value} (hk : l[k]? = some (b, cs)) : BlkAt w b cs := h.blk (b, cs) (List.mem_of_getElem? hk)

theorem Sx.getE (h : Sx bs w0 w l e) (k : Nat) {b : Nat} {cs : List Value} (hk : e[k]? = some (b, cs)) : BlkAt w b cs := h.eb (b, cs) (List.mem_of_getElem? hk)

theorem Sx.ne (h : Sx bs w0 w l e) (i j : Nat) {b b' : Nat} {cs cs' : List Value} (hi : l[i]? = some (b, cs)) (hj : l[j]? = some (b', cs')) (hij : i ≠ j) : b ≠ b' := by
  obtain ⟨h1, e1⟩ := List.getElem?_eq_some_iff.1 hi
  obtain ⟨h2, e2⟩ := List.getElem?_eq_some_iff.1 hj
  rcases Nat.lt_or_gt_of_ne hij with hlt | hlt
  · have := List.pairwise_iff_getElem.1 h.nd i j h1 h2 hlt
    rwa [e1, e2] at this
  · have := List.pairwise_iff_getElem.1 h.nd j i h2 h1 hlt
    rw [e1, e2] at this
    exact fun e => this e.symm

theorem Sx.size (h : Sx bs w0 w l e) : w0.heap.size ≤ w.heap.size := h.off.size

theorem Sx.bel (h : Sx [] w0 w l e) : Below w0.heap.size w0 w := h.off.below

theorem Sx.call (h : Sx bs w0 w l e) (b : Below w.heap.size w w') : Sx bs w0 w' l e :=
  ⟨h.off.trans (Turn.of_below b), h.low, fun p hp => (h.blk p hp).below b, h.nd, fun p hp => (h.eb p hp).below b, h.ed⟩

theorem Sx.drew (h : Sx bs w0 w l e) : Sx bs w0 w.drew l e := ⟨h.off.drew, h.low, fun p hp => (h.blk p hp).drew, h.nd, fun p hp => (h.eb p hp).drew, h.ed⟩

theorem Sx.undrew (h : Sx bs w0 w l e) (b : Below w.drew.heap.size w.drew w') : Sx bs w0 w' l e := h.call (below_undrew b)

/-- new blocks behind a call -/
theorem Sx.adds (h : Sx bs w0 w l e) (b : Below w.heap.size w w') (n : List (Nat × List Value)) (hg : ∀ p ∈ n, BlkAt w' p.1 p.2) (hl : ∀ p ∈ n, w.heap.size ≤ p.1) (hn : n.Pairwise (fun p q => p.1 ≠ q.1)) : Sx bs w0 w' (l ++ n) e := by
  have h' := h.call b
  refine ⟨h'.off, fun p hp => ?_, fun p hp => ?_, ?_, h'.eb, fun p hp q hq => ?_⟩
  · rcases List.mem_append.1 hp with e | e
    · exact h.low p e
    · exact .inr (Nat.le_trans h.size (hl p e))
  · rcases List.mem_append.1 hp with e | e
    · exact h'.blk p e
    · exact hg p e
  · rw [List.pairwise_append]
    refine ⟨h.nd, hn, fun p hp q hq => ?_⟩
    have := (h.blk p hp).lt
    have := hl q hq
    omega
  · rcases List.mem_append.1 hq with e | e
    · exact h.ed p hp q e
    · have := (h.eb p hp).lt
      have := hl q e
      omega

theorem Sx.add (h : Sx bs w0 w l e) (b : Below w.heap.size w w') {g : Nat} {cs : List Value} (hg : BlkAt w' g cs) (hl : w.heap.size ≤ g) : Sx bs w0 w' (l ++ [(g, cs)]) e :=
  h.adds b [(g, cs)] (fun p hp => by obtain rfl : p = _ := by simpa using hp
                                     exact hg) (fun p hp => by obtain rfl : p = _ := by simpa using hp
                                                               exact hl) (List.pairwise_singleton _ _)

/-- a new block that is only read from here on -/
theorem Sx.addE (h : Sx bs w0 w l e) (b : Below w.heap.size w w') {g : Nat} {cs : List Value} (hg : BlkAt w' g cs) (hl : w.heap.size ≤ g) : Sx bs w0 w' l (e ++ [(g, cs)]) := by
  have h' := h.call b
  refine ⟨h'.off, h'.low, h'.blk, h'.nd, fun p hp => ?_, fun p hp q hq => ?_⟩
  · rcases List.mem_append.1 hp with e | e
    · exact h'.eb p e
    · obtain rfl : p = _ := by simpa using e
      exact hg
  · rcases List.mem_append.1 hp with e | e
    · exact h.ed p e q hq
    · obtain rfl : p = _ := by simpa using e
      have := (h.blk q hq).lt
      show g ≠ q.1
      omega

/-- the last of the blocks that may be written is only read from here on -/
theorem Sx.shelve {g : Nat} {cs : List Value} (h : Sx bs w0 w (l ++ [(g, cs)]) e) : Sx bs w0 w l (e ++ [(g, cs)]) := by
  have hp := List.pairwise_append.1 h.nd
  refine ⟨h.off, fun p hp => h.low p (List.mem_append_left _ hp), fun p hp => h.blk p (List.mem_append_left _ hp), hp.1, fun p hq => ?_, fun p hq q hr => ?_⟩
  · rcases List.mem_append.1 hq with e | e
    · exact h.eb p e
    · obtain rfl : p = _ := by simpa using e
      exact h.blk _ (by simp)
  · rcases List.mem_append.1 hq with e | e
    · exact h.ed p e q (List.mem_append_left _ hr)
    · obtain rfl : p = _ := by simpa using e
      exact fun e => hp.2.2 q hr (g, cs) (by simp) e.symm

theorem Sx.alloc (h : Sx bs w0 w l e) (cs : Array Value) (t : TypeId) : Sx bs w0 (w.alloc (.cells cs t)) (l ++ [(w.heap.size, cs.toList)]) e :=
  h.add ((Below.refl _ _).alloc (Nat.le_refl _) _) (blkAt_new (heap_alloc_new _ _)) (Nat.le_refl _)

theorem Sx.take (h : Sx bs w0 w l e) (n : Nat) : Sx bs w0 w (l.take n) e :=
  have s := List.take_sublist n l
  ⟨h.off, fun p hp => h.low p (s.subset hp), fun p hp => h.blk p (s.subset hp), h.nd.sublist s, h.eb, fun p hp q hq => h.ed p hp q (s.subset hq)⟩

/-- blocks written over, each at its place -/
def putL (l : List (Nat × List Value)) : List (Nat × Nat × List Value) → List (Nat × List Value)
  | [] => l
  | u :: r => putL (l.set u.1 (u.2.1, u.2.2)) r

theorem putL_mem (us : List (Nat × Nat × List Value)) : ∀ (l : List (Nat × List Value)) (p : Nat × List Value), p ∈ putL l us → (∃ u ∈ us, p = (u.2.1, u.2.2)) ∨ ∃ k, l[k]? = some p ∧ ∀ u ∈ us, u.1 ≠ k := by
  induction us with
  | nil =>
    intro l p hp
    obtain ⟨k, hk⟩ := List.mem_iff_getElem?.1 hp
    exact .inr ⟨k, hk, by simp⟩
  | cons u r ih =>
    intro l p hp
    rcases ih _ p hp with ⟨v, hv, e⟩ | ⟨k, hk, hn⟩
    · exact .inl ⟨v, List.mem_cons_of_mem _ hv, e⟩
    · rw [List.getElem?_set] at hk
      split at hk
      · split at hk
        · cases hk
          exact .inl ⟨u, by simp, rfl⟩
        · cases hk
      · rename_i hne
        refine .inr ⟨k, hk, fun v hv => ?_⟩
        rcases List.mem_cons.1 hv with rfl | hv
        · exact hne
        · exact hn v hv

theorem putL_fst (us : List (Nat × Nat × List Value)) : ∀ (l : List (Nat × List Value)), (∀ u ∈ us, ∃ cs, l[u.1]? = some (u.2.1, cs)) → (putL l us).map (·.1) = l.map (·.1) := by
  induction us with
  | nil => intro l _; rfl
  | cons u r ih =>
    intro l h
    have e : (l.set u.1 (u.2.1, u.2.2)).map (·.1) = l.map (·.1) := by
      obtain ⟨cs, hk⟩ := h u (by simp)
      apply List.ext_getElem?
      intro i
      simp only [List.getElem?_map, List.getElem?_set]
      split
      · rename_i e
        subst e
        have hk' := (List.getElem?_eq_some_iff.1 hk).1
        have e := (List.getElem?_eq_some_iff.1 hk).2
        simp [hk', e]
      · rfl
    refine (ih _ fun v hv => ?_).trans e
    obtain ⟨cs, hk⟩ := h v (List.mem_cons_of_mem _ hv)
    have hq : ((l.set u.1 (u.2.1, u.2.2)).map (·.1))[v.1]? = some v.2.1 := by rw [e]; simp [hk]
    simp only [List.getElem?_map] at hq
    cases hx : (l.set u.1 (u.2.1, u.2.2))[v.1]? with
    | none => rw [hx] at hq; cases hq
    | some y =>
      rw [hx] at hq
      simp at hq
      exact ⟨y.2, by rw [← hq]⟩

/-- a call that turns some of the blocks, and hands on one of those that are only read -/
theorem Sx.mix (h : Sx bs w0 w l e) (us : List (Nat × Nat × List Value)) (hu : ∀ u ∈ us, ∃ cs, l[u.1]? = some (u.2.1, cs)) (t : Turn (us.map (·.2.1)) w w') (hb : ∀ u ∈ us, BlkAt w' u.2.1 u.2.2)
    (k : Nat) {g g' : Nat} {cs cs' : List Value} (hk : e[k]? = some (g, cs)) (hg : g' = g ∨ w.heap.size ≤ g') (hg' : BlkAt w' g' cs') : Sx bs w0 w' (putL l us) (e.set k (g', cs')) := by
  have hin : ∀ x ∈ us.map (·.2.1), ∃ q ∈ l, q.1 = x := by
    intro x hx
    obtain ⟨u, hu', rfl⟩ := List.mem_map.1 hx
    obtain ⟨cs, hk⟩ := hu u hu'
    exact ⟨_, List.mem_of_getElem? hk, rfl⟩
  have hen : ∀ p ∈ e, p.1 ∉ us.map (·.2.1) := by
    intro p hp hx
    obtain ⟨q, hq, e⟩ := hin _ hx
    exact h.ed p hp q hq e.symm
  have hmem : ∀ p ∈ putL l us, ∃ q ∈ l, q.1 = p.1 := by
    intro p hp
    have : p.1 ∈ (putL l us).map (·.1) := List.mem_map_of_mem hp
    rw [putL_fst us l hu] at this
    obtain ⟨q, hq, e⟩ := List.mem_map.1 this
    exact ⟨q, hq, e⟩
  refine ⟨h.off.widen t fun x hx => ?_, fun p hp => ?_, fun p hp => ?_, ?_, fun p hp => ?_, fun p hp q hq => ?_⟩
  · obtain ⟨q, hq, rfl⟩ := hin x hx
    exact h.low q hq
  · obtain ⟨q, hq, e⟩ := hmem p hp
    rw [← e]
    exact h.low q hq
  · rcases putL_mem us l p hp with ⟨u, hu', rfl⟩ | ⟨i, hi, hn⟩
    · exact hb u hu'
    · refine (h.blk p (List.mem_of_getElem? hi)).turn t fun hx => ?_
      obtain ⟨u, hu', e⟩ := List.mem_map.1 hx
      obtain ⟨cs, hk⟩ := hu u hu'
      exact h.ne (cs := cs) (cs' := p.2) u.1 i hk hi (hn u hu') e
  · have : ((putL l us).map (·.1)).Pairwise (· ≠ ·) := by rw [putL_fst us l hu, List.pairwise_map]; exact h.nd
    rw [List.pairwise_map] at this
    exact this
  · rcases List.mem_or_eq_of_mem_set hp with hp | rfl
    · exact (h.eb p hp).turn t (hen p hp)
    · exact hg'
  · obtain ⟨r, hr, er⟩ := hmem q hq
    rw [← er]
    rcases List.mem_or_eq_of_mem_set hp with hp | rfl
    · exact h.ed p hp r hr
    · rcases hg with rfl | hg
      · exact h.ed _ (List.mem_of_getElem? hk) r hr
      · have := (h.blk r hr).lt
        show g' ≠ r.1
        omega

theorem Sx.sets (h : Sx bs w0 w l e) (us : List (Nat × Nat × List Value)) (hu : ∀ u ∈ us, ∃ cs, l[u.1]? = some (u.2.1, cs)) (t : Turn (us.map (·.2.1)) w w') (hb : ∀ u ∈ us, BlkAt w' u.2.1 u.2.2) : Sx bs w0 w' (putL l us) e := by
  have hin : ∀ x ∈ us.map (·.2.1), ∃ q ∈ l, q.1 = x := by
    intro x hx
    obtain ⟨u, hu', rfl⟩ := List.mem_map.1 hx
    obtain ⟨cs, hk⟩ := hu u hu'
    exact ⟨_, List.mem_of_getElem? hk, rfl⟩
  have hen : ∀ p ∈ e, p.1 ∉ us.map (·.2.1) := by
    intro p hp hx
    obtain ⟨q, hq, e⟩ := hin _ hx
    exact h.ed p hp q hq e.symm
  have hmem : ∀ p ∈ putL l us, ∃ q ∈ l, q.1 = p.1 := by
    intro p hp
    have : p.1 ∈ (putL l us).map (·.1) := List.mem_map_of_mem hp
    rw [putL_fst us l hu] at this
    obtain ⟨q, hq, e⟩ := List.mem_map.1 this
    exact ⟨q, hq, e⟩
  refine ⟨h.off.widen t fun x hx => ?_, fun p hp => ?_, fun p hp => ?_, ?_, fun p hp => (h.eb p hp).turn t (hen p hp), fun p hp q hq => ?_⟩
  · obtain ⟨q, hq, rfl⟩ := hin x hx
    exact h.low q hq
  · obtain ⟨q, hq, e⟩ := hmem p hp
    rw [← e]
    exact h.low q hq
  · rcases putL_mem us l p hp with ⟨u, hu', rfl⟩ | ⟨i, hi, hn⟩
    · exact hb u hu'
    · refine (h.blk p (List.mem_of_getElem? hi)).turn t fun hx => ?_
      obtain ⟨u, hu', e⟩ := List.mem_map.1 hx
      obtain ⟨cs, hk⟩ := hu u hu'
      exact h.ne (cs := cs) (cs' := p.2) u.1 i hk hi (hn u hu') e
  · have : ((putL l us).map (·.1)).Pairwise (· ≠ ·) := by rw [putL_fst us l hu, List.pairwise_map]; exact h.nd
    rw [List.pairwise_map] at this
    exact this
  · obtain ⟨r, hr, er⟩ := hmem q hq
    rw [← er]
    exact h.ed p hp r hr

/-- a call that only hands on one of the blocks that are only read -/
theorem Sx.ref (h : Sx bs w0 w l e) (b : Below w.heap.size w w') (k : Nat) {g g' : Nat} {cs cs' : List Value} (hk : e[k]? = some (g, cs)) (hg : g' = g ∨ w.heap.size ≤ g') (hg' : BlkAt w' g' cs') : Sx bs w0 w' l (e.set k (g', cs')) :=
  h.mix [] (by simp) (Turn.of_below b) (by simp) k hk hg hg'

theorem Sx.store (h : Sx bs w0 w l e) (k : Nat) {b : Nat} {cs : List Value} (hk : l[k]? = some (b, cs)) (o : Nat) (vs : List Value) : Sx bs w0 (w.setCells b o vs) (l.set k (b, blit cs o vs)) e :=
  h.sets [(k, b, blit cs o vs)] (fun u hu => by obtain rfl : u = _ := by simpa using hu
                                                exact ⟨cs, hk⟩) (Turn.of_off1 ((Off.refl b b w).cells vs o)) (fun u hu => by obtain rfl : u = _ := by simpa using hu
                                                                                                                             exact (h.get k hk).cells vs o)

end

/-! ### The walk's steps, at a plain list of operations -/
section
variable {P : Program} {ops : Array Oper} {rest : List Oper} {op : Oper} {a : Act} {bs : List Nat} {w w0 : World} {Q : Exit → Act → World → Prop} {l e : List (Nat × List Value)}

theorem wpx_box (hS : Sx bs w0 w l e) (hw : Region.wanted op (yielded ops a.tmps) = true) (ty : TypeId) (x : Operand) (ho : op.op = .box ty x) (vs : List Value) (hx : a.eval x = .agg (List.toArray vs))
    (f : Nat → Act) (hf : ∀ b, a.put op.dst (.pointer (some ⟨b, 0, none⟩)) = f b) (h : ∀ b w', Sx bs w0 w' (l ++ [(b, vs)]) e → wpList P ops Q rest (f b) w') : wpList P ops Q (op :: rest) a w := by
  refine BigFrame.wpList_want hw fun K hK => ?_
  have e : (execOp a.eval op).run P w = .ok (.value (.pointer (some ⟨w.heap.size, 0, none⟩))) (w.alloc (.cells (List.toArray vs) ty)) := by
    unfold execOp
    rw [ho]
    dsimp only
    rw [hx]
    simp [Instr.box, newVar, newRow, go_sem, Value.cells]
  unfold Oper.wp
  rw [e]
  exact hK _ _ (by rw [hf]; exact h _ _ (hS.alloc (List.toArray vs) ty))

theorem wpx_alloc (hS : Sx bs w0 w l e) (hw : Region.wanted op (yielded ops a.tmps) = true) (ty : TypeId) (ho : op.op = .alloc ty) (z : Value) (hz : (P.info? ty).map (·.zero) = some (some z))
    (f : Nat → Act) (hf : ∀ b, a.put op.dst (.pointer (some ⟨b, 0, none⟩)) = f b) (h : ∀ b w', Sx bs w0 w' (l ++ [(b, z.cells.toList)]) e → wpList P ops Q rest (f b) w') : wpList P ops Q (op :: rest) a w := by
  refine BigFrame.wpList_want hw fun K hK => ?_
  have e : (execOp a.eval op).run P w = .ok (.value (.pointer (some ⟨w.heap.size, 0, none⟩))) (w.alloc (.cells z.cells ty)) := by
    unfold execOp
    rw [ho]
    cases hq : P.info? ty with
    | none => simp [hq] at hz
    | some i =>
      have hz' : i.zero = some z := by simpa [hq] using hz
      simp [Instr.alloc, zeroValue, typeInfo, hq, hz', newVar, newRow, go_sem]
  unfold Oper.wp
  rw [e]
  exact hK _ _ (by rw [hf]; exact h _ _ (hS.alloc z.cells ty))

theorem wpx_load (hS : Sx bs w0 w l e) (k : Nat) (hw : Region.wanted op (yielded ops a.tmps) = true) (ty : TypeId) (x : Operand) (ho : op.op = .load ty x) (b o : Nat) (hx : a.eval x = .pointer (some ⟨b, o, none⟩)) (cs : List Value) (hk : l[k]? = some (b, cs)) (n : Nat) (hr : Row P ty n) (hn : (o + n).ble cs.length = true) (vs : List Value) (hvs : cutL cs o n = vs)
    (a' : Act) (ha : a.put op.dst (.agg vs.toArray) = a') (h : wpList P ops Q rest a' w) : wpList P ops Q (op :: rest) a w := by
  refine BigFrame.wpList_want hw fun K hK => ?_
  obtain ⟨d, hu, hd, hi⟩ := hr
  subst hvs ha
  have e : (execOp a.eval op).run P w = .ok (.value (.agg (cutL cs o n).toArray)) w := by
    unfold execOp
    rw [ho]
    simp [hx, run_load_st (P := P) (hS.get k hk) o ty n (Nat.le_of_ble_eq_true hn) d hu hd hi]
  unfold Oper.wp
  rw [e]
  exact hK _ _ h

theorem wpx_load1 (hS : Sx bs w0 w l e) (k : Nat) (hw : Region.wanted op (yielded ops a.tmps) = true) (ty : TypeId) (x : Operand) (ho : op.op = .load ty x) (b o : Nat) (hx : a.eval x = .pointer (some ⟨b, o, none⟩)) (cs : List Value) (hk : l[k]? = some (b, cs)) (hr : One P ty) (v : Value) (hv : cs[o]? = some v)
    (a' : Act) (ha : a.put op.dst v = a') (h : wpList P ops Q rest a' w) : wpList P ops Q (op :: rest) a w := by
  refine BigFrame.wpList_want hw fun K hK => ?_
  obtain ⟨d, hu, hd⟩ := hr
  subst ha
  have e : (execOp a.eval op).run P w = .ok (.value v) w := by
    unfold execOp
    rw [ho]
    simp [hx, run_load1_st (P := P) (hS.get k hk) o ty v hv d hu hd]
  unfold Oper.wp
  rw [e]
  exact hK _ _ h

theorem wpx_store (hS : Sx bs w0 w l e) (k : Nat) (hw : Region.wanted op (yielded ops a.tmps) = true) (ty : TypeId) (x y : Operand) (ho : op.op = .store ty x y) (b o : Nat) (hx : a.eval x = .pointer (some ⟨b, o, none⟩)) (cs : List Value) (hk : l[k]? = some (b, cs)) (v : Value) (hy : a.eval y = v)
    (vs : List Value) (hv : v.cells.toList = vs) (n : Nat) (hi : (P.info? ty).map (·.size) = some n) (hvn : vs.length = n) (hn : (o + vs.length).ble cs.length = true) (h1 : vs.all (·.oneCell') = true)
    (a' : Act) (ha : a.put op.dst undef = a') (h : ∀ w', Sx bs w0 w' (l.set k (b, blit cs o vs)) e → wpList P ops Q rest a' w') : wpList P ops Q (op :: rest) a w := by
  refine BigFrame.wpList_want hw fun K hK => ?_
  subst ha
  have e : (execOp a.eval op).run P w = .ok .skip (w.setCells b o vs) := by
    unfold execOp
    rw [ho]
    simp [hx, hy, run_store_st (P := P) (hS.get k hk) o ty v vs hv (Nat.le_of_ble_eq_true hn) (hvn ▸ hi) h1]
  unfold Oper.wp
  rw [e]
  exact hK _ _ (h _ (hS.store k hk o vs))

end

/-! ### In a region that draws -/
section
variable {P : Program} {ops : Array Oper} {o : Oper} {a : Act} {bs : List Nat} {w w0 : World} {K : Act → World → Prop} {Q : Exit → Act → World → Prop} {E : Prop} {l e : List (Nat × List Value)}

theorem stx_store (hS : Sx bs w0 w l e) (k : Nat) (hw : Region.wanted o (yielded ops a.tmps) = true) (ty : TypeId) (x y : Operand) (ho : o.op = .store ty x y) (b off : Nat) (hx : a.eval x = .pointer (some ⟨b, off, none⟩)) (cs : List Value) (hk : l[k]? = some (b, cs)) (v : Value) (hy : a.eval y = v) (vs : List Value) (hv : v.cells.toList = vs)
    (n : Nat) (hi : (P.info? ty).map (·.size) = some n) (hvn : vs.length = n) (hn : (off + vs.length).ble cs.length = true) (h1 : vs.all (·.oneCell') = true)
    (hd : o.dst = none) (h : ∀ w', Sx bs w0 w' (l.set k (b, blit cs off vs)) e → K a w') : if Region.wanted o (yielded ops a.tmps) = true then Oper.wp P o a w K Q else E := by
  rw [if_pos hw]
  have e : (execOp a.eval o).run P w = .ok .skip (w.setCells b off vs) := by
    unfold execOp
    rw [ho]
    simp [hx, hy, run_store_st (P := P) (hS.get k hk) off ty v vs hv (Nat.le_of_ble_eq_true hn) (hvn ▸ hi) h1]
  unfold Oper.wp
  rw [e]
  show K (a.put o.dst _) _
  rw [hd]
  exact h _ (hS.store k hk off vs)

end

/-! ### Short names for what a walk's step asks for at each use -/
theorem sx1 {α : Type} (l : List α) (i : Nat) (a : α) : l.toArray.setIfInBounds i a = (l.set i a).toArray := List.setIfInBounds_toArray l i a
theorem sx2 {α : Type} (x a : α) (l : List α) : (x :: l).set 0 a = a :: l := rfl
theorem sx3 {α : Type} (x a : α) (l : List α) (n : Nat) : (x :: l).set (n + 1) a = x :: l.set n a := rfl
theorem sx4 {α : Type} (x : α) (l r : List α) : x :: l ++ r = x :: (l ++ r) := rfl
theorem sx5 {α : Type} (r : List α) : [] ++ r = r := rfl
theorem sx6 {α : Type} (l : List α) : l.toArray.toList = l := rfl

/-- a block's place: here, or behind -/
theorem sxh {b : Nat} {cs : List Value} {l : List (Nat × List Value)} {P : Nat → List Value → Prop} (h : P 0 cs) : ∃ (k : Nat) (cs' : List Value), ((b, cs) :: l)[k]? = some (b, cs') ∧ P k cs' := ⟨0, cs, rfl, h⟩
theorem sxn {b : Nat} {x : Nat × List Value} {l : List (Nat × List Value)} {P : Nat → List Value → Prop} (h : ∃ (k : Nat) (cs : List Value), l[k]? = some (b, cs) ∧ P (k + 1) cs) : ∃ (k : Nat) (cs : List Value), (x :: l)[k]? = some (b, cs) ∧ P k cs :=
  let ⟨k, cs, h1, h2⟩ := h
  ⟨k + 1, cs, h1, h2⟩

end Go.Proofs.YtapgghciieloaaaGreat

/-
  A world's size that was handed in: what its reading says of its cells.
-/
namespace Go.Proofs.YtapgghciieloaaaGreat
set_option maxRecDepth 100000
open Go.ChangeShapes Go.WideShapes Go.ChangeAt Go.RowKit

theorem cellsCfg : Tryz.prog.cellsOf 24 = 5 := by kernel_rfl
theorem cellsCfgI : Tryz.prog.cellsOf 3 = 1 := by kernel_rfl
theorem cellsCfgU : Tryz.prog.cellsOf 22 = 1 := by kernel_rfl

theorem array5 {α : Type} {cs : Array α} (h : cs.size = 5) : ∃ c0 c1 c2 c3 c4, cs = #[c0, c1, c2, c3, c4] := by
  obtain ⟨l⟩ := cs
  match l, h with
  | [c0, c1, c2, c3, c4], _ => exact ⟨c0, c1, c2, c3, c4, rfl⟩

theorem list5 {α : Type} {cs : List α} (h : cs.length = 5) : ∃ c0 c1 c2 c3 c4, cs = [c0, c1, c2, c3, c4] := by
  match cs, h with
  | [c0, c1, c2, c3, c4], _ => exact ⟨c0, c1, c2, c3, c4, rfl⟩

set_option maxRecDepth 100000 in
theorem open_cfg {H : Type} {enc : TypeId × Value → H} {W : World} {base : Nat} {v : Value} {d : DataW H} {p : List MemPlace}
    (hv : Value.okWide Tryz.prog W .any base 24 v) (h : DataW.Trod enc Tryz.prog W 0 (fun _ => true) true 24 v d p) :
    ∃ (t s k g : Int) (q : Nat), v = .agg #[.int .i64 t, .int .i64 s, .int .i64 k, .int .i64 g, .int .u64 q] ∧ (-9223372036854775808 ≤ t ∧ t ≤ 9223372036854775807) ∧ (-9223372036854775808 ≤ s ∧ s ≤ 9223372036854775807) ∧ (-9223372036854775808 ≤ k ∧ k ≤ 9223372036854775807) := by
  obtain ⟨cs, rfl, hsz⟩ := okWide_struct Tryz.underlying24 hv
  obtain ⟨c0, c1, c2, c3, c4, rfl⟩ := array5 (hsz.trans cellsCfg)
  obtain ⟨fuel, hf⟩ := h
  obtain ⟨xs, n, _, _, hl, hlen, hx⟩ := DataW.trod_struct Tryz.underlying24 hf
  obtain ⟨y0, y1, y2, y3, y4, rfl⟩ := list5 hlen
  obtain ⟨t, e0, _, k0⟩ := DataW.trod_int Tryz.underlying3 (hx 0 _ rfl)
  obtain ⟨s, e1, _, k1⟩ := DataW.trod_int Tryz.underlying3 (hx 1 _ rfl)
  obtain ⟨k, e2, _, k2⟩ := DataW.trod_int Tryz.underlying3 (hx 2 _ rfl)
  obtain ⟨g, e3, _, _⟩ := DataW.trod_int Tryz.underlying3 (hx 3 _ rfl)
  obtain ⟨q, e4, _, k4⟩ := DataW.trod_int Tryz.underlying22 (hx 4 _ rfl)
  obtain ⟨q', rfl, _⟩ := word_of k4
  simp [Value.cells, cellsCfgI, cellsCfgU] at e0 e1 e2 e3 e4
  subst e0 e1 e2 e3 e4
  exact ⟨t, s, k, g, q', rfl, int_of k0, int_of k1, int_of k2⟩

end Go.Proofs.YtapgghciieloaaaGreat

/-
  Words that were handed in: what their reading says of their cells.
-/
namespace Go.Proofs.YtapgghciieloaaaGreat
set_option maxRecDepth 100000
open Go.ChangeShapes Go.WideShapes Go.ChangeAt Go.RowKit

theorem cellsWU : Tryz.prog.cellsOf 22 = 1 := by kernel_rfl

theorem cellsWI : Tryz.prog.cellsOf 3 = 1 := by kernel_rfl

theorem open_words {H : Type} {enc : TypeId × Value → H} {W : World} {base : Nat} {v : Value} {d : DataW H} {p : List MemPlace}
    (hv : Value.okWide Tryz.prog W .any base 25 v) (h : DataW.Trod enc Tryz.prog W 0 (fun _ => true) true 25 v d p) :
    ∃ n ws, IsWords W v n ws := by
  obtain ⟨a0, len0, cap0, rfl⟩ := okWide_slice Tryz.underlying25 hv
  obtain ⟨fuel, hf⟩ := h
  rcases open_ints Tryz.underlying25 Tryz.underlying22 cellsWU hf with ⟨hcs, _⟩ | ⟨a, len, cap, zs, hcs, _, hl, hm, hz, _, hcell, hwf⟩
  · simp [Value.cells] at hcs
    obtain ⟨rfl, rfl, rfl⟩ := hcs
    exact ⟨0, fun _ => 0, Or.inl ⟨_, _, rfl, rfl⟩⟩
  · simp [Value.cells] at hcs
    obtain ⟨rfl, rfl, rfl⟩ := hcs
    by_cases h0 : len0 = 0
    · subst h0
      exact ⟨0, fun _ => 0, Or.inl ⟨_, _, rfl, rfl⟩⟩
    have hzc : zs.length = cap0 := hz
    obtain ⟨b, off, rfl, hc⟩ := ints_at hcell (by omega)
    have hw : ∀ j, j < zs.length → ∃ x : Nat, zs.getD j 0 = x ∧ Um.Word x := by
      intro j hj
      have e : zs.getD j 0 = zs[j] := by simp [hj]
      rw [e]
      exact word_of (hwf _ (List.getElem_mem hj))
    refine ⟨len0, fun j => (zs.getD j 0).toNat, Or.inr ⟨b, off, cap0, rfl, by omega, hl, hm, ?_, fun j hj => ?_⟩⟩
    · exact World.block_lt_of_cell? W _ (hc 0 (by omega))
    · obtain ⟨x, hx, hw'⟩ := hw j (by omega)
      have e : (zs.getD j 0).toNat = x := by rw [hx]; rfl
      exact ⟨by rw [hc j (by omega), hx, ← e], by rw [← e] at hw'; exact hw'⟩

end Go.Proofs.YtapgghciieloaaaGreat

/-
  A play that was handed in (a thread, an epoch, how many steps, what is written meanwhile): what its reading says of its cells.
-/
namespace Go.Proofs.YtapgghciieloaaaGreat
set_option maxRecDepth 100000
open Go.ChangeShapes Go.WideShapes Go.ChangeAt Go.RowKit

theorem cellsPoke : Tryz.prog.cellsOf 98 = 4 := by kernel_rfl
theorem cellsPokes : Tryz.prog.cellsOf 26 = 1 := by kernel_rfl

theorem ls4 {α : Type} {cs : List α} (h : cs.length = 4) : ∃ c0 c1 c2 c3, cs = [c0, c1, c2, c3] := by
  match cs, h with
  | [c0, c1, c2, c3], _ => exact ⟨c0, c1, c2, c3, rfl⟩

/-- what is written: ahead of which step, which spot, which word -/
structure Pok where
  st : Int
  k : Int
  a : Int
  v : Nat

/-- pokes lie in a row of elder cells -/
def PokesAt (w : World) (la : Option Addr) (nl : Nat) (Z : Nat → Pok) : Prop :=
  nl = 0 ∨ ∃ lb off, la = some ⟨lb, off, none⟩ ∧ lb < w.heap.size ∧
      ∀ i, i < nl → (w.cell? ⟨lb, off + i * 4, none⟩ = some (.int .i64 (Z i).st) ∧ w.cell? ⟨lb, off + (i * 4 + 1), none⟩ = some (.int .i64 (Z i).k) ∧ w.cell? ⟨lb, off + (i * 4 + 2), none⟩ = some (.int .i64 (Z i).a) ∧ w.cell? ⟨lb, off + (i * 4 + 3), none⟩ = some (.int .u64 ((Z i).v : Nat))) ∧
        (-9223372036854775808 ≤ (Z i).a ∧ (Z i).a ≤ 9223372036854775807) ∧ Um.Word (Z i).v

theorem open_pokes {H : Type} {enc : TypeId × Value → H} {W : World} {fuel : Nat} {cs : List Value} {x : DataW H × List MemPlace}
    (h : DataW.trod enc Tryz.prog W 0 (fun _ => true) true fuel 26 cs = some x) :
    ∃ la nl cl Z, cs = [.slice la nl cl] ∧ nl ≤ cl ∧ PokesAt W la nl Z := by
  rcases Deep.open_slice Tryz.underlying26 h with ⟨hcs, _⟩ | ⟨a, len, cap, m, n, D, Pl, hcs, _, hl, hm, hmm, _, hx⟩
  · exact ⟨none, 0, 0, fun _ => ⟨0, 0, 0, 0⟩, hcs, Nat.le_refl _, .inl rfl⟩
  · by_cases h0 : len = 0
    · subst h0
      exact ⟨some a, 0, cap, fun _ => ⟨0, 0, 0, 0⟩, hcs, Nat.zero_le _, .inl rfl⟩
    have hmc : m = cap := by rw [hmm]; rfl
    subst hmc
    have each : ∀ i, i < len → ∃ q : Pok, (W.cell? (a.add (i * 4)) = some (.int .i64 q.st) ∧ W.cell? (a.add (i * 4 + 1)) = some (.int .i64 q.k) ∧ W.cell? (a.add (i * 4 + 2)) = some (.int .i64 q.a) ∧ W.cell? (a.add (i * 4 + 3)) = some (.int .u64 (q.v : Nat))) ∧
        (-9223372036854775808 ≤ q.a ∧ q.a ≤ 9223372036854775807) ∧ Um.Word q.v := by
      intro i hi
      obtain ⟨cs', h1, h2⟩ := hx i (by omega)
      rw [cellsPoke] at h1
      obtain ⟨_, hlen, hcell⟩ := World.cells?_some h1
      obtain ⟨v0, v1, v2, v3, rfl⟩ := ls4 hlen
      obtain ⟨xs, n, _, _, hl, hxl, hfx⟩ := DataW.trod_struct Tryz.underlying98 h2
      obtain ⟨y0, y1, y2, y3, rfl⟩ := ls4 hxl
      obtain ⟨q0, e0, _, _⟩ := DataW.trod_int Tryz.underlying3 (hfx 0 _ rfl)
      obtain ⟨q1, e1, _, _⟩ := DataW.trod_int Tryz.underlying3 (hfx 1 _ rfl)
      obtain ⟨q2, e2, _, k2⟩ := DataW.trod_int Tryz.underlying3 (hfx 2 _ rfl)
      obtain ⟨q3, e3, _, k3⟩ := DataW.trod_int Tryz.underlying22 (hfx 3 _ rfl)
      obtain ⟨x', rfl, w3⟩ := word_of k3
      simp [cellsWI, cellsWU] at e0 e1 e2 e3
      subst e0 e1 e2 e3
      have c0 := hcell 0 (by omega)
      have c1 := hcell 1 (by omega)
      have c2 := hcell 2 (by omega)
      have c3 := hcell 3 (by omega)
      rw [Deep.add_add] at c0 c1 c2 c3
      exact ⟨⟨q0, q1, q2, x'⟩, ⟨by simpa using c0, by simpa using c1, by simpa using c2, by simpa using c3⟩, int_of k2, w3⟩
    have : ∃ Z : Nat → Pok, ∀ i, i < len → (W.cell? (a.add (i * 4)) = some (.int .i64 (Z i).st) ∧ W.cell? (a.add (i * 4 + 1)) = some (.int .i64 (Z i).k) ∧ W.cell? (a.add (i * 4 + 2)) = some (.int .i64 (Z i).a) ∧ W.cell? (a.add (i * 4 + 3)) = some (.int .u64 ((Z i).v : Nat))) ∧
        (-9223372036854775808 ≤ (Z i).a ∧ (Z i).a ≤ 9223372036854775807) ∧ Um.Word (Z i).v :=
      ⟨fun i => if hi : i < len then (each i hi).choose else ⟨0, 0, 0, 0⟩, fun i hi => by simp only [hi, dite_true]; exact (each i hi).choose_spec⟩
    obtain ⟨q, hq⟩ := this
    obtain ⟨b, off, spot⟩ := a
    have hspot : spot = none := by simpa [Addr.add] using World.cell?_spot (hq 0 (by omega)).1.1
    subst hspot
    refine ⟨_, len, m, q, hcs, hl, .inr ⟨b, off, rfl, ?_, fun i hi => ?_⟩⟩
    · have := (hq 0 (by omega)).1.1
      rw [Go.WideShapes.add_plain] at this
      exact World.block_lt_of_cell? W _ this
    · have := hq i hi
      simp only [Go.WideShapes.add_plain] at this
      exact this

end Go.Proofs.YtapgghciieloaaaGreat

/-
  What layer 8's laws are handed: a word with turns, a word with steps and what is written meanwhile, a row of integers: what their reading says of their cells.
-/
namespace Go.Proofs.YtapgghciieloaaaGreat
set_option maxRecDepth 100000
open Go.ChangeShapes Go.WideShapes Go.ChangeAt Go.RowKit

/-- a row of elder cells -/
def RowOf (w : World) (la : Option Addr) (nl : Nat) (Z : Nat → Value) : Prop :=
  nl = 0 ∨ ∃ lb off, la = some ⟨lb, off, none⟩ ∧ lb < w.heap.size ∧ ∀ i, i < nl → w.cell? ⟨lb, off + i, none⟩ = some (Z i)

end Go.Proofs.YtapgghciieloaaaGreat

/-
  The types that blocks are made of, from layer 7 on: how many cells, which zero.
-/
namespace Go.Proofs.YtapgghciieloaaaGreat
set_option maxRecDepth 100000
open Go.RowKit Go.Sort

theorem row_poke : Row Tryz.prog 98 4 := ⟨_, Tryz.underlying98, rfl, by kernel_rfl⟩

theorem siz_poke : (Tryz.prog.info? 98).map (·.size) = some 4 := by kernel_rfl

theorem zer_poke : (Tryz.prog.info? 98).map (·.zero) = some (some (.agg #[.int .i64 0, .int .i64 0, .int .i64 0, .int .u64 0])) := by kernel_rfl

theorem row_stat : Row Tryz.prog 170 7 := ⟨_, Tryz.underlying170, rfl, by kernel_rfl⟩

theorem siz_stat : (Tryz.prog.info? 170).map (·.size) = some 7 := by kernel_rfl

theorem zer_stat : (Tryz.prog.info? 170).map (·.zero) = some (some (.agg #[.int .i64 0, .int .i64 0, .bool false, .bool false, .bool false, .int .i64 0, .int .i64 0])) := by kernel_rfl

theorem row_rent : Row Tryz.prog 44 7 := ⟨_, Tryz.underlying44, rfl, by kernel_rfl⟩

theorem siz_rent : (Tryz.prog.info? 44).map (·.size) = some 7 := by kernel_rfl

theorem zer_rent : (Tryz.prog.info? 44).map (·.zero) = some (some (.agg #[.int .u64 0, .slice none 0 0, .bool false, .int .u64 0, .int .u64 0, .int .i64 0, .bool false])) := by kernel_rfl

theorem row_rlea : Row Tryz.prog 50 5 := ⟨_, Tryz.underlying50, rfl, by kernel_rfl⟩

theorem siz_rlea : (Tryz.prog.info? 50).map (·.size) = some 5 := by kernel_rfl

theorem zer_rlea : (Tryz.prog.info? 50).map (·.zero) = some (some (.agg #[.int .i64 0, .int .i64 0, .bool false, .int .u64 0, .bool false])) := by kernel_rfl

theorem row_rjoin : Row Tryz.prog 46 7 := ⟨_, Tryz.underlying46, rfl, by kernel_rfl⟩

theorem siz_rjoin : (Tryz.prog.info? 46).map (·.size) = some 7 := by kernel_rfl

theorem zer_rjoin : (Tryz.prog.info? 46).map (·.zero) = some (some (.agg #[.int .i64 0, .int .i64 0, .int .i64 0, .int .u64 0, .int .i64 0, .int .u64 0, .int .i64 0])) := by kernel_rfl

theorem row_rown : Row Tryz.prog 48 6 := ⟨_, Tryz.underlying48, rfl, by kernel_rfl⟩

theorem siz_rown : (Tryz.prog.info? 48).map (·.size) = some 6 := by kernel_rfl

theorem zer_rown : (Tryz.prog.info? 48).map (·.zero) = some (some (.agg #[.int .i64 0, .int .i64 0, .int .i64 0, .bool false, .int .u64 0, .bool false])) := by kernel_rfl

theorem row_ent : Row Tryz.prog 150 7 := ⟨_, Tryz.underlying150, rfl, by kernel_rfl⟩

theorem siz_ent : (Tryz.prog.info? 150).map (·.size) = some 7 := by kernel_rfl

theorem zer_ent : (Tryz.prog.info? 150).map (·.zero) = some (some (.agg #[.int .i64 0, .int .u64 0, .int .u64 0, .slice none 0 0, .nilFunc, .int .i64 0, .int .u64 0])) := by kernel_rfl

theorem row_lea : Row Tryz.prog 200 4 := ⟨_, Tryz.underlying200, rfl, by kernel_rfl⟩

theorem siz_lea : (Tryz.prog.info? 200).map (·.size) = some 4 := by kernel_rfl

theorem zer_lea : (Tryz.prog.info? 200).map (·.zero) = some (some (.agg #[.int .i64 0, .int .u64 0, .int .i64 0, .nilFunc])) := by kernel_rfl

theorem row_rsta : Row Tryz.prog 135 7 := ⟨_, Tryz.underlying135, rfl, by kernel_rfl⟩

theorem siz_rsta : (Tryz.prog.info? 135).map (·.size) = some 7 := by kernel_rfl

theorem zer_rsta : (Tryz.prog.info? 135).map (·.zero) = some (some (.agg #[.int .i64 0, .int .i64 0, .bool false, .bool false, .bool false, .int .i64 0, .int .i64 0])) := by kernel_rfl

theorem row_jend : Row Tryz.prog 194 4 := ⟨_, Tryz.underlying194, rfl, by kernel_rfl⟩

theorem siz_jend : (Tryz.prog.info? 194).map (·.size) = some 4 := by kernel_rfl

theorem zer_jend : (Tryz.prog.info? 194).map (·.zero) = some (some (.agg #[.int .i64 0, .int .i64 0, .int .i64 0, .int .u64 0])) := by kernel_rfl

theorem row_join : Row Tryz.prog 197 7 := ⟨_, Tryz.underlying197, rfl, by kernel_rfl⟩

theorem siz_join : (Tryz.prog.info? 197).map (·.size) = some 7 := by kernel_rfl

theorem zer_join : (Tryz.prog.info? 197).map (·.zero) = some (some (.agg #[.int .i64 0, .int .i64 0, .int .i64 0, .int .u64 0, .int .u64 0, .nilFunc, .int .i64 0])) := by kernel_rfl

theorem row_own : Row Tryz.prog 204 5 := ⟨_, Tryz.underlying204, rfl, by kernel_rfl⟩

theorem siz_own : (Tryz.prog.info? 204).map (·.size) = some 5 := by kernel_rfl

theorem zer_own : (Tryz.prog.info? 204).map (·.zero) = some (some (.agg #[.int .i64 0, .int .i64 0, .int .i64 0, .int .u64 0, .nilFunc])) := by kernel_rfl

theorem row_rread : Row Tryz.prog 52 34 := ⟨_, Tryz.underlying52, rfl, by kernel_rfl⟩

theorem siz_rread : (Tryz.prog.info? 52).map (·.size) = some 34 := by kernel_rfl

theorem zer_rread : (Tryz.prog.info? 52).map (·.zero) = some (some (.agg #[.int .i64 0, .int .i64 0, .int .i64 0, .int .u64 0, .int .u64 0, .slice none 0 0, .int .u64 0, .slice none 0 0, .bool false, .int .u64 0, .int .u64 0, .int .i64 0, .bool false, .int .i64 0, .int .i64 0, .int .i64 0, .int .u64 0, .int .i64 0, .int .u64 0, .int .i64 0, .int .i64 0, .int .i64 0, .int .i64 0, .bool false, .int .u64 0, .bool false, .int .i64 0, .int .i64 0, .bool false, .int .u64 0, .bool false, .int .i64 0, .int .i64 0, .bool false])) := by kernel_rfl

theorem row_read : Row Tryz.prog 95 12 := ⟨_, Tryz.underlying95, rfl, by kernel_rfl⟩

theorem siz_read : (Tryz.prog.info? 95).map (·.size) = some 12 := by kernel_rfl

theorem zer_read : (Tryz.prog.info? 95).map (·.zero) = some (some (.agg #[.int .i64 0, .int .i64 0, .int .u64 0, .int .u64 0, .nilFunc, .int .i64 0, .pointer none, .pointer none, .pointer none, .pointer none, .nilFunc, .int .i64 0])) := by kernel_rfl

theorem row_play12 : Row Tryz.prog 28 4 := ⟨_, Tryz.underlying28, rfl, by kernel_rfl⟩

theorem siz_play12 : (Tryz.prog.info? 28).map (·.size) = some 4 := by kernel_rfl

theorem zer_play12 : (Tryz.prog.info? 28).map (·.zero) = some (some (.agg #[.int .u64 0, .int .i64 0, .int .i64 0, .slice none 0 0])) := by kernel_rfl

theorem one_fn : One Tryz.prog 56 := ⟨_, Tryz.underlying56, rfl⟩

theorem siz_fn : (Tryz.prog.info? 56).map (·.size) = some 1 := by kernel_rfl

theorem one_pokes : One Tryz.prog 26 := ⟨_, Tryz.underlying26, rfl⟩

theorem siz_pokes : (Tryz.prog.info? 26).map (·.size) = some 1 := by kernel_rfl

theorem one_bools : One Tryz.prog 76 := ⟨_, Tryz.underlying76, rfl⟩

theorem siz_bools : (Tryz.prog.info? 76).map (·.size) = some 1 := by kernel_rfl

theorem one_ints : One Tryz.prog 41 := ⟨_, Tryz.underlying41, rfl⟩

theorem siz_ints : (Tryz.prog.info? 41).map (·.size) = some 1 := by kernel_rfl

theorem one_errno : One Tryz.prog 42 := ⟨_, Tryz.underlying42, rfl⟩

theorem siz_errno : (Tryz.prog.info? 42).map (·.size) = some 1 := by kernel_rfl

theorem one_slf : One Tryz.prog 115 := ⟨_, Tryz.underlying115, rfl⟩

theorem siz_slf : (Tryz.prog.info? 115).map (·.size) = some 1 := by kernel_rfl

theorem one_jfn : One Tryz.prog 195 := ⟨_, Tryz.underlying195, rfl⟩

theorem siz_jfn : (Tryz.prog.info? 195).map (·.size) = some 1 := by kernel_rfl

theorem one_ofn : One Tryz.prog 202 := ⟨_, Tryz.underlying202, rfl⟩

theorem siz_ofn : (Tryz.prog.info? 202).map (·.size) = some 1 := by kernel_rfl

theorem one_entp : One Tryz.prog 90 := ⟨_, Tryz.underlying90, rfl⟩

theorem siz_entp : (Tryz.prog.info? 90).map (·.size) = some 1 := by kernel_rfl

theorem one_joip : One Tryz.prog 91 := ⟨_, Tryz.underlying91, rfl⟩

theorem siz_joip : (Tryz.prog.info? 91).map (·.size) = some 1 := by kernel_rfl

theorem one_ownp : One Tryz.prog 92 := ⟨_, Tryz.underlying92, rfl⟩

theorem siz_ownp : (Tryz.prog.info? 92).map (·.size) = some 1 := by kernel_rfl

theorem one_leap : One Tryz.prog 93 := ⟨_, Tryz.underlying93, rfl⟩

theorem siz_leap : (Tryz.prog.info? 93).map (·.size) = some 1 := by kernel_rfl

theorem one_nfn : One Tryz.prog 89 := ⟨_, Tryz.underlying89, rfl⟩

theorem siz_nfn : (Tryz.prog.info? 89).map (·.size) = some 1 := by kernel_rfl

def rowT2 : List (Nat × Nat) := [(35, 13), (33, 6), (31, 2), (24, 5), (67, 2), (113, 6), (98, 4), (170, 7), (44, 7), (50, 5), (46, 7), (48, 6), (150, 7), (200, 4), (135, 7), (194, 4), (197, 7), (204, 5), (52, 34), (95, 12), (28, 4)]

theorem row_all2 : ∀ p ∈ rowT2, Row Tryz.prog p.1 p.2 := by
  intro p hp
  simp only [rowT2, List.mem_cons, List.not_mem_nil, or_false] at hp
  rcases hp with rfl | rfl | rfl | rfl | rfl | rfl | rfl | rfl | rfl | rfl | rfl | rfl | rfl | rfl | rfl | rfl | rfl | rfl | rfl | rfl | rfl
  · exact row_rmem
  · exact row_rtch
  · exact row_rspot
  · exact row_cfg
  · exact row_spot
  · exact row_tch
  · exact row_poke
  · exact row_stat
  · exact row_rent
  · exact row_rlea
  · exact row_rjoin
  · exact row_rown
  · exact row_ent
  · exact row_lea
  · exact row_rsta
  · exact row_jend
  · exact row_join
  · exact row_own
  · exact row_rread
  · exact row_read
  · exact row_play12

theorem row_any2 {ty : Nat} {v : Nat} (h : rowT2.lookup ty = some v) : Row Tryz.prog ty v := row_all2 (ty, v) (look_mem h)

def onuT2 : List (Nat × Unit) := [(3, ()), (22, ()), (4, ()), (25, ()), (56, ()), (26, ()), (76, ()), (41, ()), (42, ()), (115, ()), (195, ()), (202, ()), (90, ()), (91, ()), (92, ()), (93, ()), (89, ())]

theorem onu_all2 : ∀ p ∈ onuT2, One Tryz.prog p.1 := by
  intro p hp
  simp only [onuT2, List.mem_cons, List.not_mem_nil, or_false] at hp
  rcases hp with rfl | rfl | rfl | rfl | rfl | rfl | rfl | rfl | rfl | rfl | rfl | rfl | rfl | rfl | rfl | rfl | rfl
  · exact one_int
  · exact one_u64
  · exact one_bool
  · exact one_words
  · exact one_fn
  · exact one_pokes
  · exact one_bools
  · exact one_ints
  · exact one_errno
  · exact one_slf
  · exact one_jfn
  · exact one_ofn
  · exact one_entp
  · exact one_joip
  · exact one_ownp
  · exact one_leap
  · exact one_nfn

theorem onu_any2 {ty : Nat} {v : Unit} (h : onuT2.lookup ty = some v) : One Tryz.prog ty := onu_all2 (ty, v) (look_mem h)

theorem one_any2 {ty : Nat} (h : onuT2.lookup ty = some ()) : One Tryz.prog ty := onu_any2 h

def sizT2 : List (Nat × Nat) := [(35, 13), (33, 6), (31, 2), (24, 5), (67, 2), (113, 6), (3, 1), (22, 1), (4, 1), (25, 1), (98, 4), (170, 7), (44, 7), (50, 5), (46, 7), (48, 6), (150, 7), (200, 4), (135, 7), (194, 4), (197, 7), (204, 5), (52, 34), (95, 12), (28, 4), (56, 1), (26, 1), (76, 1), (41, 1), (42, 1), (115, 1), (195, 1), (202, 1), (90, 1), (91, 1), (92, 1), (93, 1), (89, 1)]

theorem siz_all2 : ∀ p ∈ sizT2, (Tryz.prog.info? p.1).map (·.size) = some p.2 := by
  intro p hp
  simp only [sizT2, List.mem_cons, List.not_mem_nil, or_false] at hp
  rcases hp with rfl | rfl | rfl | rfl | rfl | rfl | rfl | rfl | rfl | rfl | rfl | rfl | rfl | rfl | rfl | rfl | rfl | rfl | rfl | rfl | rfl | rfl | rfl | rfl | rfl | rfl | rfl | rfl | rfl | rfl | rfl | rfl | rfl | rfl | rfl | rfl | rfl | rfl
  · exact siz_rmem
  · exact siz_rtch
  · exact siz_rspot
  · exact siz_cfg
  · exact siz_spot
  · exact siz_tch
  · exact siz_int
  · exact siz_u64
  · exact siz_bool
  · exact siz_words
  · exact siz_poke
  · exact siz_stat
  · exact siz_rent
  · exact siz_rlea
  · exact siz_rjoin
  · exact siz_rown
  · exact siz_ent
  · exact siz_lea
  · exact siz_rsta
  · exact siz_jend
  · exact siz_join
  · exact siz_own
  · exact siz_rread
  · exact siz_read
  · exact siz_play12
  · exact siz_fn
  · exact siz_pokes
  · exact siz_bools
  · exact siz_ints
  · exact siz_errno
  · exact siz_slf
  · exact siz_jfn
  · exact siz_ofn
  · exact siz_entp
  · exact siz_joip
  · exact siz_ownp
  · exact siz_leap
  · exact siz_nfn

theorem siz_any2 {ty : Nat} {v : Nat} (h : sizT2.lookup ty = some v) : (Tryz.prog.info? ty).map (·.size) = some v := siz_all2 (ty, v) (look_mem h)

def zerT2 : List (Nat × Value) := [(35, (.agg #[.int .i64 0, .int .i64 0, .int .i64 0, .int .i64 0, .int .u64 0, .slice none 0 0, .int .i64 0, .int .i64 0, .int .i64 0, .int .i64 0, .int .u64 0, .int .u64 0, .bool false])), (33, (.agg #[.int .i64 0, .int .i64 0, .int .i64 0, .int .u64 0, .int .u64 0, .bool false])), (31, (.agg #[.int .i64 0, .int .i64 0])), (24, (.agg #[.int .i64 0, .int .i64 0, .int .i64 0, .int .i64 0, .int .u64 0])), (67, (.agg #[.int .i64 0, .int .i64 0])), (113, (.agg #[.int .i64 0, .int .i64 0, .int .i64 0, .int .u64 0, .int .u64 0, .bool false])), (98, (.agg #[.int .i64 0, .int .i64 0, .int .i64 0, .int .u64 0])), (170, (.agg #[.int .i64 0, .int .i64 0, .bool false, .bool false, .bool false, .int .i64 0, .int .i64 0])), (44, (.agg #[.int .u64 0, .slice none 0 0, .bool false, .int .u64 0, .int .u64 0, .int .i64 0, .bool false])), (50, (.agg #[.int .i64 0, .int .i64 0, .bool false, .int .u64 0, .bool false])), (46, (.agg #[.int .i64 0, .int .i64 0, .int .i64 0, .int .u64 0, .int .i64 0, .int .u64 0, .int .i64 0])), (48, (.agg #[.int .i64 0, .int .i64 0, .int .i64 0, .bool false, .int .u64 0, .bool false])), (150, (.agg #[.int .i64 0, .int .u64 0, .int .u64 0, .slice none 0 0, .nilFunc, .int .i64 0, .int .u64 0])), (200, (.agg #[.int .i64 0, .int .u64 0, .int .i64 0, .nilFunc])), (135, (.agg #[.int .i64 0, .int .i64 0, .bool false, .bool false, .bool false, .int .i64 0, .int .i64 0])), (194, (.agg #[.int .i64 0, .int .i64 0, .int .i64 0, .int .u64 0])), (197, (.agg #[.int .i64 0, .int .i64 0, .int .i64 0, .int .u64 0, .int .u64 0, .nilFunc, .int .i64 0])), (204, (.agg #[.int .i64 0, .int .i64 0, .int .i64 0, .int .u64 0, .nilFunc])), (52, (.agg #[.int .i64 0, .int .i64 0, .int .i64 0, .int .u64 0, .int .u64 0, .slice none 0 0, .int .u64 0, .slice none 0 0, .bool false, .int .u64 0, .int .u64 0, .int .i64 0, .bool false, .int .i64 0, .int .i64 0, .int .i64 0, .int .u64 0, .int .i64 0, .int .u64 0, .int .i64 0, .int .i64 0, .int .i64 0, .int .i64 0, .bool false, .int .u64 0, .bool false, .int .i64 0, .int .i64 0, .bool false, .int .u64 0, .bool false, .int .i64 0, .int .i64 0, .bool false])), (95, (.agg #[.int .i64 0, .int .i64 0, .int .u64 0, .int .u64 0, .nilFunc, .int .i64 0, .pointer none, .pointer none, .pointer none, .pointer none, .nilFunc, .int .i64 0])), (28, (.agg #[.int .u64 0, .int .i64 0, .int .i64 0, .slice none 0 0]))]

theorem zer_all2 : ∀ p ∈ zerT2, (Tryz.prog.info? p.1).map (·.zero) = some (some p.2) := by
  intro p hp
  simp only [zerT2, List.mem_cons, List.not_mem_nil, or_false] at hp
  rcases hp with rfl | rfl | rfl | rfl | rfl | rfl | rfl | rfl | rfl | rfl | rfl | rfl | rfl | rfl | rfl | rfl | rfl | rfl | rfl | rfl | rfl
  · exact zer_rmem
  · exact zer_rtch
  · exact zer_rspot
  · exact zer_cfg
  · exact zer_spot
  · exact zer_tch
  · exact zer_poke
  · exact zer_stat
  · exact zer_rent
  · exact zer_rlea
  · exact zer_rjoin
  · exact zer_rown
  · exact zer_ent
  · exact zer_lea
  · exact zer_rsta
  · exact zer_jend
  · exact zer_join
  · exact zer_own
  · exact zer_rread
  · exact zer_read
  · exact zer_play12

theorem zer_any2 {ty : Nat} {v : Value} (h : zerT2.lookup ty = some v) : (Tryz.prog.info? ty).map (·.zero) = some (some v) := zer_all2 (ty, v) (look_mem h)

end Go.Proofs.YtapgghciieloaaaGreat

/-
  The walk's steps over blocks, each by one name: what a step asks for is found by its own default proofs.
-/
namespace Go.Proofs.YtapgghciieloaaaGreat
set_option maxRecDepth 100000
open Go.RowKit Go.Sort

/-- what is loaded at a place of a block -/
def LdAt (l : List (Nat × List Value)) (b o : Nat) (ty : TypeId) (v : Value) : Prop :=
  ∃ (k : Nat) (cs : List Value), l[k]? = some (b, cs) ∧ ((One Tryz.prog ty ∧ cs[o]? = some v) ∨ ∃ n vs, Row Tryz.prog ty n ∧ (o + n).ble cs.length = true ∧ cutL cs o n = vs ∧ v = .agg vs.toArray)

/-- what the blocks are behind a store -/
def StAt (l : List (Nat × List Value)) (b o : Nat) (ty : TypeId) (v : Value) (l' : List (Nat × List Value)) : Prop :=
  ∃ (k : Nat) (cs : List Value), l[k]? = some (b, cs) ∧ ∃ vs, Sh v vs ∧ ∃ n, (Tryz.prog.info? ty).map (·.size) = some n ∧ vs.length = n ∧ (o + vs.length).ble cs.length = true ∧ vs.all (·.oneCell') = true ∧ l.set k (b, blit cs o vs) = l'

section
variable {ops : Array Oper} {rest : List Oper} {op : Oper} {a : Act} {bs : List Nat} {w w0 : World} {Q : Exit → Act → World → Prop} {l e : List (Nat × List Value)}

theorem ybox {ty : TypeId} {x : Operand} {vs : List Value} {f : Nat → Act} {l' : Nat → List (Nat × List Value)} (hS : Sx bs w0 w l e)
    (hw : Region.wanted op (yielded ops a.tmps) = true := by rfl) (ho : op.op = .box ty x := by rfl) (hx : a.eval x = .agg (List.toArray vs) := by rfl)
    (hf : ∀ b, a.put op.dst (.pointer (some ⟨b, 0, none⟩)) = f b := by (intro _; simp only [Act.put, sx1, sx2, sx3]; first | done | exact rfl))
    (hl : ∀ b, l ++ [(b, vs)] = l' b := by (intro _; first | done | (dsimp only [sx4, sx5]; first | done | exact rfl) | exact rfl))
    (h : ∀ b w', Sx bs w0 w' (l' b) e → wpList Tryz.prog ops Q rest (f b) w') : wpList Tryz.prog ops Q (op :: rest) a w :=
  wpx_box hS hw ty x ho vs hx f hf (fun b w' q => h b w' (hl b ▸ q))

theorem yall {ty : TypeId} {z : Value} {f : Nat → Act} {l' : Nat → List (Nat × List Value)} (hS : Sx bs w0 w l e)
    (hw : Region.wanted op (yielded ops a.tmps) = true := by rfl) (ho : op.op = .alloc ty := by rfl) (hz : (Tryz.prog.info? ty).map (·.zero) = some (some z) := by exact zer_any2 rfl)
    (hf : ∀ b, a.put op.dst (.pointer (some ⟨b, 0, none⟩)) = f b := by (intro _; simp only [Act.put, sx1, sx2, sx3]; first | done | exact rfl))
    (hl : ∀ b, l ++ [(b, z.cells.toList)] = l' b := by (intro _; dsimp only [sx4, sx5, Value.cells, sx6]; first | done | exact rfl))
    (h : ∀ b w', Sx bs w0 w' (l' b) e → wpList Tryz.prog ops Q rest (f b) w') : wpList Tryz.prog ops Q (op :: rest) a w :=
  wpx_alloc hS hw ty ho z hz f hf (fun b w' q => h b w' (hl b ▸ q))

theorem yld {ty : TypeId} {x : Operand} {b o : Nat} {v : Value} {a' : Act} (hS : Sx bs w0 w l e)
    (hw : Region.wanted op (yielded ops a.tmps) = true := by rfl) (ho : op.op = .load ty x := by rfl) (hx : a.eval x = .pointer (some ⟨b, o, none⟩) := by rfl)
    (hv : LdAt l b o ty v := by ((repeat (first | refine sxh ?_ | refine sxn ?_)); first | exact .inl ⟨one_any2 rfl, rfl⟩ | exact .inr ⟨_, _, row_any2 rfl, rfl, (by dsimp only [cutL, List.drop, List.take]; first | done | exact rfl), rfl⟩))
    (ha : a.put op.dst v = a' := by (simp only [Act.put, sx1, sx2, sx3]; first | done | exact rfl))
    (h : wpList Tryz.prog ops Q rest a' w) : wpList Tryz.prog ops Q (op :: rest) a w := by
  obtain ⟨k, cs, hk, ⟨h1, h2⟩ | ⟨n, vs, h1, h2, h3, rfl⟩⟩ := hv
  · exact wpx_load1 hS k hw ty x ho b o hx cs hk h1 v h2 a' ha h
  · exact wpx_load hS k hw ty x ho b o hx cs hk n h1 h2 vs h3 a' ha h

theorem yst {ty : TypeId} {x y : Operand} {b o : Nat} {l' : List (Nat × List Value)} (hS : Sx bs w0 w l e)
    (hw : Region.wanted op (yielded ops a.tmps) = true := by rfl) (ho : op.op = .store ty x y := by rfl) (hd : op.dst = none := by rfl) (hx : a.eval x = .pointer (some ⟨b, o, none⟩) := by rfl)
    (hv : StAt l b o ty (a.eval y) l' := by ((repeat (first | refine sxh ?_ | refine sxn ?_)); refine ⟨_, (by first | exact shA rfl | exact shI rfl | exact shB rfl | exact shS rfl | exact shP rfl | exact shF rfl | exact shN rfl), _, siz_any2 rfl, (by exact rfl), (by exact rfl), (by exact rfl), ?_⟩; dsimp only [blit, List.set, sx4, sx5, Value.cells, sx6]; first | done | exact rfl))
    (h : ∀ w', Sx bs w0 w' l' e → wpList Tryz.prog ops Q rest a w') : wpList Tryz.prog ops Q (op :: rest) a w := by
  obtain ⟨k, cs, hk, vs, h1, n, h2, h3, h4, h5, rfl⟩ := hv
  exact wpx_store hS k hw ty x y ho b o hx cs hk _ rfl vs h1 n h2 h3 h4 h5 a (by rw [hd]; rfl) h

end

end Go.Proofs.YtapgghciieloaaaGreat

/-
  The walk of an access of a memory.
-/
namespace Go.Proofs.YtapgghciieloaaaGreat
set_option maxRecDepth 100000
open Go.RowKit Go.Sort

theorem egL (args : Array Value) (w : World) : (callFunc 75 args).run Tryz.prog w = .ok (.enter 75 args) w := by go_simp

theorem egS (args : Array Value) (w : World) : (callFunc 73 args).run Tryz.prog w = .ok (.enter 73 args) w := by go_simp

theorem egW (args : Array Value) (w : World) : (callFunc 139 args).run Tryz.prog w = .ok (.enter 139 args) w := by go_simp

set_option maxHeartbeats 2000000 in
theorem mAccess_hit {W : World} {B C : Nat} {c : Um.Cf} {m : Um.Mm} (h : MemAt W B C c m) (kind a b : Int) (o v : Nat) (F : FuncId) (eg : ∀ args w, (callFunc F args).run Tryz.prog w = .ok (.enter F args) w)
    (hF : ∀ x w, Calls Tryz.prog F #[.agg #[.int .u64 o, .int .u64 v], .int .u64 (x : Nat)] w fun e w' => e = .returned (.tuple #[.int .u64 (Um.trn kind o v x : Nat), .bool (Um.trd kind o x)]) ∧ Below w.heap.size w w')
    (hb0 : -9223372036854775808 ≤ b) (hb1 : b ≤ 9223372036854775807) (hv : Um.Word v) (p : Nat) (hp : c.cl a b = p) :
    Calls Tryz.prog 72 #[.pointer (some ⟨B, 0, none⟩), .int .i64 kind, (.agg #[.int .i64 a, .int .i64 b]), .func (.func F) #[.agg #[.int .u64 o, .int .u64 v]] #[]] W fun e W' =>
      e = .returned (.agg #[.int .i64 kind, .int .i64 a, .int .i64 b, .int .u64 (m.ws p : Nat), .int .u64 ((Um.trn kind o v (m.ws p) : Nat)), .bool (Um.trd kind o (m.ws p))]) ∧ MemAt W' B C c (Um.mhit m p kind a b o v) ∧ Off B C W W' := by
  have hcl := fun w => cCell_any c.t c.s c.k c.g c.q a b w hb0 hb1
  rw [show Um.cellN (Um.rt c.t c.s c.k c.g c.q) c.t c.s c.k a b = p from hp] at hcl
  have hpn : p < c.n := by have := Um.Cf.cl_lt (c := c) (a := a) (b := b) (by omega); rw [hp] at this; simpa using this
  have hW := hide (h.wd p hpn)
  have hBn : B ≠ W.heap.size ∧ B ≠ W.heap.size + 1 ∧ B ≠ W.heap.size + 1 + 1 := by have := h.hB; omega
  have hCn : C ≠ W.heap.size ∧ C ≠ W.heap.size + 1 ∧ C ≠ W.heap.size + 1 + 1 := by have := h.hC; omega
  clear hp hb0 hb1
  have hne := h.ne
  go_enter Tryz.func72, Tryz.ntmps72
  go_wp2_with fail
  generalize hw1 : ((W.alloc (.cells #[.int .i64 a, .int .i64 b] 67)).alloc (.cells #[.int .i64 0, .int .i64 0, .int .i64 0, .int .u64 0, .int .u64 0, .bool false] 113)).alloc (.cells #[.int .i64 kind, .int .i64 a, .int .i64 b, .int .u64 0, .int .u64 0, .bool false] 113) = w1
  obtain ⟨hS1, hR1, hT1⟩ : SpAt w1 W.heap.size a b ∧ TchAt w1 (W.heap.size + 1) ⟨0, 0, 0, 0, 0, false⟩ ∧ TchAt w1 (W.heap.size + 1 + 1) ⟨kind, a, b, 0, 0, false⟩ := by
    subst hw1
    obtain ⟨h1, h2, h3⟩ := alloc3_at W (.cells #[.int .i64 a, .int .i64 b] 67) (.cells #[.int .i64 0, .int .i64 0, .int .i64 0, .int .u64 0, .int .u64 0, .bool false] 113) (.cells #[.int .i64 kind, .int .i64 a, .int .i64 b, .int .u64 0, .int .u64 0, .bool false] 113)
    exact ⟨spAt_new h1, tchAt_new _ h2, tchAt_new _ h3⟩
  have hO1 : Off B C W w1 := by
    subst hw1
    exact (((Off.refl B C W).alloc _).alloc _).alloc _
  have hM1 : MemAt w1 B C c m := by
    subst hw1
    exact h.below ((((Below.refl W.heap.size W).alloc (Nat.le_refl _) _).alloc (by simp) _).alloc (by simp; omega) _) h.hB h.hC
  clear hw1 h
  obtain ⟨_, a0, a1⟩ := id hS1
  obtain ⟨_, _, _, _, f0, f1, f2, f3, f4, _⟩ := id hM1
  have k0 : ∀ d os, (grow (redrawn w1 d) os).cell? ⟨B, 0, none⟩ = some (.int .i64 c.t) := fun d os => cell_regrown f0 d os
  have k1 : ∀ d os, (grow (redrawn w1 d) os).cell? ⟨B, 1, none⟩ = some (.int .i64 c.s) := fun d os => cell_regrown f1 d os
  have k2 : ∀ d os, (grow (redrawn w1 d) os).cell? ⟨B, 2, none⟩ = some (.int .i64 c.k) := fun d os => cell_regrown f2 d os
  have k3 : ∀ d os, (grow (redrawn w1 d) os).cell? ⟨B, 3, none⟩ = some (.int .i64 c.g) := fun d os => cell_regrown f3 d os
  have k4 : ∀ d os, (grow (redrawn w1 d) os).cell? ⟨B, 4, none⟩ = some (.int .u64 c.q) := fun d os => cell_regrown f4 d os
  have k5 : ∀ d os, (grow (redrawn w1 d) os).cell? ⟨W.heap.size, 0, none⟩ = some (.int .i64 a) := fun d os => cell_regrown a0 d os
  have k6 : ∀ d os, (grow (redrawn w1 d) os).cell? ⟨W.heap.size, 1, none⟩ = some (.int .i64 b) := fun d os => cell_regrown a1 d os
  refine wp_region_quiet_below (by kernel_rfl) (by kernel_rfl) ?_
  repeat (go_big_quiet_step (first
    | (go_at_call 98; exact Calls.regrown_of (hcl _))))
  refine wpQuiet_nil ?_
  intro w2 hw2
  have hb2 : Below w1.heap.size w1 w2 := by
    obtain ⟨⟨dq, osq⟩, hw3⟩ := hw2
    subst hw3
    exact below_regrown w1 dq osq
  have hR2 := hR1.below hb2
  have hT2 := hT1.below hb2
  have hM2 := hM1.below hb2 hM1.hB hM1.hC
  have hO2 := hO1.then hb2
  clear hb2 hw2 hR1 hT1 hM1 hO1 hS1 a0 a1 f0 f1 f2 f3 f4 k0 k1 k2 k3 k4 k5 k6 hcl
  have hTl : W.heap.size ≤ W.heap.size + 1 + 1 := by omega
  have hRl : W.heap.size ≤ W.heap.size + 1 := by omega
  have hTR : W.heap.size + 1 + 1 ≠ W.heap.size + 1 := by omega
  obtain ⟨_, hBR, hBT⟩ := hBn
  obtain ⟨_, hCR, hCT⟩ := hCn
  generalize W.heap.size + 1 + 1 = T at *
  generalize W.heap.size + 1 = R at *
  obtain ⟨_, _, _, _, _, _, _, _, _, e5, _⟩ := id hM2
  have e6 := hM2.ws p hpn
  obtain ⟨_, _, _, _, t3, _, _, tz⟩ := id hT2
  have tz3 := tz 3
  have hpi : (p : Int) < (c.n : Int) := by omega
  have hx0 : Um.Word (m.ws p) := unhide hW
  have HX := hide hx0
  clear hx0 hW tz
  go_wp2_with fail
  refine (hF _ _).mono ?_
  rintro e w4 ⟨rfl, hb4⟩
  have hT3 : TchAt (w2.setCell ⟨T, 3, none⟩ (.int .u64 (m.ws p : Nat))) T ⟨kind, a, b, m.ws p, 0, false⟩ := hT2.set3 (m.ws p)
  have hR3 := hR2.set (p := ⟨T, 3, none⟩) (u := .int .u64 (m.ws p : Nat)) hTR
  have hM3 := hM2.set (p := ⟨T, 3, none⟩) (u := .int .u64 (m.ws p : Nat)) (Ne.symm hBT) (Ne.symm hCT)
  have hO3 := hO2.set (p := ⟨T, 3, none⟩) (.inr (.inr hTl)) (.int .u64 (m.ws p : Nat))
  generalize w2.setCell ⟨T, 3, none⟩ (.int .u64 (m.ws p : Nat)) = w3 at *
  have hT4 := hT3.below hb4
  have hR4 := hR3.below hb4
  have hM4 := hM3.below hb4 hM3.hB hM3.hC
  have hO4 := hO3.then hb4
  clear hb4 hT3 hR3 hM3 hO3 hT2 hR2 hM2 hO2 hF eg e5 e6 t3 tz3
  obtain ⟨_, _, _, _, _, t4, t5, tz⟩ := id hT4
  have tz4 := tz 4
  have tz5 := tz 5
  clear tz
  go_wp2_with fail
  have hT5 : TchAt ((w4.setCell ⟨T, 4, none⟩ (.int .u64 (Um.trn kind o v (m.ws p) : Nat))).setCell ⟨T, 5, none⟩ (.bool (Um.trd kind o (m.ws p)))) T ⟨kind, a, b, m.ws p, Um.trn kind o v (m.ws p), Um.trd kind o (m.ws p)⟩ := (hT4.set4 (Um.trn kind o v (m.ws p))).set5 _
  have hR5 := (hR4.set (p := ⟨T, 4, none⟩) (u := .int .u64 (Um.trn kind o v (m.ws p) : Nat)) hTR).set (p := ⟨T, 5, none⟩) (u := .bool (Um.trd kind o (m.ws p))) hTR
  have hM5 := (hM4.set (p := ⟨T, 4, none⟩) (u := .int .u64 (Um.trn kind o v (m.ws p) : Nat)) (Ne.symm hBT) (Ne.symm hCT)).set (p := ⟨T, 5, none⟩) (u := .bool (Um.trd kind o (m.ws p))) (Ne.symm hBT) (Ne.symm hCT)
  have hO5 := (hO4.set (p := ⟨T, 4, none⟩) (.inr (.inr hTl)) (.int .u64 (Um.trn kind o v (m.ws p) : Nat))).set (p := ⟨T, 5, none⟩) (.inr (.inr hTl)) (.bool (Um.trd kind o (m.ws p)))
  generalize World.setCell (w4.setCell ⟨T, 4, none⟩ (.int .u64 (Um.trn kind o v (m.ws p) : Nat))) ⟨T, 5, none⟩ (.bool (Um.trd kind o (m.ws p))) = w5 at *
  clear hT4 hR4 hM4 hO4 t4 t5 tz4 tz5
  have hy := hide (Um.word_trn (kind := kind) (old := o) hv (unhide HX))
  generalize hye : Um.trn kind o v (m.ws p) = y at *
  generalize hde : Um.trd kind o (m.ws p) = dn at *
  have HYE := hide hye
  have HDE := hide hde
  clear hye hde
  have HT := hide hT5
  have HR := hide hR5
  have HM := hide hM5
  have HO := hide hO5
  have e6 := hM5.ws p hpn
  obtain ⟨_, t0, t1, t2, t3, t4, t5, tz⟩ := hT5
  obtain ⟨_, r0, r1, r2, r3, r4, r5, rz⟩ := hR5
  obtain ⟨_, _, _, _, _, _, _, _, _, m5, m6, m7, m8, m9, m10, m11, m12, mz, mc, _, _⟩ := hM5
  have rz0 := rz 0
  have rz1 := rz 1
  have rz2 := rz 2
  have rz3 := rz 3
  have rz4 := rz 4
  have rz5 := rz 5
  have mz6 := mz 6
  have mz7 := mz 7
  have mz8 := mz 8
  have mz9 := mz 9
  have mz10 := mz 10
  have mz11 := mz 11
  have mz12 := mz 12
  have mcp := mc p
  clear tz rz mz mc hO5
  go_region
  go_wp2
  have hM := unhide HM
  have hR := unhide HR
  have hO := unhide HO
  have hY := unhide hy
  have hm := (((((((((((((hM.setWord hpn hY).setCnt (wrap64 (m.cnt + 1))).setL0 kind).setL1 a).setL2 b).setL3 (m.ws p)).setL4 y).setL5 dn).set (p := ⟨R, 0, none⟩) (u := .int .i64 kind) (Ne.symm hBR) (Ne.symm hCR)).set (p := ⟨R, 1, none⟩) (u := .int .i64 a) (Ne.symm hBR) (Ne.symm hCR)).set (p := ⟨R, 2, none⟩) (u := .int .i64 b) (Ne.symm hBR) (Ne.symm hCR)).set (p := ⟨R, 3, none⟩) (u := .int .u64 (m.ws p : Nat)) (Ne.symm hBR) (Ne.symm hCR)).set (p := ⟨R, 4, none⟩) (u := .int .u64 (y : Nat)) (Ne.symm hBR) (Ne.symm hCR)).set (p := ⟨R, 5, none⟩) (u := .bool dn) (Ne.symm hBR) (Ne.symm hCR)
  have hr := (((((((((((((hR.set (p := ⟨C, p, none⟩) (u := .int .u64 (y : Nat)) hCR).set (p := ⟨B, 6, none⟩) (u := .int .i64 (wrap64 (m.cnt + 1))) hBR).set (p := ⟨B, 7, none⟩) (u := .int .i64 kind) hBR).set (p := ⟨B, 8, none⟩) (u := .int .i64 a) hBR).set (p := ⟨B, 9, none⟩) (u := .int .i64 b) hBR).set (p := ⟨B, 10, none⟩) (u := .int .u64 (m.ws p : Nat)) hBR).set (p := ⟨B, 11, none⟩) (u := .int .u64 (y : Nat)) hBR).set (p := ⟨B, 12, none⟩) (u := .bool dn) hBR).set0 kind).set1 a).set2 b).set3 (m.ws p)).set4 y).set5 dn
  have ho := (((((((((((((hO.set (p := ⟨C, p, none⟩) (.inr (.inl rfl)) (.int .u64 (y : Nat))).set (p := ⟨B, 6, none⟩) (.inl rfl) (.int .i64 (wrap64 (m.cnt + 1)))).set (p := ⟨B, 7, none⟩) (.inl rfl) (.int .i64 kind)).set (p := ⟨B, 8, none⟩) (.inl rfl) (.int .i64 a)).set (p := ⟨B, 9, none⟩) (.inl rfl) (.int .i64 b)).set (p := ⟨B, 10, none⟩) (.inl rfl) (.int .u64 (m.ws p : Nat))).set (p := ⟨B, 11, none⟩) (.inl rfl) (.int .u64 (y : Nat))).set (p := ⟨B, 12, none⟩) (.inl rfl) (.bool dn)).set (p := ⟨R, 0, none⟩) (.inr (.inr hRl)) (.int .i64 kind)).set (p := ⟨R, 1, none⟩) (.inr (.inr hRl)) (.int .i64 a)).set (p := ⟨R, 2, none⟩) (.inr (.inr hRl)) (.int .i64 b)).set (p := ⟨R, 3, none⟩) (.inr (.inr hRl)) (.int .u64 (m.ws p : Nat))).set (p := ⟨R, 4, none⟩) (.inr (.inr hRl)) (.int .u64 (y : Nat))).set (p := ⟨R, 5, none⟩) (.inr (.inr hRl)) (.bool dn)
  have hm' := hm.drew
  have hr' := hr.drew
  have ho' := ho.drew
  generalize hWf : World.drew _ = Wf at hm' hr' ho' ⊢
  obtain ⟨_, q0, q1, q2, q3, q4, q5, _⟩ := hr'
  refine bodyPost_ret (v := (.agg #[.int .i64 kind, .int .i64 a, .int .i64 b, .int .u64 (m.ws p : Nat), .int .u64 (y : Nat), .bool dn])) (by simp [results, Tryz.results72, go_sem, q0, q1, q2, q3, q4, q5]) rfl ⟨by rw [unhide HYE, unhide HDE], ?_, ho'⟩
  unfold Um.mhit
  rw [unhide HYE, unhide HDE]
  dsimp only at hm'
  rw [next_eq] at hm'
  exact hm'

end Go.Proofs.YtapgghciieloaaaGreat
