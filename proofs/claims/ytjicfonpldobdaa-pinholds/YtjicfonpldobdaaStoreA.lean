/-
  A world's words in memory: where they lie, what stays, and what is told of them.
-/
import Derived.Test.YtjicfonpldobdaaChartB
import Derived.Test.YtjicfonpldobdaaOwn
import Derived.Test.YtjicfonpldobdaaStoreMath
import Derived.Laws.CopyOwn
import Derived.OwnWalk
namespace Go.Proofs.Ytjicfonpldobdaa
set_option maxRecDepth 100000
open Go.RowKit Go.Sort

/-- all that there was stays, but for two blocks -/
structure Off (B C : Nat) (w w' : World) : Prop where
  os : w'.os = w.os
  tape : w'.tape = w.tape
  output : w'.output = w.output
  size : w.heap.size ≤ w'.heap.size
  block : ∀ k, k < w.heap.size → k ≠ B → k ≠ C → w'.heap[k]? = w.heap[k]?

theorem Off.refl (B C : Nat) (w : World) : Off B C w w := ⟨rfl, rfl, rfl, Nat.le_refl _, fun _ _ _ _ => rfl⟩

theorem Off.trans {B C : Nat} {a b c : World} (h : Off B C a b) (k : Off B C b c) : Off B C a c :=
  ⟨k.os.trans h.os, k.tape.trans h.tape, k.output.trans h.output, Nat.le_trans h.size k.size, fun i hi h1 h2 => (k.block i (Nat.lt_of_lt_of_le hi h.size) h1 h2).trans (h.block i hi h1 h2)⟩

theorem Off.of_below {B C : Nat} {w w' : World} (h : Below w.heap.size w w') : Off B C w w' := ⟨h.os, h.tape, h.output, h.size, fun k hk _ _ => h.block k hk⟩

theorem Off.then {B C : Nat} {a w w' : World} (h : Off B C a w) (k : Below w.heap.size w w') : Off B C a w' := h.trans (Off.of_below k)

theorem Off.alloc {B C : Nat} {a w : World} (h : Off B C a w) (o : Obj) : Off B C a (w.alloc o) := h.then ((Below.refl _ _).alloc (Nat.le_refl _) o)

theorem Off.drew {B C : Nat} {a w : World} (h : Off B C a w) : Off B C a w.drew := ⟨h.os, h.tape, h.output, h.size, h.block⟩

theorem Off.set {B C : Nat} {a w : World} (h : Off B C a w) {p : Addr} (hp : p.block = B ∨ p.block = C ∨ a.heap.size ≤ p.block) (u : Value) : Off B C a (w.setCell p u) :=
  ⟨h.os, h.tape, h.output, by simpa [World.setCell] using h.size, fun k hk h1 h2 => (Below.heap_setCell _ _ _ _ (by rcases hp with e | e | e <;> omega)).trans (h.block k hk h1 h2)⟩

theorem Off.below {B C n₀ : Nat} {w w' : World} (h : Off B C w w') (h0 : n₀ ≤ w.heap.size) (h1 : n₀ ≤ B) (h2 : n₀ ≤ C) : Below n₀ w w' :=
  ⟨h.os, h.tape, h.output, h.size, fun k hk => h.block k (by omega) (by omega) (by omega)⟩

theorem Off.cell {B C : Nat} {w w' : World} (h : Off B C w w') {p : Addr} (h0 : p.block < w.heap.size) (h1 : p.block ≠ B) (h2 : p.block ≠ C) : w'.cell? p = w.cell? p := World.cell?_of_block (w := w) (h.block p.block h0 h1 h2)

theorem Off.frozen {B C : Nat} {w w' : World} (h : Off B C w w') {p : Addr} (h0 : p.block < w.heap.size) (h1 : p.block ≠ B) (h2 : p.block ≠ C) : w'.frozen? p = w.frozen? p := World.frozen?_of_block (w := w) (h.block p.block h0 h1 h2)

/-- a memory lies in the block B, its words in the block C -/
structure MemAt (W : World) (B C : Nat) (c : Um.Cf) (m : Um.Mm) : Prop where
  hB : B < W.heap.size
  hC : C < W.heap.size
  ne : B ≠ C
  rt : c.r = true
  cf0 : W.cell? ⟨B, 0, none⟩ = some (.int .i64 c.t)
  cf1 : W.cell? ⟨B, 1, none⟩ = some (.int .i64 c.s)
  cf2 : W.cell? ⟨B, 2, none⟩ = some (.int .i64 c.k)
  cf3 : W.cell? ⟨B, 3, none⟩ = some (.int .i64 c.g)
  cf4 : W.cell? ⟨B, 4, none⟩ = some (.int .u64 c.q)
  sl : W.cell? ⟨B, 5, none⟩ = some (.slice (some ⟨C, 0, none⟩) c.n c.n)
  ct : W.cell? ⟨B, 6, none⟩ = some (.int .i64 m.cnt)
  l0 : W.cell? ⟨B, 7, none⟩ = some (.int .i64 m.l.kind)
  l1 : W.cell? ⟨B, 8, none⟩ = some (.int .i64 m.l.a)
  l2 : W.cell? ⟨B, 9, none⟩ = some (.int .i64 m.l.b)
  l3 : W.cell? ⟨B, 10, none⟩ = some (.int .u64 m.l.old)
  l4 : W.cell? ⟨B, 11, none⟩ = some (.int .u64 m.l.new)
  l5 : W.cell? ⟨B, 12, none⟩ = some (.bool m.l.done)
  fB : ∀ o, W.frozen? ⟨B, o, none⟩ = false
  fC : ∀ o, W.frozen? ⟨C, o, none⟩ = false
  ws : ∀ j, j < c.n → W.cell? ⟨C, j, none⟩ = some (.int .u64 (m.ws j))
  wd : ∀ j, j < c.n → Um.Word (m.ws j)

theorem MemAt.kept {W W' : World} {B C : Nat} {c : Um.Cf} {m : Um.Mm} (h : MemAt W B C c m) (hs : W.heap.size ≤ W'.heap.size) (hb : W'.heap[B]? = W.heap[B]?) (hc : W'.heap[C]? = W.heap[C]?) : MemAt W' B C c m :=
  have eb : ∀ o, W'.cell? ⟨B, o, none⟩ = W.cell? ⟨B, o, none⟩ := fun _ => World.cell?_of_block (w := W) hb
  have ec : ∀ o, W'.cell? ⟨C, o, none⟩ = W.cell? ⟨C, o, none⟩ := fun _ => World.cell?_of_block (w := W) hc
  ⟨Nat.lt_of_lt_of_le h.hB hs, Nat.lt_of_lt_of_le h.hC hs, h.ne, h.rt, (eb _).trans h.cf0, (eb _).trans h.cf1, (eb _).trans h.cf2, (eb _).trans h.cf3, (eb _).trans h.cf4, (eb _).trans h.sl, (eb _).trans h.ct,
    (eb _).trans h.l0, (eb _).trans h.l1, (eb _).trans h.l2, (eb _).trans h.l3, (eb _).trans h.l4, (eb _).trans h.l5, fun o => (World.frozen?_of_block (w := W) hb).trans (h.fB o), fun o => (World.frozen?_of_block (w := W) hc).trans (h.fC o),
    fun j hj => (ec j).trans (h.ws j hj), h.wd⟩

theorem MemAt.below {W W' : World} {B C n₀ : Nat} {c : Um.Cf} {m : Um.Mm} (h : MemAt W B C c m) (b : Below n₀ W W') (h1 : B < n₀) (h2 : C < n₀) : MemAt W' B C c m := h.kept b.size (b.block B h1) (b.block C h2)

theorem MemAt.off {W W' : World} {B C B' C' : Nat} {c : Um.Cf} {m : Um.Mm} (h : MemAt W B C c m) (b : Off B' C' W W') (h1 : B ≠ B' ∧ B ≠ C') (h2 : C ≠ B' ∧ C ≠ C') : MemAt W' B C c m := h.kept b.size (b.block B h.hB h1.1 h1.2) (b.block C h.hC h2.1 h2.2)

/-- how great a world is lies in the block B -/
structure CfAt (W : World) (B : Nat) (c : Um.Cf) : Prop where
  lt : B < W.heap.size
  c0 : W.cell? ⟨B, 0, none⟩ = some (.int .i64 c.t)
  c1 : W.cell? ⟨B, 1, none⟩ = some (.int .i64 c.s)
  c2 : W.cell? ⟨B, 2, none⟩ = some (.int .i64 c.k)
  c3 : W.cell? ⟨B, 3, none⟩ = some (.int .i64 c.g)
  c4 : W.cell? ⟨B, 4, none⟩ = some (.int .u64 c.q)

theorem CfAt.kept {W W' : World} {B : Nat} {c : Um.Cf} (h : CfAt W B c) (hs : W.heap.size ≤ W'.heap.size) (hb : W'.heap[B]? = W.heap[B]?) : CfAt W' B c :=
  have eb : ∀ o, W'.cell? ⟨B, o, none⟩ = W.cell? ⟨B, o, none⟩ := fun _ => World.cell?_of_block (w := W) hb
  ⟨Nat.lt_of_lt_of_le h.lt hs, (eb _).trans h.c0, (eb _).trans h.c1, (eb _).trans h.c2, (eb _).trans h.c3, (eb _).trans h.c4⟩

theorem CfAt.below {W W' : World} {B : Nat} {c : Um.Cf} (h : CfAt W B c) (b : Below W.heap.size W W') : CfAt W' B c := h.kept b.size (b.block B h.lt)

theorem CfAt.off {W W' : World} {B B' C' : Nat} {c : Um.Cf} (h : CfAt W B c) (b : Off B' C' W W') (h1 : B ≠ B') (h2 : B ≠ C') : CfAt W' B c := h.kept b.size (b.block B h.lt h1 h2)

theorem CfAt.drew {W : World} {B : Nat} {c : Um.Cf} (h : CfAt W B c) : CfAt W.drew B c := ⟨h.lt, h.c0, h.c1, h.c2, h.c3, h.c4⟩

theorem cfAt_alloc (w : World) (c : Um.Cf) (e : TypeId) : CfAt (w.alloc (.cells #[.int .i64 c.t, .int .i64 c.s, .int .i64 c.k, .int .i64 c.g, .int .u64 c.q] e)) w.heap.size c := by
  have hn := heap_alloc_new w (.cells #[.int .i64 c.t, .int .i64 c.s, .int .i64 c.k, .int .i64 c.g, .int .u64 c.q] e)
  have hc : ∀ j, (w.alloc (.cells #[.int .i64 c.t, .int .i64 c.s, .int .i64 c.k, .int .i64 c.g, .int .u64 c.q] e)).cell? ⟨w.heap.size, j, none⟩ = (#[.int .i64 c.t, .int .i64 c.s, .int .i64 c.k, .int .i64 c.g, .int .u64 c.q] : Array Value)[j]? := by
    intro j
    generalize w.alloc _ = W at *
    simp [World.cell?, hn]
  exact ⟨by simp, hc 0, hc 1, hc 2, hc 3, hc 4⟩

/-- the slice v holds n words -/
def IsWords (W : World) (v : Value) (n : Nat) (ws : Nat → Nat) : Prop :=
  (∃ a cap, v = .slice a 0 cap ∧ n = 0) ∨ ∃ b off cap, v = .slice (some ⟨b, off, none⟩) n cap ∧ 0 < n ∧ n ≤ cap ∧ cap ≤ maxLen ∧ b < W.heap.size ∧ ∀ j, j < n → W.cell? ⟨b, off + j, none⟩ = some (.int .u64 (ws j)) ∧ Um.Word (ws j)

theorem IsWords.below {n₀ n : Nat} {A B : World} {v : Value} {ws : Nat → Nat} (h : IsWords A v n ws) (b : Below n₀ A B) (hn : A.heap.size ≤ n₀) : IsWords B v n ws := by
  rcases h with h | ⟨g, off, cap, rfl, h0, h1, h2, h3, h4⟩
  · exact .inl h
  · exact .inr ⟨g, off, cap, rfl, h0, h1, h2, Nat.lt_of_lt_of_le h3 b.size, fun j hj => ⟨(b.cell (p := ⟨g, off + j, none⟩) (by show g < n₀; omega)).trans (h4 j hj).1, (h4 j hj).2⟩⟩

/-- the same, and it lies below a bound -/
def LowWords (B : Nat) (W : World) (v : Value) (n : Nat) (ws : Nat → Nat) : Prop :=
  (∃ a cap, v = .slice a 0 cap ∧ n = 0) ∨ ∃ b off cap, v = .slice (some ⟨b, off, none⟩) n cap ∧ 0 < n ∧ n ≤ cap ∧ cap ≤ maxLen ∧ b < B ∧ ∀ j, j < n → W.cell? ⟨b, off + j, none⟩ = some (.int .u64 (ws j)) ∧ Um.Word (ws j)

theorem IsWords.low {n : Nat} {A : World} {v : Value} {ws : Nat → Nat} (h : IsWords A v n ws) : LowWords A.heap.size A v n ws := h
theorem LowWords.is {n B : Nat} {A : World} {v : Value} {ws : Nat → Nat} (h : LowWords B A v n ws) (hB : B ≤ A.heap.size) : IsWords A v n ws := by
  rcases h with h | ⟨g, off, cap, rfl, h0, h1, h2, h3, h4⟩
  · exact .inl h
  · exact .inr ⟨g, off, cap, rfl, h0, h1, h2, by omega, h4⟩
theorem LowWords.below {n₀ n : Nat} {A B : World} {v : Value} {ws : Nat → Nat} (h : LowWords n₀ A v n ws) (b : Below n₀ A B) : LowWords n₀ B v n ws := by
  rcases h with h | ⟨g, off, cap, rfl, h0, h1, h2, h3, h4⟩
  · exact .inl h
  · exact .inr ⟨g, off, cap, rfl, h0, h1, h2, h3, fun j hj => ⟨(b.cell (p := ⟨g, off + j, none⟩) h3).trans (h4 j hj).1, (h4 j hj).2⟩⟩

/-- words as a row of cells -/
def rowW (ws : Nat → Nat) : Nat → List Value
  | 0 => []
  | n + 1 => rowW ws n ++ [.int .u64 (ws n)]

theorem rowW_len (ws : Nat → Nat) (n : Nat) : (rowW ws n).length = n := by
  induction n with
  | zero => rfl
  | succ n ih => simp [rowW, ih]

theorem rowW_get (ws : Nat → Nat) (n j : Nat) (h : j < n) : (rowW ws n)[j]? = some (.int .u64 (ws j)) := by
  induction n with
  | zero => omega
  | succ n ih =>
    rw [rowW]
    by_cases e : j = n
    · subst e
      rw [List.getElem?_append_right (by rw [rowW_len]; exact Nat.le_refl _), rowW_len]
      simp
    · rw [List.getElem?_append_left (by rw [rowW_len]; omega)]
      exact ih (by omega)

theorem rowW_mem {ws : Nat → Nat} {n : Nat} : ∀ v ∈ rowW ws n, v.oneCell' = true := by
  induction n with
  | zero => simp [rowW]
  | succ n ih =>
    intro v hv
    rw [rowW] at hv
    rcases List.mem_append.1 hv with h | h
    · exact ih v h
    · obtain rfl : v = _ := by simpa using h
      rfl

/-- cells of a block that is a row of words -/
theorem row_cell {W : World} {g : Nat} {ws : Nat → Nat} {n : Nat} {e : TypeId} (h : W.heap[g]? = some (.cells (rowW ws n).toArray e (0, 0))) (j : Nat) (hj : j < n) : W.cell? ⟨g, j, none⟩ = some (.int .u64 (ws j)) := by
  have := rowW_get ws n j hj
  simp [World.cell?, h, this]

theorem row_frozen {W : World} {g : Nat} {cs : Array Value} {e : TypeId} (h : W.heap[g]? = some (.cells cs e (0, 0))) (o : Nat) : W.frozen? ⟨g, o, none⟩ = false := by
  simp [World.frozen?, h]

theorem infoU : (Try.prog.info? 22).map (fun i => (i.zero, i.size, i.bytes)) = some (some (.int .u64 0), 1, 8) := by kernel_rfl

theorem made_zero (n : Nat) : (madeCells (Value.int .u64 0).cells (n * 1)).toList = rowW (fun _ => 0) n := by
  rw [Nat.mul_one]
  apply List.ext_getElem?
  intro j
  by_cases h : j < n
  · rw [rowW_get _ _ _ h]
    simp [madeCells, Value.cells, h, Nat.mod_one]
  · rw [List.getElem?_eq_none (l := rowW _ n) (by rw [rowW_len]; omega), List.getElem?_eq_none (by simp [madeCells, Value.cells]; omega)]

end Go.Proofs.Ytjicfonpldobdaa
