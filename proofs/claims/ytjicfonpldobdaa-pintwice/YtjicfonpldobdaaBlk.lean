/-
  Blocks of a call's own, as a list: what they hold; loads and stores of one cell, or of many at once.
-/
import Derived.Test.YtjicfonpldobdaaStoreS
import Derived.Deep.MidRow
namespace Go.Proofs.Ytjicfonpldobdaa
set_option maxRecDepth 100000
open Go.RowKit Go.Sort

/-- cells written over, from a place on -/
def blit (cs : List Value) (o : Nat) : List Value → List Value
  | [] => cs
  | v :: r => blit (cs.set o v) (o + 1) r

/-- a part of a row -/
def cutL (cs : List Value) (o n : Nat) : List Value := (cs.drop o).take n

theorem blit_len (vs : List Value) : ∀ (cs : List Value) (o : Nat), (blit cs o vs).length = cs.length := by
  induction vs with
  | nil => intro cs o; rfl
  | cons v r ih => intro cs o; rw [blit, ih]; simp

theorem BlkAt.cells {B : Nat} (vs : List Value) : ∀ {cs : List Value} {W : World} (_ : BlkAt W B cs) (o : Nat), BlkAt (W.setCells B o vs) B (blit cs o vs) := by
  induction vs with
  | nil => intro cs W h o; exact h
  | cons v r ih => intro cs W h o; exact ih (h.put o v) (o + 1)

theorem Off.cells {B C : Nat} {a : World} (vs : List Value) : ∀ {w : World} (_ : Off B C a w) (o : Nat), Off B C a (w.setCells B o vs) := by
  induction vs with
  | nil => intro w h o; exact h
  | cons v r ih => intro w h o; exact ih (h.set (.inl rfl) v) (o + 1)

theorem BlkAt.range {W : World} {B : Nat} {cs : List Value} (h : BlkAt W B cs) (o n : Nat) : W.rangeAt B o (cutL cs o n) := by
  intro j v hv
  refine h.cell (o + j) v ?_
  unfold cutL at hv
  by_cases hj : j < n
  · rw [List.getElem?_take_of_lt hj, List.getElem?_drop] at hv
    exact hv
  · rw [List.getElem?_take_eq_none (by omega)] at hv
    cases hv

/-- a memory's state inside a call: nothing elder has turned; blocks of its own hold these cells -/
structure St (w0 w : World) (l : List (Nat × List Value)) : Prop where
  bel : Below w0.heap.size w0 w
  low : ∀ p ∈ l, w0.heap.size ≤ p.1
  blk : ∀ p ∈ l, BlkAt w p.1 p.2
  nd : l.Pairwise (fun p q => p.1 ≠ q.1)

theorem St.new (w : World) : St w w [] := ⟨Below.refl _ _, by simp, by simp, List.Pairwise.nil⟩

theorem St.get {w0 w : World} {l : List (Nat × List Value)} (h : St w0 w l) (k : Nat) {b : Nat} {cs : List Value} (hk : l[k]? = some (b, cs)) : BlkAt w b cs := h.blk (b, cs) (List.mem_of_getElem? hk)

theorem St.ne {w0 w : World} {l : List (Nat × List Value)} (h : St w0 w l) (i j : Nat) {b b' : Nat} {cs cs' : List Value} (hi : l[i]? = some (b, cs)) (hj : l[j]? = some (b', cs')) (hij : i ≠ j) : b ≠ b' := by
  obtain ⟨h1, e1⟩ := List.getElem?_eq_some_iff.1 hi
  obtain ⟨h2, e2⟩ := List.getElem?_eq_some_iff.1 hj
  rcases Nat.lt_or_gt_of_ne hij with hlt | hlt
  · have := List.pairwise_iff_getElem.1 h.nd i j h1 h2 hlt
    rwa [e1, e2] at this
  · have := List.pairwise_iff_getElem.1 h.nd j i h2 h1 hlt
    rw [e1, e2] at this
    exact fun e => this e.symm

theorem St.call {w0 w w' : World} {l : List (Nat × List Value)} (h : St w0 w l) (b : Below w.heap.size w w') : St w0 w' l :=
  ⟨h.bel.trans (b.mono h.bel.size), h.low, fun p hp => (h.blk p hp).below b, h.nd⟩

theorem St.drew {w0 w : World} {l : List (Nat × List Value)} (h : St w0 w l) : St w0 w.drew l := ⟨h.bel.drew, h.low, fun p hp => (h.blk p hp).drew, h.nd⟩

theorem St.undrew {w0 w w' : World} {l : List (Nat × List Value)} (h : St w0 w l) (b : Below w.drew.heap.size w.drew w') : St w0 w' l := h.call (below_undrew b)

theorem St.add {w0 w w' : World} {l : List (Nat × List Value)} (h : St w0 w l) (b : Below w.heap.size w w') {g : Nat} {cs : List Value} (hg : BlkAt w' g cs) (hl : w.heap.size ≤ g) : St w0 w' (l ++ [(g, cs)]) := by
  have h' := h.call b
  refine ⟨h'.bel, fun p hp => ?_, fun p hp => ?_, ?_⟩
  · rcases List.mem_append.1 hp with e | e
    · exact h.low p e
    · obtain rfl : p = _ := by simpa using e
      exact Nat.le_trans h.bel.size hl
  · rcases List.mem_append.1 hp with e | e
    · exact h'.blk p e
    · obtain rfl : p = _ := by simpa using e
      exact hg
  · rw [List.pairwise_append]
    refine ⟨h.nd, by simp, fun p hp q hq => ?_⟩
    obtain rfl : q = _ := by simpa using hq
    have := (h.blk p hp).lt
    intro e
    simp at e
    omega

theorem St.alloc {w0 w : World} {l : List (Nat × List Value)} (h : St w0 w l) (cs : Array Value) (t : TypeId) : St w0 (w.alloc (.cells cs t)) (l ++ [(w.heap.size, cs.toList)]) :=
  h.add ((Below.refl _ _).alloc (Nat.le_refl _) _) (blkAt_new (heap_alloc_new _ _)) (Nat.le_refl _)

theorem pairwise_set {l : List (Nat × List Value)} (h : l.Pairwise (fun p q => p.1 ≠ q.1)) {k b : Nat} {cs cs' : List Value} (hk : l[k]? = some (b, cs)) : (l.set k (b, cs')).Pairwise (fun p q => p.1 ≠ q.1) := by
  have e : (l.set k (b, cs')).map (·.1) = l.map (·.1) := by
    apply List.ext_getElem?
    intro i
    simp only [List.getElem?_map, List.getElem?_set]
    split
    · rename_i e
      subst e
      have hk' := (List.getElem?_eq_some_iff.1 hk).1
      have e := (List.getElem?_eq_some_iff.1 hk).2
      simp [hk', e]
    · rfl
  have h1 : (l.map (·.1)).Pairwise (· ≠ ·) := by rw [List.pairwise_map]; exact h
  rw [← e, List.pairwise_map] at h1
  exact h1

theorem St.turn {w0 w w' : World} {l : List (Nat × List Value)} (h : St w0 w l) (k : Nat) {b : Nat} {cs cs' : List Value} (hk : l[k]? = some (b, cs)) (ho : Off b b w w') (hb : BlkAt w' b cs') : St w0 w' (l.set k (b, cs')) := by
  have hlow := h.low (b, cs) (List.mem_of_getElem? hk)
  refine ⟨h.bel.trans (ho.below h.bel.size hlow hlow), fun p hp => ?_, fun p hp => ?_, pairwise_set h.nd hk⟩
  · rcases List.mem_or_eq_of_mem_set hp with e | e
    · exact h.low p e
    · subst e; exact hlow
  · obtain ⟨i, hi⟩ := List.mem_iff_getElem?.1 hp
    rw [List.getElem?_set] at hi
    split at hi
    · split at hi
      · cases hi; exact hb
      · cases hi
    · rename_i hne
      have hpb := h.blk p (List.mem_of_getElem? hi)
      refine hpb.off ho ?_ ?_ <;>
      · intro e
        have h1 := (List.getElem?_eq_some_iff.1 hi)
        have h2 := (List.getElem?_eq_some_iff.1 hk)
        obtain ⟨h1, e1⟩ := h1
        obtain ⟨h2, e2⟩ := h2
        rcases Nat.lt_or_gt_of_ne hne with hlt | hlt
        · have := List.pairwise_iff_getElem.1 h.nd k i h2 h1 hlt
          rw [e1, e2] at this
          exact this e.symm
        · have := List.pairwise_iff_getElem.1 h.nd i k h1 h2 hlt
          rw [e1, e2] at this
          exact this e

theorem St.store {w0 w : World} {l : List (Nat × List Value)} (h : St w0 w l) (k : Nat) {b : Nat} {cs : List Value} (hk : l[k]? = some (b, cs)) (o : Nat) (vs : List Value) : St w0 (w.setCells b o vs) (l.set k (b, blit cs o vs)) :=
  h.turn k hk ((Off.refl b b w).cells vs o) ((h.get k hk).cells vs o)

/-! ### Runs -/

theorem run_load_st {P : Program} {w : World} {b : Nat} {cs : List Value} (h : BlkAt w b cs) (o : Nat) (ty : TypeId) (n : Nat) (hn : o + n ≤ cs.length) (d : TypeDesc) (hu : P.underlying ty = some d) (hd : d.isRow = true) (hi : (P.info? ty).map (·.size) = some n) :
    (Instr.loadAt ty (.pointer (some ⟨b, o, none⟩))).run P w = .ok (.agg (cutL cs o n).toArray) w :=
  run_loadAt_mid w b o ty (cutL cs o n) d (h.range o n) hu hd (by rw [hi]; simp [cutL]; omega)

theorem run_load1_st {P : Program} {w : World} {b : Nat} {cs : List Value} (h : BlkAt w b cs) (o : Nat) (ty : TypeId) (v : Value) (hv : cs[o]? = some v) (d : TypeDesc) (hu : P.underlying ty = some d) (hd : d.isRow = false) :
    (Instr.loadAt ty (.pointer (some ⟨b, o, none⟩))).run P w = .ok v w := by
  have hagg : (isAgg ty).run P w = .ok false w := by
    unfold isAgg
    rw [Sem.run_bind, run_underlying hu w]
    cases d <;> simp_all
  simp [Instr.loadAt, Instr.sureAddr, loadVar, Sem.run_bind, hagg, h.cell o v hv]

theorem run_store_st {P : Program} {w : World} {b : Nat} {cs : List Value} (h : BlkAt w b cs) (o : Nat) (ty : TypeId) (v : Value) (vs : List Value) (hv : v.cells.toList = vs) (hn : o + vs.length ≤ cs.length) (hi : (P.info? ty).map (·.size) = some vs.length) (h1 : vs.all (·.oneCell') = true) :
    (Instr.storeAt ty (.pointer (some ⟨b, o, none⟩)) v).run P w = .ok () (w.setCells b o vs) := by
  have hst := run_storeCells_cells (P := P) b o vs 0 w (fun j hj => by
      have hj' : o + j < cs.length := by omega
      rw [Nat.add_zero, h.cell (o + j) cs[o + j] (List.getElem?_eq_getElem hj')]; rfl) (fun j _ => h.fz _) (fun v hv => List.all_eq_true.1 h1 v hv)
  cases hq : P.info? ty with
  | none => simp [hq] at hi
  | some i =>
    have hs : v.cells.size = i.size := by
      have : vs.length = i.size := by simp [hq] at hi; omega
      rw [← this, ← hv]; simp
    simp only [Nat.add_zero] at hst
    simp [Instr.storeAt, Instr.sureAddr, storeVar, sizeOf, typeInfo, hq, hs, hv, hst]

/-- a type of many cells -/
def Row (P : Program) (ty : TypeId) (n : Nat) : Prop := ∃ d, P.underlying ty = some d ∧ d.isRow = true ∧ (P.info? ty).map (·.size) = some n

/-- a type of one cell -/
def One (P : Program) (ty : TypeId) : Prop := ∃ d, P.underlying ty = some d ∧ d.isRow = false

/-! ### The walk's steps, at a plain list of operations -/
section
variable {P : Program} {ops : Array Oper} {rest : List Oper} {op : Oper} {a : Act} {w w0 : World} {Q : Exit → Act → World → Prop} {l : List (Nat × List Value)}

theorem wpl_box (hS : St w0 w l) (hw : Region.wanted op (yielded ops a.tmps) = true) (ty : TypeId) (x : Operand) (ho : op.op = .box ty x) (vs : List Value) (hx : a.eval x = .agg (List.toArray vs))
    (f : Nat → Act) (hf : ∀ b, a.put op.dst (.pointer (some ⟨b, 0, none⟩)) = f b) (h : ∀ b w', St w0 w' (l ++ [(b, vs)]) → wpList P ops Q rest (f b) w') : wpList P ops Q (op :: rest) a w := by
  refine BigFrame.wpList_want hw fun K hK => ?_
  have e : (execOp a.eval op).run P w = .ok (.value (.pointer (some ⟨w.heap.size, 0, none⟩))) (w.alloc (.cells (List.toArray vs) ty)) := by
    unfold execOp
    rw [ho]
    dsimp only
    rw [hx]
    simp [Instr.box, newVar, newRow, go_sem, Value.cells]
  unfold Oper.wp
  rw [e]
  exact hK _ _ (by rw [hf]; exact h _ _ (hS.alloc (List.toArray vs) ty))

theorem wpl_alloc (hS : St w0 w l) (hw : Region.wanted op (yielded ops a.tmps) = true) (ty : TypeId) (ho : op.op = .alloc ty) (z : Value) (hz : (P.info? ty).map (·.zero) = some (some z))
    (f : Nat → Act) (hf : ∀ b, a.put op.dst (.pointer (some ⟨b, 0, none⟩)) = f b) (h : ∀ b w', St w0 w' (l ++ [(b, z.cells.toList)]) → wpList P ops Q rest (f b) w') : wpList P ops Q (op :: rest) a w := by
  refine BigFrame.wpList_want hw fun K hK => ?_
  have e : (execOp a.eval op).run P w = .ok (.value (.pointer (some ⟨w.heap.size, 0, none⟩))) (w.alloc (.cells z.cells ty)) := by
    unfold execOp
    rw [ho]
    cases hq : P.info? ty with
    | none => simp [hq] at hz
    | some i =>
      have hz' : i.zero = some z := by simpa [hq] using hz
      simp [Instr.alloc, zeroValue, typeInfo, hq, hz', newVar, newRow, go_sem]
  unfold Oper.wp
  rw [e]
  exact hK _ _ (by rw [hf]; exact h _ _ (hS.alloc z.cells ty))

theorem wpl_load (hS : St w0 w l) (k : Nat) (hw : Region.wanted op (yielded ops a.tmps) = true) (ty : TypeId) (x : Operand) (ho : op.op = .load ty x) (b o : Nat) (hx : a.eval x = .pointer (some ⟨b, o, none⟩)) (cs : List Value) (hk : l[k]? = some (b, cs)) (n : Nat) (hr : Row P ty n) (hn : (o + n).ble cs.length = true) (vs : List Value) (hvs : cutL cs o n = vs)
    (a' : Act) (ha : a.put op.dst (.agg vs.toArray) = a') (h : wpList P ops Q rest a' w) : wpList P ops Q (op :: rest) a w := by
  refine BigFrame.wpList_want hw fun K hK => ?_
  obtain ⟨d, hu, hd, hi⟩ := hr
  subst hvs ha
  have e : (execOp a.eval op).run P w = .ok (.value (.agg (cutL cs o n).toArray)) w := by
    unfold execOp
    rw [ho]
    simp [hx, run_load_st (P := P) (hS.get k hk) o ty n (Nat.le_of_ble_eq_true hn) d hu hd hi]
  unfold Oper.wp
  rw [e]
  exact hK _ _ h

theorem wpl_load1 (hS : St w0 w l) (k : Nat) (hw : Region.wanted op (yielded ops a.tmps) = true) (ty : TypeId) (x : Operand) (ho : op.op = .load ty x) (b o : Nat) (hx : a.eval x = .pointer (some ⟨b, o, none⟩)) (cs : List Value) (hk : l[k]? = some (b, cs)) (hr : One P ty) (v : Value) (hv : cs[o]? = some v)
    (a' : Act) (ha : a.put op.dst v = a') (h : wpList P ops Q rest a' w) : wpList P ops Q (op :: rest) a w := by
  refine BigFrame.wpList_want hw fun K hK => ?_
  obtain ⟨d, hu, hd⟩ := hr
  subst ha
  have e : (execOp a.eval op).run P w = .ok (.value v) w := by
    unfold execOp
    rw [ho]
    simp [hx, run_load1_st (P := P) (hS.get k hk) o ty v hv d hu hd]
  unfold Oper.wp
  rw [e]
  exact hK _ _ h

theorem wpl_store (hS : St w0 w l) (k : Nat) (hw : Region.wanted op (yielded ops a.tmps) = true) (ty : TypeId) (x y : Operand) (ho : op.op = .store ty x y) (b o : Nat) (hx : a.eval x = .pointer (some ⟨b, o, none⟩)) (cs : List Value) (hk : l[k]? = some (b, cs)) (v : Value) (hy : a.eval y = v)
    (vs : List Value) (hv : v.cells.toList = vs) (n : Nat) (hi : (P.info? ty).map (·.size) = some n) (hvn : vs.length = n) (hn : (o + vs.length).ble cs.length = true) (h1 : vs.all (·.oneCell') = true)
    (a' : Act) (ha : a.put op.dst undef = a') (h : ∀ w', St w0 w' (l.set k (b, blit cs o vs)) → wpList P ops Q rest a' w') : wpList P ops Q (op :: rest) a w := by
  refine BigFrame.wpList_want hw fun K hK => ?_
  subst ha
  have e : (execOp a.eval op).run P w = .ok .skip (w.setCells b o vs) := by
    unfold execOp
    rw [ho]
    simp [hx, hy, run_store_st (P := P) (hS.get k hk) o ty v vs hv (Nat.le_of_ble_eq_true hn) (hvn ▸ hi) h1]
  unfold Oper.wp
  rw [e]
  exact hK _ _ (h _ (hS.store k hk o vs))

theorem wpl_storeO (hS : St w0 w l) (k : Nat) (hw : Region.wanted op (yielded ops a.tmps) = true) (ty : TypeId) (x y : Operand) (ho : op.op = .store ty x y) (b o : Nat) (hx : a.eval x = .pointer (some ⟨b, o, none⟩)) (cs : List Value) (hk : l[k]? = some (b, cs)) (v : Value) (hy : a.eval y = v)
    (vs : List Value) (hv : v.cells.toList = vs) (n : Nat) (hi : (P.info? ty).map (·.size) = some n) (hvn : vs.length = n) (hn : (o + vs.length).ble cs.length = true) (h1 : vs.all (·.oneCell') = true)
    (a' : Act) (ha : a.put op.dst undef = a') (h : ∀ w', St w0 w' (l.set k (b, blit cs o vs)) → Off b b w w' → wpList P ops Q rest a' w') : wpList P ops Q (op :: rest) a w := by
  refine BigFrame.wpList_want hw fun K hK => ?_
  subst ha
  have e : (execOp a.eval op).run P w = .ok .skip (w.setCells b o vs) := by
    unfold execOp
    rw [ho]
    simp [hx, hy, run_store_st (P := P) (hS.get k hk) o ty v vs hv (Nat.le_of_ble_eq_true hn) (hvn ▸ hi) h1]
  unfold Oper.wp
  rw [e]
  exact hK _ _ (h _ (hS.store k hk o vs) ((Off.refl b b w).cells vs o))

/-- a value's cells -/
def Sh (v : Value) (vs : List Value) : Prop := v.cells.toList = vs

theorem shA {v : Value} {vs : List Value} (h : v = .agg (List.toArray vs)) : Sh v vs := by subst h; rfl
theorem shI {v : Value} {k : IntKind} {i : Int} (h : v = .int k i) : Sh v [.int k i] := by subst h; rfl
theorem shB {v : Value} {b : Bool} (h : v = .bool b) : Sh v [.bool b] := by subst h; rfl
theorem shS {v : Value} {p : Option Addr} {n c : Nat} (h : v = .slice p n c) : Sh v [.slice p n c] := by subst h; rfl
theorem shP {v : Value} {p : Option Addr} (h : v = .pointer p) : Sh v [.pointer p] := by subst h; rfl
theorem shF {v : Value} {f : Fn} {x y : Array Value} (h : v = .func f x y) : Sh v [.func f x y] := by subst h; rfl
theorem shN {v : Value} (h : v = .nilFunc) : Sh v [.nilFunc] := by subst h; rfl

theorem wpl_ld (hS : St w0 w l) (hw : Region.wanted op (yielded ops a.tmps) = true) (ty : TypeId) (x : Operand) (ho : op.op = .load ty x) (b o : Nat) (hx : a.eval x = .pointer (some ⟨b, o, none⟩))
    (h : ∃ (k : Nat) (cs : List Value), l[k]? = some (b, cs) ∧ ((∃ v, One P ty ∧ cs[o]? = some v ∧ ∃ a', a.put op.dst v = a' ∧ wpList P ops Q rest a' w) ∨ ∃ n vs, Row P ty n ∧ (o + n).ble cs.length = true ∧ cutL cs o n = vs ∧ ∃ a', a.put op.dst (.agg vs.toArray) = a' ∧ wpList P ops Q rest a' w)) : wpList P ops Q (op :: rest) a w := by
  obtain ⟨k, cs, hk, ⟨v, h1, h2, a', ha, h⟩ | ⟨n, vs, h1, h2, h3, a', ha, h⟩⟩ := h
  · exact wpl_load1 hS k hw ty x ho b o hx cs hk h1 v h2 a' ha h
  · exact wpl_load hS k hw ty x ho b o hx cs hk n h1 h2 vs h3 a' ha h

theorem wpl_st (hS : St w0 w l) (hw : Region.wanted op (yielded ops a.tmps) = true) (ty : TypeId) (x y : Operand) (ho : op.op = .store ty x y) (hd : op.dst = none) (b o : Nat) (hx : a.eval x = .pointer (some ⟨b, o, none⟩))
    (h : ∃ (k : Nat) (cs : List Value), l[k]? = some (b, cs) ∧ ∃ vs, Sh (a.eval y) vs ∧ ∃ n, (P.info? ty).map (·.size) = some n ∧ vs.length = n ∧ (o + vs.length).ble cs.length = true ∧ vs.all (·.oneCell') = true ∧ ∀ w', St w0 w' (l.set k (b, blit cs o vs)) → wpList P ops Q rest a w') : wpList P ops Q (op :: rest) a w := by
  obtain ⟨k, cs, hk, vs, h1, n, h2, h3, h4, h5, h⟩ := h
  exact wpl_store hS k hw ty x y ho b o hx cs hk _ rfl vs h1 n h2 h3 h4 h5 a (by rw [hd]; rfl) h

theorem wpl_stO (hS : St w0 w l) (hw : Region.wanted op (yielded ops a.tmps) = true) (ty : TypeId) (x y : Operand) (ho : op.op = .store ty x y) (hd : op.dst = none) (b o : Nat) (hx : a.eval x = .pointer (some ⟨b, o, none⟩))
    (h : ∃ (k : Nat) (cs : List Value), l[k]? = some (b, cs) ∧ ∃ vs, Sh (a.eval y) vs ∧ ∃ n, (P.info? ty).map (·.size) = some n ∧ vs.length = n ∧ (o + vs.length).ble cs.length = true ∧ vs.all (·.oneCell') = true ∧ ∀ w', St w0 w' (l.set k (b, blit cs o vs)) → Off b b w w' → wpList P ops Q rest a w') : wpList P ops Q (op :: rest) a w := by
  obtain ⟨k, cs, hk, vs, h1, n, h2, h3, h4, h5, h⟩ := h
  exact wpl_storeO hS k hw ty x y ho b o hx cs hk _ rfl vs h1 n h2 h3 h4 h5 a (by rw [hd]; rfl) h

end

theorem St.add2 {w0 w w' : World} {l : List (Nat × List Value)} (h : St w0 w l) (b : Below w.heap.size w w') {g h' : Nat} {cs ds : List Value} (hg : BlkAt w' g cs) (hl : w.heap.size ≤ g) (hh : BlkAt w' h' ds) (hl' : w.heap.size ≤ h') (hne : g ≠ h') : St w0 w' (l ++ [(g, cs), (h', ds)]) := by
  have k := h.call b
  refine ⟨k.bel, fun p hp => ?_, fun p hp => ?_, ?_⟩
  · rcases List.mem_append.1 hp with e | e
    · exact h.low p e
    · rcases (by simpa using e : p = (g, cs) ∨ p = (h', ds)) with rfl | rfl
      · exact Nat.le_trans h.bel.size hl
      · exact Nat.le_trans h.bel.size hl'
  · rcases List.mem_append.1 hp with e | e
    · exact k.blk p e
    · rcases (by simpa using e : p = (g, cs) ∨ p = (h', ds)) with rfl | rfl
      · exact hg
      · exact hh
  · rw [List.pairwise_append]
    refine ⟨h.nd, by simpa using hne, fun p hp q hq => ?_⟩
    have := (h.blk p hp).lt
    rcases (by simpa using hq : q = (g, cs) ∨ q = (h', ds)) with rfl | rfl <;>
    · intro e
      simp at e
      omega

/-- a memory's cells -/
def memL (c : Um.Cf) (C : Nat) (m : Um.Mm) : List Value := [.int .i64 c.t, .int .i64 c.s, .int .i64 c.k, .int .i64 c.g, .int .u64 c.q, .slice (some ⟨C, 0, none⟩) c.n c.n, .int .i64 m.cnt, .int .i64 m.l.kind, .int .i64 m.l.a, .int .i64 m.l.b, .int .u64 m.l.old, .int .u64 m.l.new, .bool m.l.done]

theorem MemAt.blkB {W : World} {B C : Nat} {c : Um.Cf} {m : Um.Mm} (h : MemAt W B C c m) : BlkAt W B (memL c C m) := by
  refine ⟨h.hB, fun j v hv => ?_, h.fB⟩
  match j, hv with
  | 0, hv => cases hv; exact h.cf0
  | 1, hv => cases hv; exact h.cf1
  | 2, hv => cases hv; exact h.cf2
  | 3, hv => cases hv; exact h.cf3
  | 4, hv => cases hv; exact h.cf4
  | 5, hv => cases hv; exact h.sl
  | 6, hv => cases hv; exact h.ct
  | 7, hv => cases hv; exact h.l0
  | 8, hv => cases hv; exact h.l1
  | 9, hv => cases hv; exact h.l2
  | 10, hv => cases hv; exact h.l3
  | 11, hv => cases hv; exact h.l4
  | 12, hv => cases hv; exact h.l5
  | j + 13, hv => simp [memL] at hv

theorem MemAt.blkC {W : World} {B C : Nat} {c : Um.Cf} {m : Um.Mm} (h : MemAt W B C c m) : BlkAt W C (rowW m.ws c.n) := by
  refine ⟨h.hC, fun j v hv => ?_, h.fC⟩
  have hj : j < c.n := by have := (List.getElem?_eq_some_iff.1 hv).1; rwa [rowW_len] at this
  rw [rowW_get m.ws c.n j hj] at hv
  cases hv
  exact h.ws j hj

theorem memAt_of {W : World} {B C : Nat} {c : Um.Cf} {m : Um.Mm} (hB : BlkAt W B (memL c C m)) (hC : BlkAt W C (rowW m.ws c.n)) (hne : B ≠ C) (hr : c.r = true) (hw : ∀ j, j < c.n → Um.Word (m.ws j)) : MemAt W B C c m :=
  ⟨hB.lt, hC.lt, hne, hr, hB.cell 0 _ rfl, hB.cell 1 _ rfl, hB.cell 2 _ rfl, hB.cell 3 _ rfl, hB.cell 4 _ rfl, hB.cell 5 _ rfl, hB.cell 6 _ rfl, hB.cell 7 _ rfl, hB.cell 8 _ rfl, hB.cell 9 _ rfl, hB.cell 10 _ rfl, hB.cell 11 _ rfl, hB.cell 12 _ rfl, hB.fz, hC.fz, fun j hj => hC.cell j _ (rowW_get m.ws c.n j hj), hw⟩

theorem St.mem {w0 w w' : World} {l : List (Nat × List Value)} (h : St w0 w l) (i j : Nat) {B C : Nat} {cs cs' ds ds' : List Value} (hi : l[i]? = some (B, cs)) (hj : l[j]? = some (C, ds)) (ho : Off B C w w') (hB : BlkAt w' B cs') (hC : BlkAt w' C ds') : St w0 w' ((l.set i (B, cs')).set j (C, ds')) := by
  have lB := h.low _ (List.mem_of_getElem? hi)
  have lC := h.low _ (List.mem_of_getElem? hj)
  have hj' : ∃ ds0, (l.set i (B, cs'))[j]? = some (C, ds0) := by
    rw [List.getElem?_set]
    split
    · rename_i e
      subst e
      rw [hi] at hj
      cases hj
      exact ⟨cs', by simp [(List.getElem?_eq_some_iff.1 hi).1]⟩
    · exact ⟨ds, hj⟩
  obtain ⟨ds0, hj'⟩ := hj'
  refine ⟨h.bel.trans (ho.below h.bel.size lB lC), fun p hp => ?_, fun p hp => ?_, pairwise_set (pairwise_set h.nd hi) hj'⟩
  · rcases List.mem_or_eq_of_mem_set hp with e | e
    · rcases List.mem_or_eq_of_mem_set e with e | e
      · exact h.low p e
      · subst e; exact lB
    · subst e; exact lC
  · obtain ⟨k, hk⟩ := List.mem_iff_getElem?.1 hp
    rw [List.getElem?_set] at hk
    split at hk
    · split at hk
      · cases hk; exact hC
      · cases hk
    rename_i hne
    rw [List.getElem?_set] at hk
    split at hk
    · split at hk
      · cases hk; exact hB
      · cases hk
    rename_i hne'
    obtain ⟨h1, e1⟩ := List.getElem?_eq_some_iff.1 hk
    have key : ∀ (q : Nat) (b : Nat) (xs : List Value), l[q]? = some (b, xs) → q ≠ k → p.1 ≠ b := by
      intro q b xs hq hqk e
      obtain ⟨h2, e2⟩ := List.getElem?_eq_some_iff.1 hq
      rcases Nat.lt_or_gt_of_ne hqk with hlt | hlt
      · have := List.pairwise_iff_getElem.1 h.nd q k h2 h1 hlt
        rw [e1, e2] at this
        exact this e.symm
      · have := List.pairwise_iff_getElem.1 h.nd k q h1 h2 hlt
        rw [e1, e2] at this
        exact this e
    exact (h.blk p (List.mem_of_getElem? hk)).off ho (key i B cs hi hne') (key j C ds hj hne)

theorem St.addMem {w0 w w' : World} {l : List (Nat × List Value)} (h : St w0 w l) (b : Below w.heap.size w w') {B C : Nat} {c : Um.Cf} {m : Um.Mm} (hM : MemAt w' B C c m) (h1 : w.heap.size ≤ B) (h2 : w.heap.size ≤ C) : St w0 w' (l ++ [(B, memL c C m), (C, rowW m.ws c.n)]) :=
  h.add2 b hM.blkB h1 hM.blkC h2 hM.ne

end Go.Proofs.Ytjicfonpldobdaa
