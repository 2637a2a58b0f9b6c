/-
  Blocks as two lists: those that may be written (of the call's own, or handed in), those that are only read. What they hold; loads and stores of one cell, or of many at once.
-/
import Derived.Test.YtjicfonpldobdaaBlkT
import Derived.Test.YtjicfonpldobdaaBlkAny
namespace Go.Proofs.Ytjicfonpldobdaa
set_option maxRecDepth 100000
open Go.RowKit Go.Sort

/-- all that there was stays, but for these blocks -/
structure Turn (bs : List Nat) (w w' : World) : Prop where
  os : w'.os = w.os
  tape : w'.tape = w.tape
  output : w'.output = w.output
  size : w.heap.size ≤ w'.heap.size
  block : ∀ k, k < w.heap.size → k ∉ bs → w'.heap[k]? = w.heap[k]?

theorem Turn.refl (bs : List Nat) (w : World) : Turn bs w w := ⟨rfl, rfl, rfl, Nat.le_refl _, fun _ _ _ => rfl⟩

theorem Turn.trans {bs : List Nat} {a b c : World} (h : Turn bs a b) (k : Turn bs b c) : Turn bs a c :=
  ⟨k.os.trans h.os, k.tape.trans h.tape, k.output.trans h.output, Nat.le_trans h.size k.size, fun i hi h1 => (k.block i (Nat.lt_of_lt_of_le hi h.size) h1).trans (h.block i hi h1)⟩

theorem Turn.of_below {bs : List Nat} {w w' : World} (h : Below w.heap.size w w') : Turn bs w w' := ⟨h.os, h.tape, h.output, h.size, fun k hk _ => h.block k hk⟩

theorem Turn.below {w w' : World} (h : Turn [] w w') : Below w.heap.size w w' := ⟨h.os, h.tape, h.output, h.size, fun k hk => h.block k hk (by simp)⟩

theorem Turn.of_off {B C : Nat} {w w' : World} (h : Off B C w w') : Turn [B, C] w w' := ⟨h.os, h.tape, h.output, h.size, fun k hk hn => h.block k hk (fun e => hn (by simp [e])) (fun e => hn (by simp [e]))⟩

theorem Turn.of_off1 {B : Nat} {w w' : World} (h : Off B B w w') : Turn [B] w w' := ⟨h.os, h.tape, h.output, h.size, fun k hk hn => h.block k hk (fun e => hn (by simp [e])) (fun e => hn (by simp [e]))⟩

theorem Turn.drew {bs : List Nat} {a w : World} (h : Turn bs a w) : Turn bs a w.drew := ⟨h.os, h.tape, h.output, h.size, h.block⟩

/-- turned blocks are allowed ones, or new -/
theorem Turn.widen {bs bs' : List Nat} {a b c : World} (h : Turn bs a b) (k : Turn bs' b c) (hs : ∀ x ∈ bs', x ∈ bs ∨ a.heap.size ≤ x) : Turn bs a c :=
  ⟨k.os.trans h.os, k.tape.trans h.tape, k.output.trans h.output, Nat.le_trans h.size k.size, fun i hi h1 => (k.block i (Nat.lt_of_lt_of_le hi h.size) (fun hm => by rcases hs i hm with e | e <;> first | exact h1 e | omega)).trans (h.block i hi h1)⟩

theorem BlkAt.turn {w w' : World} {bs : List Nat} {g : Nat} {cs : List Value} (h : BlkAt w g cs) (t : Turn bs w w') (hn : g ∉ bs) : BlkAt w' g cs := h.kept t.size (t.block g h.lt hn)

/-- a memory's state inside a call: l may be written, e is only read -/
structure Sx (bs : List Nat) (w0 w : World) (l e : List (Nat × List Value)) : Prop where
  off : Turn bs w0 w
  low : ∀ p ∈ l, p.1 ∈ bs ∨ w0.heap.size ≤ p.1
  blk : ∀ p ∈ l, BlkAt w p.1 p.2
  nd : l.Pairwise (fun p q => p.1 ≠ q.1)
  eb : ∀ p ∈ e, BlkAt w p.1 p.2
  ed : ∀ p ∈ e, ∀ q ∈ l, p.1 ≠ q.1

section
variable {bs : List Nat} {w0 w w' : World} {l e : List (Nat × List Value)}

theorem Sx.new (w : World) : Sx [] w w [] [] := ⟨Turn.refl _ _, by simp, by simp, List.Pairwise.nil, by simp, by simp⟩

theorem Sx.read (w : World) (e : List (Nat × List Value)) (h : ∀ p ∈ e, BlkAt w p.1 p.2) : Sx [] w w [] e := ⟨Turn.refl _ _, by simp, by simp, List.Pairwise.nil, h, by simp⟩

theorem Sx.start (l e : List (Nat × List Value)) (h : ∀ p ∈ l, BlkAt w p.1 p.2) (nd : l.Pairwise (fun p q => p.1 ≠ q.1)) (he : ∀ p ∈ e, BlkAt w p.1 p.2) (ed : ∀ p ∈ e, ∀ q ∈ l, p.1 ≠ q.1) : Sx (l.map (·.1)) w w l e :=
  ⟨Turn.refl _ _, fun _ hp => .inl (List.mem_map_of_mem hp), h, nd, he, ed⟩

/-- what a caller has is what the callee begins with -/
theorem Sx.enter (h : Sx bs w0 w l e) (l' e' : List (Nat × List Value)) (hl : ∀ p ∈ l', p ∈ l) (nd : l'.Pairwise (fun p q => p.1 ≠ q.1)) (he : ∀ p ∈ e', p ∈ e) : Sx (l'.map (·.1)) w w l' e' :=
  Sx.start l' e' (fun p hp => h.blk p (hl p hp)) nd (fun p hp => h.eb p (he p hp)) (fun p hp q hq => h.ed p (he p hp) q (hl q hq))

theorem Sx.get (h : Sx bs w0 w l e) (k : Nat) {b : Nat} {cs : List Value} (hk : l[k]? = some (b, cs)) : BlkAt w b cs := h.blk (b, cs) (List.mem_of_getElem? hk)

theorem Sx.getE (h : Sx bs w0 w l e) (k : Nat) {b : Nat} {cs : List Value} (hk : e[k]? = some (b, cs)) : BlkAt w b cs := h.eb (b, cs) (List.mem_of_getElem? hk)

theorem Sx.ne (h : Sx bs w0 w l e) (i j : Nat) {b b' : Nat} {cs cs' : List Value} (hi : l[i]? = some (b, cs)) (hj : l[j]? = some (b', cs')) (hij : i ≠ j) : b ≠ b' := by
  obtain ⟨h1, e1⟩ := List.getElem?_eq_some_iff.1 hi
  obtain ⟨h2, e2⟩ := List.getElem?_eq_some_iff.1 hj
  rcases Nat.lt_or_gt_of_ne hij with hlt | hlt
  · have := List.pairwise_iff_getElem.1 h.nd i j h1 h2 hlt
    rwa [e1, e2] at this
  · have := List.pairwise_iff_getElem.1 h.nd j i h2 h1 hlt
    rw [e1, e2] at this
    exact fun e => this e.symm

theorem Sx.size (h : Sx bs w0 w l e) : w0.heap.size ≤ w.heap.size := h.off.size

theorem Sx.bel (h : Sx [] w0 w l e) : Below w0.heap.size w0 w := h.off.below

theorem Sx.call (h : Sx bs w0 w l e) (b : Below w.heap.size w w') : Sx bs w0 w' l e :=
  ⟨h.off.trans (Turn.of_below b), h.low, fun p hp => (h.blk p hp).below b, h.nd, fun p hp => (h.eb p hp).below b, h.ed⟩

theorem Sx.drew (h : Sx bs w0 w l e) : Sx bs w0 w.drew l e := ⟨h.off.drew, h.low, fun p hp => (h.blk p hp).drew, h.nd, fun p hp => (h.eb p hp).drew, h.ed⟩

theorem Sx.undrew (h : Sx bs w0 w l e) (b : Below w.drew.heap.size w.drew w') : Sx bs w0 w' l e := h.call (below_undrew b)

/-- new blocks behind a call -/
theorem Sx.adds (h : Sx bs w0 w l e) (b : Below w.heap.size w w') (n : List (Nat × List Value)) (hg : ∀ p ∈ n, BlkAt w' p.1 p.2) (hl : ∀ p ∈ n, w.heap.size ≤ p.1) (hn : n.Pairwise (fun p q => p.1 ≠ q.1)) : Sx bs w0 w' (l ++ n) e := by
  have h' := h.call b
  refine ⟨h'.off, fun p hp => ?_, fun p hp => ?_, ?_, h'.eb, fun p hp q hq => ?_⟩
  · rcases List.mem_append.1 hp with e | e
    · exact h.low p e
    · exact .inr (Nat.le_trans h.size (hl p e))
  · rcases List.mem_append.1 hp with e | e
    · exact h'.blk p e
    · exact hg p e
  · rw [List.pairwise_append]
    refine ⟨h.nd, hn, fun p hp q hq => ?_⟩
    have := (h.blk p hp).lt
    have := hl q hq
    omega
  · rcases List.mem_append.1 hq with e | e
    · exact h.ed p hp q e
    · have := (h.eb p hp).lt
      have := hl q e
      omega

theorem Sx.add (h : Sx bs w0 w l e) (b : Below w.heap.size w w') {g : Nat} {cs : List Value} (hg : BlkAt w' g cs) (hl : w.heap.size ≤ g) : Sx bs w0 w' (l ++ [(g, cs)]) e :=
  h.adds b [(g, cs)] (fun p hp => by obtain rfl : p = _ := by simpa using hp
                                     exact hg) (fun p hp => by obtain rfl : p = _ := by simpa using hp
                                                               exact hl) (List.pairwise_singleton _ _)

/-- a new block that is only read from here on -/
theorem Sx.addE (h : Sx bs w0 w l e) (b : Below w.heap.size w w') {g : Nat} {cs : List Value} (hg : BlkAt w' g cs) (hl : w.heap.size ≤ g) : Sx bs w0 w' l (e ++ [(g, cs)]) := by
  have h' := h.call b
  refine ⟨h'.off, h'.low, h'.blk, h'.nd, fun p hp => ?_, fun p hp q hq => ?_⟩
  · rcases List.mem_append.1 hp with e | e
    · exact h'.eb p e
    · obtain rfl : p = _ := by simpa using e
      exact hg
  · rcases List.mem_append.1 hp with e | e
    · exact h.ed p e q hq
    · obtain rfl : p = _ := by simpa using e
      have := (h.blk q hq).lt
      show g ≠ q.1
      omega

/-- the last of the blocks that may be written is only read from here on -/
theorem Sx.shelve {g : Nat} {cs : List Value} (h : Sx bs w0 w (l ++ [(g, cs)]) e) : Sx bs w0 w l (e ++ [(g, cs)]) := by
  have hp := List.pairwise_append.1 h.nd
  refine ⟨h.off, fun p hp => h.low p (List.mem_append_left _ hp), fun p hp => h.blk p (List.mem_append_left _ hp), hp.1, fun p hq => ?_, fun p hq q hr => ?_⟩
  · rcases List.mem_append.1 hq with e | e
    · exact h.eb p e
    · obtain rfl : p = _ := by simpa using e
      exact h.blk _ (by simp)
  · rcases List.mem_append.1 hq with e | e
    · exact h.ed p e q (List.mem_append_left _ hr)
    · obtain rfl : p = _ := by simpa using e
      exact fun e => hp.2.2 q hr (g, cs) (by simp) e.symm

theorem Sx.alloc (h : Sx bs w0 w l e) (cs : Array Value) (t : TypeId) : Sx bs w0 (w.alloc (.cells cs t)) (l ++ [(w.heap.size, cs.toList)]) e :=
  h.add ((Below.refl _ _).alloc (Nat.le_refl _) _) (blkAt_new (heap_alloc_new _ _)) (Nat.le_refl _)

theorem Sx.take (h : Sx bs w0 w l e) (n : Nat) : Sx bs w0 w (l.take n) e :=
  have s := List.take_sublist n l
  ⟨h.off, fun p hp => h.low p (s.subset hp), fun p hp => h.blk p (s.subset hp), h.nd.sublist s, h.eb, fun p hp q hq => h.ed p hp q (s.subset hq)⟩

/-- blocks written over, each at its place -/
def putL (l : List (Nat × List Value)) : List (Nat × Nat × List Value) → List (Nat × List Value)
  | [] => l
  | u :: r => putL (l.set u.1 (u.2.1, u.2.2)) r

theorem putL_mem (us : List (Nat × Nat × List Value)) : ∀ (l : List (Nat × List Value)) (p : Nat × List Value), p ∈ putL l us → (∃ u ∈ us, p = (u.2.1, u.2.2)) ∨ ∃ k, l[k]? = some p ∧ ∀ u ∈ us, u.1 ≠ k := by
  induction us with
  | nil =>
    intro l p hp
    obtain ⟨k, hk⟩ := List.mem_iff_getElem?.1 hp
    exact .inr ⟨k, hk, by simp⟩
  | cons u r ih =>
    intro l p hp
    rcases ih _ p hp with ⟨v, hv, e⟩ | ⟨k, hk, hn⟩
    · exact .inl ⟨v, List.mem_cons_of_mem _ hv, e⟩
    · rw [List.getElem?_set] at hk
      split at hk
      · split at hk
        · cases hk
          exact .inl ⟨u, by simp, rfl⟩
        · cases hk
      · rename_i hne
        refine .inr ⟨k, hk, fun v hv => ?_⟩
        rcases List.mem_cons.1 hv with rfl | hv
        · exact hne
        · exact hn v hv

theorem putL_fst (us : List (Nat × Nat × List Value)) : ∀ (l : List (Nat × List Value)), (∀ u ∈ us, ∃ cs, l[u.1]? = some (u.2.1, cs)) → (putL l us).map (·.1) = l.map (·.1) := by
  induction us with
  | nil => intro l _; rfl
  | cons u r ih =>
    intro l h
    have e : (l.set u.1 (u.2.1, u.2.2)).map (·.1) = l.map (·.1) := by
      obtain ⟨cs, hk⟩ := h u (by simp)
      apply List.ext_getElem?
      intro i
      simp only [List.getElem?_map, List.getElem?_set]
      split
      · rename_i e
        subst e
        have hk' := (List.getElem?_eq_some_iff.1 hk).1
        have e := (List.getElem?_eq_some_iff.1 hk).2
        simp [hk', e]
      · rfl
    refine (ih _ fun v hv => ?_).trans e
    obtain ⟨cs, hk⟩ := h v (List.mem_cons_of_mem _ hv)
    have hq : ((l.set u.1 (u.2.1, u.2.2)).map (·.1))[v.1]? = some v.2.1 := by rw [e]; simp [hk]
    simp only [List.getElem?_map] at hq
    cases hx : (l.set u.1 (u.2.1, u.2.2))[v.1]? with
    | none => rw [hx] at hq; cases hq
    | some y =>
      rw [hx] at hq
      simp at hq
      exact ⟨y.2, by rw [← hq]⟩

/-- a call that turns some of the blocks, and hands on one of those that are only read -/
theorem Sx.mix (h : Sx bs w0 w l e) (us : List (Nat × Nat × List Value)) (hu : ∀ u ∈ us, ∃ cs, l[u.1]? = some (u.2.1, cs)) (t : Turn (us.map (·.2.1)) w w') (hb : ∀ u ∈ us, BlkAt w' u.2.1 u.2.2)
    (k : Nat) {g g' : Nat} {cs cs' : List Value} (hk : e[k]? = some (g, cs)) (hg : g' = g ∨ w.heap.size ≤ g') (hg' : BlkAt w' g' cs') : Sx bs w0 w' (putL l us) (e.set k (g', cs')) := by
  have hin : ∀ x ∈ us.map (·.2.1), ∃ q ∈ l, q.1 = x := by
    intro x hx
    obtain ⟨u, hu', rfl⟩ := List.mem_map.1 hx
    obtain ⟨cs, hk⟩ := hu u hu'
    exact ⟨_, List.mem_of_getElem? hk, rfl⟩
  have hen : ∀ p ∈ e, p.1 ∉ us.map (·.2.1) := by
    intro p hp hx
    obtain ⟨q, hq, e⟩ := hin _ hx
    exact h.ed p hp q hq e.symm
  have hmem : ∀ p ∈ putL l us, ∃ q ∈ l, q.1 = p.1 := by
    intro p hp
    have : p.1 ∈ (putL l us).map (·.1) := List.mem_map_of_mem hp
    rw [putL_fst us l hu] at this
    obtain ⟨q, hq, e⟩ := List.mem_map.1 this
    exact ⟨q, hq, e⟩
  refine ⟨h.off.widen t fun x hx => ?_, fun p hp => ?_, fun p hp => ?_, ?_, fun p hp => ?_, fun p hp q hq => ?_⟩
  · obtain ⟨q, hq, rfl⟩ := hin x hx
    exact h.low q hq
  · obtain ⟨q, hq, e⟩ := hmem p hp
    rw [← e]
    exact h.low q hq
  · rcases putL_mem us l p hp with ⟨u, hu', rfl⟩ | ⟨i, hi, hn⟩
    · exact hb u hu'
    · refine (h.blk p (List.mem_of_getElem? hi)).turn t fun hx => ?_
      obtain ⟨u, hu', e⟩ := List.mem_map.1 hx
      obtain ⟨cs, hk⟩ := hu u hu'
      exact h.ne (cs := cs) (cs' := p.2) u.1 i hk hi (hn u hu') e
  · have : ((putL l us).map (·.1)).Pairwise (· ≠ ·) := by rw [putL_fst us l hu, List.pairwise_map]; exact h.nd
    rw [List.pairwise_map] at this
    exact this
  · rcases List.mem_or_eq_of_mem_set hp with hp | rfl
    · exact (h.eb p hp).turn t (hen p hp)
    · exact hg'
  · obtain ⟨r, hr, er⟩ := hmem q hq
    rw [← er]
    rcases List.mem_or_eq_of_mem_set hp with hp | rfl
    · exact h.ed p hp r hr
    · rcases hg with rfl | hg
      · exact h.ed _ (List.mem_of_getElem? hk) r hr
      · have := (h.blk r hr).lt
        show g' ≠ r.1
        omega

theorem Sx.sets (h : Sx bs w0 w l e) (us : List (Nat × Nat × List Value)) (hu : ∀ u ∈ us, ∃ cs, l[u.1]? = some (u.2.1, cs)) (t : Turn (us.map (·.2.1)) w w') (hb : ∀ u ∈ us, BlkAt w' u.2.1 u.2.2) : Sx bs w0 w' (putL l us) e := by
  have hin : ∀ x ∈ us.map (·.2.1), ∃ q ∈ l, q.1 = x := by
    intro x hx
    obtain ⟨u, hu', rfl⟩ := List.mem_map.1 hx
    obtain ⟨cs, hk⟩ := hu u hu'
    exact ⟨_, List.mem_of_getElem? hk, rfl⟩
  have hen : ∀ p ∈ e, p.1 ∉ us.map (·.2.1) := by
    intro p hp hx
    obtain ⟨q, hq, e⟩ := hin _ hx
    exact h.ed p hp q hq e.symm
  have hmem : ∀ p ∈ putL l us, ∃ q ∈ l, q.1 = p.1 := by
    intro p hp
    have : p.1 ∈ (putL l us).map (·.1) := List.mem_map_of_mem hp
    rw [putL_fst us l hu] at this
    obtain ⟨q, hq, e⟩ := List.mem_map.1 this
    exact ⟨q, hq, e⟩
  refine ⟨h.off.widen t fun x hx => ?_, fun p hp => ?_, fun p hp => ?_, ?_, fun p hp => (h.eb p hp).turn t (hen p hp), fun p hp q hq => ?_⟩
  · obtain ⟨q, hq, rfl⟩ := hin x hx
    exact h.low q hq
  · obtain ⟨q, hq, e⟩ := hmem p hp
    rw [← e]
    exact h.low q hq
  · rcases putL_mem us l p hp with ⟨u, hu', rfl⟩ | ⟨i, hi, hn⟩
    · exact hb u hu'
    · refine (h.blk p (List.mem_of_getElem? hi)).turn t fun hx => ?_
      obtain ⟨u, hu', e⟩ := List.mem_map.1 hx
      obtain ⟨cs, hk⟩ := hu u hu'
      exact h.ne (cs := cs) (cs' := p.2) u.1 i hk hi (hn u hu') e
  · have : ((putL l us).map (·.1)).Pairwise (· ≠ ·) := by rw [putL_fst us l hu, List.pairwise_map]; exact h.nd
    rw [List.pairwise_map] at this
    exact this
  · obtain ⟨r, hr, er⟩ := hmem q hq
    rw [← er]
    exact h.ed p hp r hr

/-- a call that only hands on one of the blocks that are only read -/
theorem Sx.ref (h : Sx bs w0 w l e) (b : Below w.heap.size w w') (k : Nat) {g g' : Nat} {cs cs' : List Value} (hk : e[k]? = some (g, cs)) (hg : g' = g ∨ w.heap.size ≤ g') (hg' : BlkAt w' g' cs') : Sx bs w0 w' l (e.set k (g', cs')) :=
  h.mix [] (by simp) (Turn.of_below b) (by simp) k hk hg hg'

theorem Sx.store (h : Sx bs w0 w l e) (k : Nat) {b : Nat} {cs : List Value} (hk : l[k]? = some (b, cs)) (o : Nat) (vs : List Value) : Sx bs w0 (w.setCells b o vs) (l.set k (b, blit cs o vs)) e :=
  h.sets [(k, b, blit cs o vs)] (fun u hu => by obtain rfl : u = _ := by simpa using hu
                                                exact ⟨cs, hk⟩) (Turn.of_off1 ((Off.refl b b w).cells vs o)) (fun u hu => by obtain rfl : u = _ := by simpa using hu
                                                                                                                             exact (h.get k hk).cells vs o)

end

/-! ### The walk's steps, at a plain list of operations -/
section
variable {P : Program} {ops : Array Oper} {rest : List Oper} {op : Oper} {a : Act} {bs : List Nat} {w w0 : World} {Q : Exit → Act → World → Prop} {l e : List (Nat × List Value)}

theorem wpx_box (hS : Sx bs w0 w l e) (hw : Region.wanted op (yielded ops a.tmps) = true) (ty : TypeId) (x : Operand) (ho : op.op = .box ty x) (vs : List Value) (hx : a.eval x = .agg (List.toArray vs))
    (f : Nat → Act) (hf : ∀ b, a.put op.dst (.pointer (some ⟨b, 0, none⟩)) = f b) (h : ∀ b w', Sx bs w0 w' (l ++ [(b, vs)]) e → wpList P ops Q rest (f b) w') : wpList P ops Q (op :: rest) a w := by
  refine BigFrame.wpList_want hw fun K hK => ?_
  have e : (execOp a.eval op).run P w = .ok (.value (.pointer (some ⟨w.heap.size, 0, none⟩))) (w.alloc (.cells (List.toArray vs) ty)) := by
    unfold execOp
    rw [ho]
    dsimp only
    rw [hx]
    simp [Instr.box, newVar, newRow, go_sem, Value.cells]
  unfold Oper.wp
  rw [e]
  exact hK _ _ (by rw [hf]; exact h _ _ (hS.alloc (List.toArray vs) ty))

theorem wpx_alloc (hS : Sx bs w0 w l e) (hw : Region.wanted op (yielded ops a.tmps) = true) (ty : TypeId) (ho : op.op = .alloc ty) (z : Value) (hz : (P.info? ty).map (·.zero) = some (some z))
    (f : Nat → Act) (hf : ∀ b, a.put op.dst (.pointer (some ⟨b, 0, none⟩)) = f b) (h : ∀ b w', Sx bs w0 w' (l ++ [(b, z.cells.toList)]) e → wpList P ops Q rest (f b) w') : wpList P ops Q (op :: rest) a w := by
  refine BigFrame.wpList_want hw fun K hK => ?_
  have e : (execOp a.eval op).run P w = .ok (.value (.pointer (some ⟨w.heap.size, 0, none⟩))) (w.alloc (.cells z.cells ty)) := by
    unfold execOp
    rw [ho]
    cases hq : P.info? ty with
    | none => simp [hq] at hz
    | some i =>
      have hz' : i.zero = some z := by simpa [hq] using hz
      simp [Instr.alloc, zeroValue, typeInfo, hq, hz', newVar, newRow, go_sem]
  unfold Oper.wp
  rw [e]
  exact hK _ _ (by rw [hf]; exact h _ _ (hS.alloc z.cells ty))

theorem wpx_load (hS : Sx bs w0 w l e) (k : Nat) (hw : Region.wanted op (yielded ops a.tmps) = true) (ty : TypeId) (x : Operand) (ho : op.op = .load ty x) (b o : Nat) (hx : a.eval x = .pointer (some ⟨b, o, none⟩)) (cs : List Value) (hk : l[k]? = some (b, cs)) (n : Nat) (hr : Row P ty n) (hn : (o + n).ble cs.length = true) (vs : List Value) (hvs : cutL cs o n = vs)
    (a' : Act) (ha : a.put op.dst (.agg vs.toArray) = a') (h : wpList P ops Q rest a' w) : wpList P ops Q (op :: rest) a w := by
  refine BigFrame.wpList_want hw fun K hK => ?_
  obtain ⟨d, hu, hd, hi⟩ := hr
  subst hvs ha
  have e : (execOp a.eval op).run P w = .ok (.value (.agg (cutL cs o n).toArray)) w := by
    unfold execOp
    rw [ho]
    simp [hx, run_load_st (P := P) (hS.get k hk) o ty n (Nat.le_of_ble_eq_true hn) d hu hd hi]
  unfold Oper.wp
  rw [e]
  exact hK _ _ h

theorem wpx_load1 (hS : Sx bs w0 w l e) (k : Nat) (hw : Region.wanted op (yielded ops a.tmps) = true) (ty : TypeId) (x : Operand) (ho : op.op = .load ty x) (b o : Nat) (hx : a.eval x = .pointer (some ⟨b, o, none⟩)) (cs : List Value) (hk : l[k]? = some (b, cs)) (hr : One P ty) (v : Value) (hv : cs[o]? = some v)
    (a' : Act) (ha : a.put op.dst v = a') (h : wpList P ops Q rest a' w) : wpList P ops Q (op :: rest) a w := by
  refine BigFrame.wpList_want hw fun K hK => ?_
  obtain ⟨d, hu, hd⟩ := hr
  subst ha
  have e : (execOp a.eval op).run P w = .ok (.value v) w := by
    unfold execOp
    rw [ho]
    simp [hx, run_load1_st (P := P) (hS.get k hk) o ty v hv d hu hd]
  unfold Oper.wp
  rw [e]
  exact hK _ _ h

theorem wpx_store (hS : Sx bs w0 w l e) (k : Nat) (hw : Region.wanted op (yielded ops a.tmps) = true) (ty : TypeId) (x y : Operand) (ho : op.op = .store ty x y) (b o : Nat) (hx : a.eval x = .pointer (some ⟨b, o, none⟩)) (cs : List Value) (hk : l[k]? = some (b, cs)) (v : Value) (hy : a.eval y = v)
    (vs : List Value) (hv : v.cells.toList = vs) (n : Nat) (hi : (P.info? ty).map (·.size) = some n) (hvn : vs.length = n) (hn : (o + vs.length).ble cs.length = true) (h1 : vs.all (·.oneCell') = true)
    (a' : Act) (ha : a.put op.dst undef = a') (h : ∀ w', Sx bs w0 w' (l.set k (b, blit cs o vs)) e → wpList P ops Q rest a' w') : wpList P ops Q (op :: rest) a w := by
  refine BigFrame.wpList_want hw fun K hK => ?_
  subst ha
  have e : (execOp a.eval op).run P w = .ok .skip (w.setCells b o vs) := by
    unfold execOp
    rw [ho]
    simp [hx, hy, run_store_st (P := P) (hS.get k hk) o ty v vs hv (Nat.le_of_ble_eq_true hn) (hvn ▸ hi) h1]
  unfold Oper.wp
  rw [e]
  exact hK _ _ (h _ (hS.store k hk o vs))

theorem wpx_ld (hS : Sx bs w0 w l e) (hw : Region.wanted op (yielded ops a.tmps) = true) (ty : TypeId) (x : Operand) (ho : op.op = .load ty x) (b o : Nat) (hx : a.eval x = .pointer (some ⟨b, o, none⟩))
    (h : ∃ (k : Nat) (cs : List Value), l[k]? = some (b, cs) ∧ ((∃ v, One P ty ∧ cs[o]? = some v ∧ ∃ a', a.put op.dst v = a' ∧ wpList P ops Q rest a' w) ∨ ∃ n vs, Row P ty n ∧ (o + n).ble cs.length = true ∧ cutL cs o n = vs ∧ ∃ a', a.put op.dst (.agg vs.toArray) = a' ∧ wpList P ops Q rest a' w)) : wpList P ops Q (op :: rest) a w := by
  obtain ⟨k, cs, hk, ⟨v, h1, h2, a', ha, h⟩ | ⟨n, vs, h1, h2, h3, a', ha, h⟩⟩ := h
  · exact wpx_load1 hS k hw ty x ho b o hx cs hk h1 v h2 a' ha h
  · exact wpx_load hS k hw ty x ho b o hx cs hk n h1 h2 vs h3 a' ha h

theorem wpx_st (hS : Sx bs w0 w l e) (hw : Region.wanted op (yielded ops a.tmps) = true) (ty : TypeId) (x y : Operand) (ho : op.op = .store ty x y) (hd : op.dst = none) (b o : Nat) (hx : a.eval x = .pointer (some ⟨b, o, none⟩))
    (h : ∃ (k : Nat) (cs : List Value), l[k]? = some (b, cs) ∧ ∃ vs, Sh (a.eval y) vs ∧ ∃ n, (P.info? ty).map (·.size) = some n ∧ vs.length = n ∧ (o + vs.length).ble cs.length = true ∧ vs.all (·.oneCell') = true ∧ ∀ w', Sx bs w0 w' (l.set k (b, blit cs o vs)) e → wpList P ops Q rest a w') : wpList P ops Q (op :: rest) a w := by
  obtain ⟨k, cs, hk, vs, h1, n, h2, h3, h4, h5, h⟩ := h
  exact wpx_store hS k hw ty x y ho b o hx cs hk _ rfl vs h1 n h2 h3 h4 h5 a (by rw [hd]; rfl) h

end

/-! ### In a region that draws -/
section
variable {P : Program} {ops : Array Oper} {o : Oper} {a : Act} {bs : List Nat} {w w0 : World} {K : Act → World → Prop} {Q : Exit → Act → World → Prop} {E : Prop} {l e : List (Nat × List Value)}

theorem stx_store (hS : Sx bs w0 w l e) (k : Nat) (hw : Region.wanted o (yielded ops a.tmps) = true) (ty : TypeId) (x y : Operand) (ho : o.op = .store ty x y) (b off : Nat) (hx : a.eval x = .pointer (some ⟨b, off, none⟩)) (cs : List Value) (hk : l[k]? = some (b, cs)) (v : Value) (hy : a.eval y = v) (vs : List Value) (hv : v.cells.toList = vs)
    (n : Nat) (hi : (P.info? ty).map (·.size) = some n) (hvn : vs.length = n) (hn : (off + vs.length).ble cs.length = true) (h1 : vs.all (·.oneCell') = true)
    (hd : o.dst = none) (h : ∀ w', Sx bs w0 w' (l.set k (b, blit cs off vs)) e → K a w') : if Region.wanted o (yielded ops a.tmps) = true then Oper.wp P o a w K Q else E := by
  rw [if_pos hw]
  have e : (execOp a.eval o).run P w = .ok .skip (w.setCells b off vs) := by
    unfold execOp
    rw [ho]
    simp [hx, hy, run_store_st (P := P) (hS.get k hk) off ty v vs hv (Nat.le_of_ble_eq_true hn) (hvn ▸ hi) h1]
  unfold Oper.wp
  rw [e]
  show K (a.put o.dst _) _
  rw [hd]
  exact h _ (hS.store k hk off vs)

theorem stx_alloc (hS : Sx bs w0 w l e) (hw : Region.wanted o (yielded ops a.tmps) = true) (ty : TypeId) (ho : o.op = .alloc ty) (z : Value) (hz : (P.info? ty).map (·.zero) = some (some z)) (zs : List Value) (hzs : z.cells.toList = zs)
    (d : Option Tmp) (hd : o.dst = d) (f : Nat → Act) (hf : ∀ b, a.put d (.pointer (some ⟨b, 0, none⟩)) = f b) (h : ∀ b w', Sx bs w0 w' (l ++ [(b, zs)]) e → K (f b) w') : if Region.wanted o (yielded ops a.tmps) = true then Oper.wp P o a w K Q else E := by
  rw [if_pos hw]
  have e : (execOp a.eval o).run P w = .ok (.value (.pointer (some ⟨w.heap.size, 0, none⟩))) (w.alloc (.cells z.cells ty)) := by
    unfold execOp
    rw [ho]
    cases hq : P.info? ty with
    | none => simp [hq] at hz
    | some i =>
      have hz' : i.zero = some z := by simpa [hq] using hz
      simp [Instr.alloc, zeroValue, typeInfo, hq, hz', newVar, newRow, go_sem]
  unfold Oper.wp
  rw [e]
  subst hzs hd
  show K (a.put o.dst _) _
  rw [hf]
  exact h _ _ (hS.alloc z.cells ty)

end

end Go.Proofs.Ytjicfonpldobdaa
