/-
  Blocks of a call's own in a region that draws its order: one operation at a time.
-/
import Derived.Test.YtjicfonpldobdaaBlkT
import Derived.Deep.RegionHeld
namespace Go.Proofs.Ytjicfonpldobdaa
set_option maxRecDepth 100000
open Go.RowKit Go.Sort

theorem St.perm {w0 w : World} {l l' : List (Nat × List Value)} (h : St w0 w l) (e : List.Perm l l') : St w0 w l' :=
  ⟨h.bel, fun p hp => h.low p (e.mem_iff.2 hp), fun p hp => h.blk p (e.mem_iff.2 hp), (e.pairwise_iff (fun hab hba => hab hba.symm)).1 h.nd⟩

theorem perm_last {b x y : List (Nat × List Value)} (g : Nat × List Value) : List.Perm (b ++ [] ++ x ++ y ++ [g]) (b ++ [g] ++ x ++ y) := by
  simp only [List.append_nil, List.append_assoc]
  refine List.Perm.append_left b ?_
  rw [← List.append_assoc]
  exact List.perm_append_comm

theorem perm_mid {b x y : List (Nat × List Value)} (g : Nat × List Value) : List.Perm (b ++ x ++ [] ++ y ++ [g]) (b ++ x ++ [g] ++ y) := by
  simp only [List.append_nil, List.append_assoc]
  exact List.Perm.append_left b (List.Perm.append_left x List.perm_append_comm)

theorem St.addAt {w0 w : World} {l : List (Nat × List Value)} (h : St w0 w l) {g : Nat} {cs : List Value} (hg : BlkAt w g cs) (hl : w0.heap.size ≤ g) (hne : ∀ p ∈ l, p.1 ≠ g) : St w0 w (l ++ [(g, cs)]) := by
  refine ⟨h.bel, fun p hp => ?_, fun p hp => ?_, ?_⟩
  · rcases List.mem_append.1 hp with e | e
    · exact h.low p e
    · obtain rfl : p = _ := by simpa using e
      exact hl
  · rcases List.mem_append.1 hp with e | e
    · exact h.blk p e
    · obtain rfl : p = _ := by simpa using e
      exact hg
  · rw [List.pairwise_append]
    refine ⟨h.nd, by simp, fun p hp q hq => ?_⟩
    obtain rfl : q = _ := by simpa using hq
    exact hne p hp

theorem St.add3 {w0 w w' : World} {l : List (Nat × List Value)} (h : St w0 w l) (b : Below w.heap.size w w') {B C g : Nat} {c : Um.Cf} {m : Um.Mm} {cs : List Value} (hM : MemAt w' B C c m) (h1 : w.heap.size ≤ B) (h2 : w.heap.size ≤ C) (hg : BlkAt w' g cs) (hl : w.heap.size ≤ g) (n1 : B ≠ g) (n2 : C ≠ g) : St w0 w' (l ++ [(B, memL c C m), (C, rowW m.ws c.n)] ++ [(g, cs)]) := by
  refine (h.addMem b hM h1 h2).addAt hg (Nat.le_trans h.bel.size hl) (fun p hp => ?_)
  rcases List.mem_append.1 hp with e | e
  · have := (h.blk p e).lt
    omega
  · rcases (by simpa using e : p = (B, memL c C m) ∨ p = (C, rowW m.ws c.n)) with rfl | rfl
    · exact n1
    · exact n2

theorem St.sub {w0 w : World} {l l' : List (Nat × List Value)} (h : St w0 w l) (e : List.Sublist l' l) : St w0 w l' :=
  ⟨h.bel, fun p hp => h.low p (e.subset hp), fun p hp => h.blk p (e.subset hp), h.nd.sublist e⟩

theorem cond_at {b : Bool} {x y z : Value} (h : b = true) (hx : x = z) : cond b x y = z := by rw [h]; exact hx
theorem list2_eq {a a' b b' : Value} (h : a = a') (k : b = b') : [a, b] = [a', b'] := by rw [h, k]
theorem list5_eq {a a' b b' c c' d d' e e' : Value} (h1 : a = a') (h2 : b = b') (h3 : c = c') (h4 : d = d') (h5 : e = e') : [a, b, c, d, e] = [a', b', c', d', e'] := by rw [h1, h2, h3, h4, h5]
theorem og_not {p q : Bool} (h : p = true → q = true) (hq : q = false) : p = false := by
  cases p with
  | false => rfl
  | true => rw [h rfl] at hq; cases hq

section
variable {P : Program} {ops : Array Oper} {o : Oper} {a : Act} {w w0 : World} {K : Act → World → Prop} {Q : Exit → Act → World → Prop} {E : Prop} {l : List (Nat × List Value)} {S : World → Prop}

theorem stp_alloc (hS : St w0 w l) (hw : Region.wanted o (yielded ops a.tmps) = true) (ty : TypeId) (ho : o.op = .alloc ty) (z : Value) (hz : (P.info? ty).map (·.zero) = some (some z)) (zs : List Value) (hzs : z.cells.toList = zs)
    (d : Option Tmp) (hd : o.dst = d) (f : Nat → Act) (hf : ∀ b, a.put d (.pointer (some ⟨b, 0, none⟩)) = f b) (h : ∀ b w', St w0 w' (l ++ [(b, zs)]) → K (f b) w') : if Region.wanted o (yielded ops a.tmps) = true then Oper.wp P o a w K Q else E := by
  rw [if_pos hw]
  have e : (execOp a.eval o).run P w = .ok (.value (.pointer (some ⟨w.heap.size, 0, none⟩))) (w.alloc (.cells z.cells ty)) := by
    unfold execOp
    rw [ho]
    cases hq : P.info? ty with
    | none => simp [hq] at hz
    | some i =>
      have hz' : i.zero = some z := by simpa [hq] using hz
      simp [Instr.alloc, zeroValue, typeInfo, hq, hz', newVar, newRow, go_sem]
  unfold Oper.wp
  rw [e]
  subst hzs hd
  show K (a.put o.dst _) _
  rw [hf]
  exact h _ _ (hS.alloc z.cells ty)

theorem stp_store (hS : St w0 w l) (k : Nat) (hw : Region.wanted o (yielded ops a.tmps) = true) (ty : TypeId) (x y : Operand) (ho : o.op = .store ty x y) (b off : Nat) (hx : a.eval x = .pointer (some ⟨b, off, none⟩)) (cs : List Value) (hk : l[k]? = some (b, cs)) (vs : List Value) (hy : a.eval y = .agg (List.toArray vs))
    (n : Nat) (hi : (P.info? ty).map (·.size) = some n) (hvn : vs.length = n) (hn : (off + vs.length).ble cs.length = true) (h1 : vs.all (·.oneCell') = true)
    (hd : o.dst = none) (h : ∀ w', St w0 w' (l.set k (b, blit cs off vs)) → K a w') : if Region.wanted o (yielded ops a.tmps) = true then Oper.wp P o a w K Q else E := by
  rw [if_pos hw]
  have e : (execOp a.eval o).run P w = .ok .skip (w.setCells b off vs) := by
    unfold execOp
    rw [ho]
    simp [hx, hy, run_store_st (P := P) (hS.get k hk) off ty (.agg (List.toArray vs)) vs rfl (Nat.le_of_ble_eq_true hn) (hvn ▸ hi) h1]
  unfold Oper.wp
  rw [e]
  show K (a.put o.dst _) _
  rw [hd]
  exact h _ (hS.store k hk off vs)

theorem stp_call (hw : Region.wanted o (yielded ops a.tmps) = true) (f : FuncId) (ys : List Operand) (ts : Array TypeId) (ho : o.op = .call { callee := .value (.func f), args := List.toArray ys, argTypes := ts }) (eg : ∀ args w, (callFunc f args).run P w = .ok (.enter f args) w) (args : List Value) (hargs : ys.map a.eval = args)
    (d : Option Tmp) (hd : o.dst = d) (h : Calls P f (List.toArray args) w fun e w' => ∃ v, e = .returned v ∧ K (a.put d v) w') : if Region.wanted o (yielded ops a.tmps) = true then Oper.wp P o a w K Q else E := by
  rw [if_pos hw]
  have e : (execOp a.eval o).run P w = .ok (.enter f (List.toArray args)) w := by
    unfold execOp
    rw [ho]
    subst hargs
    simp [resolve, invoke, eg, go_sem]
  unfold Oper.wp
  rw [e]
  refine h.mono ?_
  rintro e w' ⟨v, rfl, hk⟩
  rw [← hd] at hk
  exact hk

theorem yif_moveI (hw : Region.wanted o (yielded ops a.tmps) = true) (x : Operand) (ho : o.op = .move x ∨ o.op = .assign x) (kk : IntKind) (ii : Int) (hx : a.eval x = .int kk ii) : YieldsIf P ops S o (.int kk ii) a :=
  .inl ⟨hw, fun w _ => by unfold execOp; rcases ho with ho | ho <;> (rw [ho]; simp [hx])⟩

theorem yif_moveA (hw : Region.wanted o (yielded ops a.tmps) = true) (x : Operand) (ho : o.op = .move x ∨ o.op = .assign x) (vs : List Value) (hx : a.eval x = .agg (List.toArray vs)) : YieldsIf P ops S o (.agg (List.toArray vs)) a :=
  .inl ⟨hw, fun w _ => by unfold execOp; rcases ho with ho | ho <;> (rw [ho]; simp [hx])⟩

theorem yif_moveT (hw : Region.wanted o (yielded ops a.tmps) = true) (x : Operand) (ho : o.op = .move x ∨ o.op = .assign x) (vs : List Value) (hx : a.eval x = .tuple (List.toArray vs)) : YieldsIf P ops S o (.tuple (List.toArray vs)) a :=
  .inl ⟨hw, fun w _ => by unfold execOp; rcases ho with ho | ho <;> (rw [ho]; simp [hx])⟩

theorem yif_moveB (hw : Region.wanted o (yielded ops a.tmps) = true) (x : Operand) (ho : o.op = .move x ∨ o.op = .assign x) (bb : Bool) (hx : a.eval x = .bool bb) : YieldsIf P ops S o (.bool bb) a :=
  .inl ⟨hw, fun w _ => by unfold execOp; rcases ho with ho | ho <;> (rw [ho]; simp [hx])⟩

theorem yif_moveP (hw : Region.wanted o (yielded ops a.tmps) = true) (x : Operand) (ho : o.op = .move x ∨ o.op = .assign x) (pp : Option Addr) (hx : a.eval x = .pointer pp) : YieldsIf P ops S o (.pointer pp) a :=
  .inl ⟨hw, fun w _ => by unfold execOp; rcases ho with ho | ho <;> (rw [ho]; simp [hx])⟩

theorem yif_mv (hw : Region.wanted o (yielded ops a.tmps) = true) (x : Operand) (ho : o.op = .move x) (v : Value) (hx : a.eval x = v) : YieldsIf P ops S o v a :=
  .inl ⟨hw, fun w _ => by unfold execOp; rw [ho]; simp [hx]⟩

theorem yif_load (hw : Region.wanted o (yielded ops a.tmps) = true) (ty : TypeId) (x : Operand) (ho : o.op = .load ty x) (b off : Nat) (hx : a.eval x = .pointer (some ⟨b, off, none⟩)) (cs : List Value) (hS : ∀ w, S w → BlkAt w b cs) (n : Nat) (hr : Row P ty n) (hn : (off + n).ble cs.length = true) (vs : List Value) (hvs : cutL cs off n = vs) : YieldsIf P ops S o (.agg vs.toArray) a := by
  obtain ⟨d, hu, hd, hi⟩ := hr
  subst hvs
  exact .inl ⟨hw, fun w h => by unfold execOp; rw [ho]; simp [hx, run_load_st (P := P) (hS w h) off ty n (Nat.le_of_ble_eq_true hn) d hu hd hi]⟩

theorem yif_load1 (hw : Region.wanted o (yielded ops a.tmps) = true) (ty : TypeId) (x : Operand) (ho : o.op = .load ty x) (b off : Nat) (hx : a.eval x = .pointer (some ⟨b, off, none⟩)) (cs : List Value) (hS : ∀ w, S w → BlkAt w b cs) (hr : One P ty) (v : Value) (hv : cs[off]? = some v) : YieldsIf P ops S o v a := by
  obtain ⟨d, hu, hd⟩ := hr
  exact .inl ⟨hw, fun w h => by unfold execOp; rw [ho]; simp [hx, run_load1_st (P := P) (hS w h) off ty v hv d hu hd]⟩

theorem yif_extract (hw : Region.wanted o (yielded ops a.tmps) = true) (x : Operand) (i : Nat) (ho : o.op = .extract x i) (vs : List Value) (hx : a.eval x = .tuple (List.toArray vs)) (v : Value) (hv : vs[i]? = some v) : YieldsIf P ops S o v a :=
  .inl ⟨hw, fun w _ => by
    unfold execOp
    rw [ho]
    dsimp only
    rw [hx]
    simp [Instr.extract, hv]⟩

theorem held_take {md : Region.Mode} {i : Nat} {oi : Oper} {v : Value} {fuel : Nat} {listed : Array Bool} (hi : ops[i]? = some oi)
    (hs : Region.noSelect ops = true) (hf : Region.free md ops listed i = true) (hr : (Region.ready md ops listed).contains i = true)
    (hQ : ∀ c a w, Q (.panic c) (a.put oi.dst v) w → Q (.panic c) a w) (hy : YieldsIf P ops S oi v a) (hS : S w) (d : Option Tmp) (hd : oi.dst = d) (a' : Act) (ha : a.put d v = a')
    (h : wpAnyH P md ops Q S fuel (listed.setIfInBounds i true) a' w) : wpAnyH P md ops Q S (fuel + 1) listed a w := by
  subst hd ha
  exact wpAnyH_take hi hs hf hr hQ hy hS h

theorem stp_val {v : Value} (hw : Region.wanted o (yielded ops a.tmps) = true) (hy : YieldsIf P ops (fun q => q = w) o v a) {d : Option Tmp} (hd : o.dst = d) (h : K (a.put d v) w) : if Region.wanted o (yielded ops a.tmps) = true then Oper.wp P o a w K Q else E := by
  rw [if_pos hw]
  rcases hy with ⟨_, hv⟩ | ⟨hn, _⟩
  · unfold Oper.wp
    rw [hv w rfl]
    subst hd
    exact h
  · rw [hn] at hw
    cases hw

theorem yif_by (hw : Region.wanted o (yielded ops a.tmps) = true) (v : Value) (h : ∀ w, (execOp a.eval o).run P w = .ok (.value v) w) : YieldsIf P ops S o v a := .inl ⟨hw, fun w _ => h w⟩

end

end Go.Proofs.Ytjicfonpldobdaa
