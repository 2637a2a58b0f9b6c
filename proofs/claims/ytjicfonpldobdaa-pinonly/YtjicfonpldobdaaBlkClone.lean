/-
  A copy of words, made by appending them to an empty slice: as a step of a walk over blocks.
-/
import Derived.Test.YtjicfonpldobdaaBlkT
import Derived.Deep.RegionLawGrows
import Derived.Laws.AppendOwnNone
namespace Go.Proofs.Ytjicfonpldobdaa
set_option maxRecDepth 100000
open Go.RowKit Go.Sort

theorem blk_of_own {W : World} {base n : Nat} {e : TypeId} {g cap : Nat} {ws : Nat → Nat} (h : W.ownsRow base e 1 (.slice (some ⟨g, 0, none⟩) n cap) n (rowW ws n)) : BlkAt W g (rowW ws n) := by
  rcases h.2 with ⟨h, _⟩ | ⟨g', cap', cur, hv, _, hg, _, _, hsz, hcur⟩
  · cases h
  · simp only [Value.slice.injEq, Option.some.injEq, Addr.mk.injEq] at hv
    obtain ⟨⟨rfl, _, _⟩, _, rfl⟩ := hv
    have hb := blkAt_new hg
    refine ⟨hb.lt, fun j v hj => hb.cell j v ?_, hb.fz⟩
    rw [← hcur] at hj
    exact (List.getElem?_take_of_lt (by have := (List.getElem?_eq_some_iff.1 hj).1; simp at this; omega)).symm.trans hj

theorem row_put {W : World} {g n j y : Nat} {ws : Nat → Nat} (h : BlkAt W g (rowW ws n)) : BlkAt (W.setCell ⟨g, j, none⟩ (.int .u64 (y : Nat))) g (rowW (Um.putW ws j y) n) := by
  have hp := h.put j (.int .u64 (y : Nat))
  refine ⟨hp.lt, fun i v hv => hp.cell i v ?_, hp.fz⟩
  have hi : i < n := by have := (List.getElem?_eq_some_iff.1 hv).1; rwa [rowW_len] at this
  rw [rowW_get _ n i hi] at hv
  cases hv
  rw [List.getElem?_set]
  split
  · rename_i e
    subst e
    rw [if_pos (by rw [rowW_len]; exact hi), Um.putW_same]
  · rename_i e
    rw [rowW_get _ n i hi, Um.putW_other (Ne.symm e)]

theorem wpl_clone {ops : Array Oper} {rest : List Oper} {op : Oper} {a : Act} {w w0 : World} {Q : Exit → Act → World → Prop} {l : List (Nat × List Value)} (hS : St w0 w l) (hgd : op.guard = none) (s x : Operand)
    (ho : op.op = .call { callee := .builtin .append, args := #[s, x], argTypes := #[25, 25] }) (z : Addr) (hs : a.eval s = .slice (some z) 0 0)
    (b off m c : Nat) (hx : a.eval x = .slice (some ⟨b, off, none⟩) m c) (ws : Nat → Nat) (hI : ∀ j, j < m → w.cell? ⟨b, off + j, none⟩ = some (.int .u64 (ws j))) (hm : 0 < m) (hb : m * 8 ≤ 140737488355328)
    (h : ∀ g cap w', St w0 w' (l ++ [(g, rowW ws m)]) → m ≤ cap → cap ≤ maxLen → wpList Try.prog ops Q rest (a.put op.dst (.slice (some ⟨g, 0, none⟩) m cap)) w') : wpList Try.prog ops Q (op :: rest) a w := by
  obtain ⟨i0, hi, hz0, hz1, hz2⟩ := info_parts infoU
  refine wpList_step fun K hK => ?_
  refine step_append_grows hgd s x 25 ho 22 i0 (.int .u64 0) 1 8 Try.underlying25 hi hz0 hz1 hz2 rfl (by decide) (some z) 0 0 [] hs (fun e => by cases e) rfl (fun _ _ j u e => by cases e) ⟨b, off, none⟩ m c (rowW ws m) hx (by rw [rowW_len, Nat.mul_one]) ?_ rowW_mem (by omega) (by unfold maxLen; omega) (by omega) ?_
  · intro j u hu
    have hj : j < m := by have := (List.getElem?_eq_some_iff.1 hu).1; rwa [rowW_len] at this
    rw [rowW_get ws m j hj] at hu
    rw [← hu, Addr.add_lit]
    exact hI j hj
  · intro v' w' hown hgrow
    simp only [Nat.zero_add, List.nil_append] at hown
    obtain ⟨g, cap, rfl, hg1, hg2⟩ := hown.form (by omega)
    have hcap : m ≤ cap ∧ cap ≤ maxLen := by
      rcases hown.2 with ⟨h, _⟩ | ⟨g', cap', cur, hv, _, _, h1, h2, _, _⟩
      · cases h
      · simp only [Value.slice.injEq, Option.some.injEq, Addr.mk.injEq] at hv
        obtain ⟨_, _, rfl⟩ := hv
        exact ⟨h1, h2⟩
    exact hK _ _ (h g cap w' (hS.add ((Below.refl _ _).grown hgrow (Nat.le_refl _) (fun k e => by cases e)) (blk_of_own hown) hg1) hcap.1 hcap.2)

theorem wpl_empty {ops : Array Oper} {rest : List Oper} {op : Oper} {a : Act} {w w0 : World} {Q : Exit → Act → World → Prop} {l : List (Nat × List Value)} (hS : St w0 w l) (hw : Region.wanted op (yielded ops a.tmps) = true)
    (ho : op.op = .buildSlice 25 0 #[]) (h : ∀ b w', St w0 w' l → wpList Try.prog ops Q rest (a.put op.dst (.slice (some ⟨b, 0, none⟩) 0 0)) w') : wpList Try.prog ops Q (op :: rest) a w := by
  refine BigFrame.wpList_want hw fun K hK => ?_
  have e : (execOp a.eval op).run Try.prog w = .ok (.value (.slice (some ⟨w.heap.size, 0, none⟩) 0 0)) (w.alloc (.cells #[] 22)) := by
    unfold execOp
    rw [ho]
    go_simp
  unfold Oper.wp
  rw [e]
  exact hK _ _ (h _ _ (hS.call ((Below.refl _ _).alloc (Nat.le_refl _) _)))

theorem wpl_storeW {ops : Array Oper} {rest : List Oper} {op : Oper} {a : Act} {w w0 : World} {Q : Exit → Act → World → Prop} {l : List (Nat × List Value)} (hS : St w0 w l) (k : Nat) (hw : Region.wanted op (yielded ops a.tmps) = true) (x y : Operand)
    (ho : op.op = .store 22 x y) (hd : op.dst = none) (b j : Nat) (hx : a.eval x = .pointer (some ⟨b, j, none⟩)) (ws : Nat → Nat) (n : Nat) (hk : l[k]? = some (b, rowW ws n)) (hj : j < n) (v : Nat) (hy : a.eval y = .int .u64 (v : Nat))
    (h : ∀ w', St w0 w' (l.set k (b, rowW (Um.putW ws j v) n)) → wpList Try.prog ops Q rest a w') : wpList Try.prog ops Q (op :: rest) a w := by
  refine BigFrame.wpList_want hw fun K hK => ?_
  have e : (execOp a.eval op).run Try.prog w = .ok .skip (w.setCell ⟨b, j, none⟩ (.int .u64 (v : Nat))) := by
    unfold execOp
    rw [ho]
    simp [hx, hy, run_store_st (P := Try.prog) (hS.get k hk) j 22 (.int .u64 (v : Nat)) [.int .u64 (v : Nat)] rfl (by rw [rowW_len]; simp; omega) siz_u64 rfl, World.setCells]
  unfold Oper.wp
  rw [e]
  refine hK _ _ ?_
  rw [hd]
  exact (h _ (hS.turn k hk ((Off.refl b b w).set (.inl rfl) _) (row_put (hS.get k hk))))

theorem St.skip {w0 w : World} {l : List (Nat × List Value)} (h : St w0 w l) (o : Obj) : St w0 (w.alloc o) l := h.call ((Below.refl _ _).alloc (Nat.le_refl _) o)

theorem wpl_clone0 {ops : Array Oper} {rest : List Oper} {op : Oper} {a : Act} {w w0 : World} {Q : Exit → Act → World → Prop} {l : List (Nat × List Value)} (hS : St w0 w l) (hgd : op.guard = none) (s x : Operand)
    (ho : op.op = .call { callee := .builtin .append, args := #[s, x], argTypes := #[25, 25] }) (hs : a.eval s = .slice (some ⟨w.heap.size, 0, none⟩) 0 0)
    (ao : Option Addr) (c : Nat) (hx : a.eval x = .slice ao 0 c) (hao : ao = none → c = 0)
    (h : ∀ v' w', St w0 w' l → wpList Try.prog ops Q rest (a.put op.dst v') w') : wpList Try.prog ops Q (op :: rest) a (w.alloc (.cells #[] 22)) := by
  obtain ⟨i0, hi, hz0, hz1, hz2⟩ := info_parts infoU
  have hown : (w.alloc (.cells #[] 22)).ownsRow w.heap.size 22 1 (.slice (some ⟨w.heap.size, 0, none⟩) 0 0) 0 [] :=
    ⟨rfl, .inr ⟨w.heap.size, 0, #[], rfl, Nat.le_refl _, heap_alloc_new _ _, Nat.le_refl _, by unfold maxLen; omega, rfl, rfl⟩⟩
  cases ao with
  | none =>
    obtain rfl := hao rfl
    exact wpList_append_own_none hgd s x 25 ho w.heap.size 22 i0 1 Try.underlying25 hi _ 0 [] hs hown hx (h _ _ (hS.skip _))
  | some ad =>
    refine wpList_append_own _ hgd s x 25 ho w.heap.size 22 i0 (.int .u64 0) 1 8 Try.underlying25 hi hz0 hz1 hz2 rfl (by decide) _ 0 [] hs hown ad 0 c [] hx rfl (fun j u e => by cases e) (fun u e => by cases e) (by unfold maxLen; omega) (by omega) (by simp) ?_
    intro v' w' _ hgrow _
    refine h v' w' (hS.call (((Below.refl w.heap.size w).alloc (Nat.le_refl _) (.cells #[] 22)).grown hgrow (by simp) (fun k e => ?_)))
    simp [Value.ownBlock] at e
    omega

end Go.Proofs.Ytjicfonpldobdaa
