/-
  Texts that the laws stand on, merged (BlkClone, StoreR2, StoreL2, Og, StoreT, StoreU).
-/
import Derived.Test.YtapgghciieloaaaGreatQ3
import Derived.Test.YtapgghciieloaaaGreatQ4
import Derived.Deep.AppendLies
import Derived.Deep.RegionLawGrows
import Derived.Laws.AppendOwnNone
import Derived.Orders
import Derived.WalkKit

namespace Go.Proofs.YtapgghciieloaaaGreat
section
set_option maxRecDepth 100000
open Go.RowKit Go.Sort
theorem blk_of_own {W : World} {base n : Nat} {e : TypeId} {g cap : Nat} {ws : Nat → Nat} (h : W.ownsRow base e 1 (.slice (some ⟨g, 0, none⟩) n cap) n (rowW ws n)) : BlkAt W g (rowW ws n) := by
  rcases h.2 with ⟨h, _⟩ | ⟨g', cap', cur, hv, _, hg, _, _, hsz, hcur⟩
  · cases h
  · simp only [Value.slice.injEq, Option.some.injEq, Addr.mk.injEq] at hv
    obtain ⟨⟨rfl, _, _⟩, _, rfl⟩ := hv
    have hb := blkAt_new hg
    refine ⟨hb.lt, fun j v hj => hb.cell j v ?_, hb.fz⟩
    rw [← hcur] at hj
    exact (List.getElem?_take_of_lt (by have := (List.getElem?_eq_some_iff.1 hj).1; simp at this; omega)).symm.trans hj
theorem row_put {W : World} {g n j y : Nat} {ws : Nat → Nat} (h : BlkAt W g (rowW ws n)) : BlkAt (W.setCell ⟨g, j, none⟩ (.int .u64 (y : Nat))) g (rowW (Um.putW ws j y) n) := by
  have hp := h.put j (.int .u64 (y : Nat))
  refine ⟨hp.lt, fun i v hv => hp.cell i v ?_, hp.fz⟩
  have hi : i < n := by have := (List.getElem?_eq_some_iff.1 hv).1; rwa [rowW_len] at this
  rw [rowW_get _ n i hi] at hv
  cases hv
  rw [List.getElem?_set]
  split
  · rename_i e
    subst e
    rw [if_pos (by rw [rowW_len]; exact hi), Um.putW_same]
  · rename_i e
    rw [rowW_get _ n i hi, Um.putW_other (Ne.symm e)]
theorem wpl_clone {ops : Array Oper} {rest : List Oper} {op : Oper} {a : Act} {w w0 : World} {Q : Exit → Act → World → Prop} {l : List (Nat × List Value)} (hS : St w0 w l) (hgd : op.guard = none) (s x : Operand)
    (ho : op.op = .call { callee := .builtin .append, args := #[s, x], argTypes := #[25, 25] }) (z : Addr) (hs : a.eval s = .slice (some z) 0 0)
    (b off m c : Nat) (hx : a.eval x = .slice (some ⟨b, off, none⟩) m c) (ws : Nat → Nat) (hI : ∀ j, j < m → w.cell? ⟨b, off + j, none⟩ = some (.int .u64 (ws j))) (hm : 0 < m) (hb : m * 8 ≤ 140737488355328)
    (h : ∀ g cap w', St w0 w' (l ++ [(g, rowW ws m)]) → m ≤ cap → cap ≤ maxLen → wpList Tryz.prog ops Q rest (a.put op.dst (.slice (some ⟨g, 0, none⟩) m cap)) w') : wpList Tryz.prog ops Q (op :: rest) a w := by
  obtain ⟨i0, hi, hz0, hz1, hz2⟩ := info_parts infoU
  refine wpList_step fun K hK => ?_
  refine step_append_grows hgd s x 25 ho 22 i0 (.int .u64 0) 1 8 Tryz.underlying25 hi hz0 hz1 hz2 rfl (by decide) (some z) 0 0 [] hs (fun e => by cases e) rfl (fun _ _ j u e => by cases e) ⟨b, off, none⟩ m c (rowW ws m) hx (by rw [rowW_len, Nat.mul_one]) ?_ rowW_mem (by omega) (by unfold maxLen; omega) (by omega) ?_
  · intro j u hu
    have hj : j < m := by have := (List.getElem?_eq_some_iff.1 hu).1; rwa [rowW_len] at this
    rw [rowW_get ws m j hj] at hu
    rw [← hu, Addr.add_lit]
    exact hI j hj
  · intro v' w' hown hgrow
    simp only [Nat.zero_add, List.nil_append] at hown
    obtain ⟨g, cap, rfl, hg1, hg2⟩ := hown.form (by omega)
    have hcap : m ≤ cap ∧ cap ≤ maxLen := by
      rcases hown.2 with ⟨h, _⟩ | ⟨g', cap', cur, hv, _, _, h1, h2, _, _⟩
      · cases h
      · simp only [Value.slice.injEq, Option.some.injEq, Addr.mk.injEq] at hv
        obtain ⟨_, _, rfl⟩ := hv
        exact ⟨h1, h2⟩
    exact hK _ _ (h g cap w' (hS.add ((Below.refl _ _).grown hgrow (Nat.le_refl _) (fun k e => by cases e)) (blk_of_own hown) hg1) hcap.1 hcap.2)
theorem wpl_empty {ops : Array Oper} {rest : List Oper} {op : Oper} {a : Act} {w w0 : World} {Q : Exit → Act → World → Prop} {l : List (Nat × List Value)} (hS : St w0 w l) (hw : Region.wanted op (yielded ops a.tmps) = true)
    (ho : op.op = .buildSlice 25 0 #[]) (h : ∀ b w', St w0 w' l → wpList Tryz.prog ops Q rest (a.put op.dst (.slice (some ⟨b, 0, none⟩) 0 0)) w') : wpList Tryz.prog ops Q (op :: rest) a w := by
  refine BigFrame.wpList_want hw fun K hK => ?_
  have e : (execOp a.eval op).run Tryz.prog w = .ok (.value (.slice (some ⟨w.heap.size, 0, none⟩) 0 0)) (w.alloc (.cells #[] 22)) := by
    unfold execOp
    rw [ho]
    go_simp
  unfold Oper.wp
  rw [e]
  exact hK _ _ (h _ _ (hS.call ((Below.refl _ _).alloc (Nat.le_refl _) _)))
theorem wpl_storeW {ops : Array Oper} {rest : List Oper} {op : Oper} {a : Act} {w w0 : World} {Q : Exit → Act → World → Prop} {l : List (Nat × List Value)} (hS : St w0 w l) (k : Nat) (hw : Region.wanted op (yielded ops a.tmps) = true) (x y : Operand)
    (ho : op.op = .store 22 x y) (hd : op.dst = none) (b j : Nat) (hx : a.eval x = .pointer (some ⟨b, j, none⟩)) (ws : Nat → Nat) (n : Nat) (hk : l[k]? = some (b, rowW ws n)) (hj : j < n) (v : Nat) (hy : a.eval y = .int .u64 (v : Nat))
    (h : ∀ w', St w0 w' (l.set k (b, rowW (Um.putW ws j v) n)) → wpList Tryz.prog ops Q rest a w') : wpList Tryz.prog ops Q (op :: rest) a w := by
  refine BigFrame.wpList_want hw fun K hK => ?_
  have e : (execOp a.eval op).run Tryz.prog w = .ok .skip (w.setCell ⟨b, j, none⟩ (.int .u64 (v : Nat))) := by
    unfold execOp
    rw [ho]
    simp [hx, hy, run_store_st (P := Tryz.prog) (hS.get k hk) j 22 (.int .u64 (v : Nat)) [.int .u64 (v : Nat)] rfl (by rw [rowW_len]; simp; omega) siz_u64 rfl, World.setCells]
  unfold Oper.wp
  rw [e]
  refine hK _ _ ?_
  rw [hd]
  exact (h _ (hS.turn k hk ((Off.refl b b w).set (.inl rfl) _) (row_put (hS.get k hk))))
theorem St.skip {w0 w : World} {l : List (Nat × List Value)} (h : St w0 w l) (o : Obj) : St w0 (w.alloc o) l := h.call ((Below.refl _ _).alloc (Nat.le_refl _) o)
end
section
set_option maxRecDepth 100000
open Go.RowKit Go.Sort
theorem own_cap {W : World} {base n : Nat} {e : TypeId} {g cap : Nat} {xs : List Value} (h : W.ownsRow base e 1 (.slice (some ⟨g, 0, none⟩) n cap) n xs) : n ≤ cap ∧ cap ≤ maxLen := by
  rcases h.2 with ⟨h, _⟩ | ⟨g', cap', cur, hv, _, _, h1, h2, _, _⟩
  · cases h
  · simp only [Value.slice.injEq, Option.some.injEq, Addr.mk.injEq] at hv
    obtain ⟨_, _, rfl⟩ := hv
    exact ⟨h1, h2⟩
set_option maxHeartbeats 1000000 in
theorem rOf_own (c : Um.Cf) (v : Value) (ws : Nat → Nat) (w : World) (h : c.r = true) (hv : IsWords w v c.n ws) :
    Calls Tryz.prog 42 #[(.agg #[.int .i64 (c.t), .int .i64 (c.s), .int .i64 (c.k), .int .i64 (c.g), .int .u64 (c.q : Int)]), v] w fun e W' => ∃ v', e = .returned (.agg #[.int .i64 (c.t), .int .i64 (c.s), .int .i64 (c.k), .int .i64 (c.g), .int .u64 (c.q : Int), v', .int .i64 0, .int .i64 0, .int .i64 0, .int .i64 0, .int .u64 0, .int .u64 0, .bool false]) ∧ (∃ g cap, v' = .slice (some ⟨g, 0, none⟩) c.n cap ∧ w.heap.size ≤ g ∧ c.n ≤ cap ∧ cap ≤ maxLen ∧ BlkAt W' g (rowW ws c.n)) ∧ Below w.heap.size w W' := by
  obtain ⟨i0, hi, hz0, hz1, hz2⟩ := info_parts infoU
  have hp := Um.Cf.n_pos h
  have hn := c.n_le
  clear h
  rcases hv with ⟨_, _, _, h0⟩ | ⟨b, off, cap, rfl, h0, h1, h2, h3, h4⟩
  · omega
  have HR : Hid (∀ (W : World), Below w.heap.size w W → ∀ j u, (rowW ws c.n)[j]? = some u → W.cell? ((⟨b, off, none⟩ : Addr).add j) = some u) := by
    intro W hB j u hu
    have hj : j < c.n := by have := (List.getElem?_eq_some_iff.1 hu).1; rwa [rowW_len] at this
    rw [rowW_get ws c.n j hj] at hu
    rw [← hu, Addr.add_lit, hB.cell (p := ⟨b, off + j, none⟩) h3]
    exact (h4 j hj).1
  clear h4
  go_enter Tryz.func42, Tryz.ntmps42
  go_wp2_with fail
  generalize hW : (w.alloc (.cells #[.int .i64 c.t, .int .i64 c.s, .int .i64 c.k, .int .i64 c.g, .int .u64 c.q] 24)).alloc (.cells #[.int .i64 0, .int .i64 0, .int .i64 0, .int .i64 0, .int .u64 0, .slice none 0 0, .int .i64 0, .int .i64 0, .int .i64 0, .int .i64 0, .int .u64 0, .int .u64 0, .bool false] 35) = W
  obtain ⟨K, Z, hB⟩ : CfAt W w.heap.size c ∧ BlkAt W (w.heap.size + 1) [.int .i64 0, .int .i64 0, .int .i64 0, .int .i64 0, .int .u64 0, .slice none 0 0, .int .i64 0, .int .i64 0, .int .i64 0, .int .i64 0, .int .u64 0, .int .u64 0, .bool false] ∧ Below w.heap.size w W := by
    subst hW
    obtain ⟨_, h2⟩ := alloc2_at w (.cells #[.int .i64 c.t, .int .i64 c.s, .int .i64 c.k, .int .i64 c.g, .int .u64 c.q] 24) (.cells #[.int .i64 0, .int .i64 0, .int .i64 0, .int .i64 0, .int .u64 0, .slice none 0 0, .int .i64 0, .int .i64 0, .int .i64 0, .int .i64 0, .int .u64 0, .int .u64 0, .bool false] 35)
    exact ⟨(cfAt_alloc w c 24).below ((Below.refl _ _).alloc (Nat.le_refl _) _), blkAt_new h2, ((Below.refl _ _).alloc (Nat.le_refl _) _).alloc (by simp) _⟩
  clear hW
  obtain ⟨hk, a0, a1, a2, a3, a4⟩ := id K
  have hR1 : w.heap.size ≤ w.heap.size + 1 := by omega
  generalize w.heap.size + 1 = R at *
  go_region_law (refine step_append_grows rfl (.tmp 6) (.tmp 7) 25 rfl 22 i0 (.int .u64 0) 1 8 Tryz.underlying25 hi hz0 hz1 hz2 rfl (by decide) (some ⟨_, 0, none⟩) 0 0 [] (by simp [Act.eval]; rfl) (fun e => by cases e) rfl (fun _ _ j u e => by cases e) ⟨b, off, none⟩ c.n cap (rowW ws c.n) (by simp [Act.eval]) (by rw [rowW_len, Nat.mul_one]) ((unhide HR) _ ((hB.drew).alloc (Nat.le_of_lt hk) _)) rowW_mem (by omega) (by unfold maxLen; omega) (by omega) ?_; intro v' w' hown hgrow; obtain ⟨g, cap2, rfl, hg1, hg2⟩ := hown.form (by omega); have hb' : Below W.heap.size W w' := below_undrew (((Below.refl _ _).alloc (Nat.le_refl _) _).grown hgrow (by simp) (fun k e => by cases e)); obtain ⟨_, b0, b1, b2, b3, b4⟩ := K.below hb'; have Z2 := Z.below hb'; have z0 := Z2.cell 0 _ rfl; have y0 := Z2.fz 0; have z1 := Z2.cell 1 _ rfl; have y1 := Z2.fz 1; have z2 := Z2.cell 2 _ rfl; have y2 := Z2.fz 2; have z3 := Z2.cell 3 _ rfl; have y3 := Z2.fz 3; have z4 := Z2.cell 4 _ rfl; have y4 := Z2.fz 4; have z5 := Z2.cell 5 _ rfl; have y5 := Z2.fz 5; have z6 := Z2.cell 6 _ rfl; have y6 := Z2.fz 6; have z7 := Z2.cell 7 _ rfl; have y7 := Z2.fz 7; have z8 := Z2.cell 8 _ rfl; have y8 := Z2.fz 8; have z9 := Z2.cell 9 _ rfl; have y9 := Z2.fz 9; have z10 := Z2.cell 10 _ rfl; have y10 := Z2.fz 10; have z11 := Z2.cell 11 _ rfl; have y11 := Z2.fz 11; have z12 := Z2.cell 12 _ rfl; have y12 := Z2.fz 12)
  all_goals
    have hZ := (((((((((((((Z2.put 0 (.int .i64 c.t)).put 1 (.int .i64 c.s)).put 2 (.int .i64 c.k)).put 3 (.int .i64 c.g)).put 4 (.int .u64 c.q)).put 5 (.slice (some ⟨g, 0, none⟩) c.n cap2)).put 6 (.int .i64 0)).put 7 (.int .i64 0)).put 8 (.int .i64 0)).put 9 (.int .i64 0)).put 10 (.int .u64 0)).put 11 (.int .u64 0)).put 12 (.bool false))
    have hO := ((((((((((((((Off.refl R R w').set (p := ⟨R, 0, none⟩) (.inl rfl) (.int .i64 c.t)).set (p := ⟨R, 1, none⟩) (.inl rfl) (.int .i64 c.s)).set (p := ⟨R, 2, none⟩) (.inl rfl) (.int .i64 c.k)).set (p := ⟨R, 3, none⟩) (.inl rfl) (.int .i64 c.g)).set (p := ⟨R, 4, none⟩) (.inl rfl) (.int .u64 c.q)).set (p := ⟨R, 5, none⟩) (.inl rfl) (.slice (some ⟨g, 0, none⟩) c.n cap2)).set (p := ⟨R, 6, none⟩) (.inl rfl) (.int .i64 0)).set (p := ⟨R, 7, none⟩) (.inl rfl) (.int .i64 0)).set (p := ⟨R, 8, none⟩) (.inl rfl) (.int .i64 0)).set (p := ⟨R, 9, none⟩) (.inl rfl) (.int .i64 0)).set (p := ⟨R, 10, none⟩) (.inl rfl) (.int .u64 0)).set (p := ⟨R, 11, none⟩) (.inl rfl) (.int .u64 0)).set (p := ⟨R, 12, none⟩) (.inl rfl) (.bool false))
    have hg1' : W.heap.size ≤ g := by simp at hg1; omega
    have hB2 := hB.trans (hb'.mono (Nat.le_of_lt hk))
    have hWo : BlkAt w' g (rowW ws c.n) := blk_of_own (by simpa using hown)
    have hcp := own_cap (by simpa using hown)
    have HZ := hide hZ
    have HO := hide hO
    have HW := hide hWo
    have hRW := Z.lt
    have hgl : g < w'.heap.size := hg2
    have hsz := hb'.size
    clear hZ hO hWo z0 y0 z1 y1 z2 y2 z3 y3 z4 y4 z5 y5 z6 y6 z7 y7 z8 y8 z9 y9 z10 y10 z11 y11 z12 y12 a0 a1 a2 a3 a4 b0 b1 b2 b3 b4 Z Z2 K hown hgrow
    go_wp2
    have hZ := unhide HZ
    have hO := unhide HO
    simp only [List.set] at hZ
    generalize World.setCell _ _ _ = Wf at hZ hO ⊢
    refine bodyPost_ret (v := (.agg #[.int .i64 (c.t), .int .i64 (c.s), .int .i64 (c.k), .int .i64 (c.g), .int .u64 (c.q : Int), .slice (some ⟨g, 0, none⟩) c.n cap2, .int .i64 0, .int .i64 0, .int .i64 0, .int .i64 0, .int .u64 0, .int .u64 0, .bool false])) (by simp [results, Tryz.results42, go_sem, hZ.cell 0 _ rfl, hZ.cell 1 _ rfl, hZ.cell 2 _ rfl, hZ.cell 3 _ rfl, hZ.cell 4 _ rfl, hZ.cell 5 _ rfl, hZ.cell 6 _ rfl, hZ.cell 7 _ rfl, hZ.cell 8 _ rfl, hZ.cell 9 _ rfl, hZ.cell 10 _ rfl, hZ.cell 11 _ rfl, hZ.cell 12 _ rfl]) rfl ⟨_, rfl, ⟨g, _, rfl, by omega, hcp.1, hcp.2, ?_⟩, ?_⟩
    · exact (unhide HW).off hO (by omega) (by omega)
    · exact hB2.trans (hO.below hB2.size (by omega) (by omega))
end
section
set_option maxRecDepth 100000
open Go.RowKit Go.Sort
set_option maxHeartbeats 2000000 in
theorem lOf_own (c : Um.Cf) (v : Value) (ws : Nat → Nat) (w : World) (h : c.r = true) (hv : IsWords w v c.n ws) :
    Calls Tryz.prog 10 #[(.agg #[.int .i64 (c.t), .int .i64 (c.s), .int .i64 (c.k), .int .i64 (c.g), .int .u64 (c.q : Int)]), v] w fun e W' => ∃ B C g cap, e = .returned (.tuple #[.pointer (some ⟨B, 0, none⟩), (.agg #[.int .i64 (c.t), .int .i64 (c.s), .int .i64 (c.k), .int .i64 (c.g), .int .u64 (c.q : Int), .slice (some ⟨g, 0, none⟩) c.n cap, .int .i64 0, .int .i64 0, .int .i64 0, .int .i64 0, .int .u64 0, .int .u64 0, .bool false]), .bool true]) ∧
      w.heap.size ≤ B ∧ w.heap.size ≤ C ∧ B < g ∧ C < g ∧ MemAt W' B C c ⟨ws, 0, Um.noT⟩ ∧ c.n ≤ cap ∧ cap ≤ maxLen ∧ BlkAt W' g (rowW ws c.n) ∧ Below w.heap.size w W' := by
  have hR := rRight_any c.t c.s c.k c.g c.q
  rw [show Um.rt c.t c.s c.k c.g c.q = true from h] at hR
  have hL := rLen_any c.t c.s c.k c.g c.q
  rw [Cf_len] at hL
  have hO := fun w hv => sOf_right c v ws w h hv
  have hD := fun w hv => rOf_own c v ws w h hv
  have HV := hide hv
  have HR := hide h
  have HO := hide hO
  have HD := hide hD
  have HW := hide (words_word hv)
  obtain ⟨a, cap, rfl⟩ := words_len hv
  clear h hv hO hD
  have hS := St.new w
  go_enter Tryz.func10, Tryz.ntmps10
  go_wp2_with (first | (refine wpl_box hS rfl _ _ rfl _ rfl _ (by intro _; simp only [Act.put, List.setIfInBounds_toArray, List.set_cons_zero, List.set_cons_succ]; first | done | exact rfl) ?_; clear hS; intro _ _ hS; dsimp only [blit, List.set, List.cons_append, List.nil_append, Value.cells, List.toList_toArray] at hS) | (refine wpl_alloc hS rfl _ rfl _ (zer_any rfl) _ (by intro _; simp only [Act.put, List.setIfInBounds_toArray, List.set_cons_zero, List.set_cons_succ]; first | done | exact rfl) ?_; clear hS; intro _ _ hS; dsimp only [blit, List.set, List.cons_append, List.nil_append, Value.cells, List.toList_toArray] at hS) | (refine wpl_ld hS rfl _ _ rfl _ _ rfl ?_; (first | refine ⟨0, _, rfl, ?_⟩ | refine ⟨1, _, rfl, ?_⟩ | refine ⟨2, _, rfl, ?_⟩ | refine ⟨3, _, rfl, ?_⟩ | refine ⟨4, _, rfl, ?_⟩ | refine ⟨5, _, rfl, ?_⟩ | refine ⟨6, _, rfl, ?_⟩ | refine ⟨7, _, rfl, ?_⟩ | refine ⟨8, _, rfl, ?_⟩ | refine ⟨9, _, rfl, ?_⟩); first | refine .inl ⟨_, one_any rfl, rfl, _, (by simp only [Act.put, List.setIfInBounds_toArray, List.set_cons_zero, List.set_cons_succ]; first | done | exact rfl), ?_⟩ | refine .inr ⟨_, _, row_any rfl, rfl, (by dsimp only [cutL, List.drop, List.take]; first | done | exact rfl), _, (by simp only [Act.put, List.setIfInBounds_toArray, List.set_cons_zero, List.set_cons_succ]; first | done | exact rfl), ?_⟩) | (refine wpl_st hS rfl _ _ _ rfl rfl _ _ rfl ?_; (first | refine ⟨0, _, rfl, ?_⟩ | refine ⟨1, _, rfl, ?_⟩ | refine ⟨2, _, rfl, ?_⟩ | refine ⟨3, _, rfl, ?_⟩ | refine ⟨4, _, rfl, ?_⟩ | refine ⟨5, _, rfl, ?_⟩ | refine ⟨6, _, rfl, ?_⟩ | refine ⟨7, _, rfl, ?_⟩ | refine ⟨8, _, rfl, ?_⟩ | refine ⟨9, _, rfl, ?_⟩); refine ⟨_, (by first | exact shA rfl | exact shI rfl | exact shB rfl | exact shS rfl | exact shP rfl | exact shF rfl | exact shN rfl), _, siz_any rfl, (by exact rfl), (by exact rfl), (by exact rfl), ?_⟩; clear hS; intro _ hS; dsimp only [blit, List.set, List.cons_append, List.nil_append, Value.cells, List.toList_toArray] at hS))
  refine (hR _).mono ?_
  rintro e w1 ⟨rfl, hb⟩
  replace hS := hS.call hb
  clear hb hR
  go_wp2_with (first | (refine wpl_box hS rfl _ _ rfl _ rfl _ (by intro _; simp only [Act.put, List.setIfInBounds_toArray, List.set_cons_zero, List.set_cons_succ]; first | done | exact rfl) ?_; clear hS; intro _ _ hS; dsimp only [blit, List.set, List.cons_append, List.nil_append, Value.cells, List.toList_toArray] at hS) | (refine wpl_alloc hS rfl _ rfl _ (zer_any rfl) _ (by intro _; simp only [Act.put, List.setIfInBounds_toArray, List.set_cons_zero, List.set_cons_succ]; first | done | exact rfl) ?_; clear hS; intro _ _ hS; dsimp only [blit, List.set, List.cons_append, List.nil_append, Value.cells, List.toList_toArray] at hS) | (refine wpl_ld hS rfl _ _ rfl _ _ rfl ?_; (first | refine ⟨0, _, rfl, ?_⟩ | refine ⟨1, _, rfl, ?_⟩ | refine ⟨2, _, rfl, ?_⟩ | refine ⟨3, _, rfl, ?_⟩ | refine ⟨4, _, rfl, ?_⟩ | refine ⟨5, _, rfl, ?_⟩ | refine ⟨6, _, rfl, ?_⟩ | refine ⟨7, _, rfl, ?_⟩ | refine ⟨8, _, rfl, ?_⟩ | refine ⟨9, _, rfl, ?_⟩); first | refine .inl ⟨_, one_any rfl, rfl, _, (by simp only [Act.put, List.setIfInBounds_toArray, List.set_cons_zero, List.set_cons_succ]; first | done | exact rfl), ?_⟩ | refine .inr ⟨_, _, row_any rfl, rfl, (by dsimp only [cutL, List.drop, List.take]; first | done | exact rfl), _, (by simp only [Act.put, List.setIfInBounds_toArray, List.set_cons_zero, List.set_cons_succ]; first | done | exact rfl), ?_⟩) | (refine wpl_st hS rfl _ _ _ rfl rfl _ _ rfl ?_; (first | refine ⟨0, _, rfl, ?_⟩ | refine ⟨1, _, rfl, ?_⟩ | refine ⟨2, _, rfl, ?_⟩ | refine ⟨3, _, rfl, ?_⟩ | refine ⟨4, _, rfl, ?_⟩ | refine ⟨5, _, rfl, ?_⟩ | refine ⟨6, _, rfl, ?_⟩ | refine ⟨7, _, rfl, ?_⟩ | refine ⟨8, _, rfl, ?_⟩ | refine ⟨9, _, rfl, ?_⟩); refine ⟨_, (by first | exact shA rfl | exact shI rfl | exact shB rfl | exact shS rfl | exact shP rfl | exact shF rfl | exact shN rfl), _, siz_any rfl, (by exact rfl), (by exact rfl), (by exact rfl), ?_⟩; clear hS; intro _ hS; dsimp only [blit, List.set, List.cons_append, List.nil_append, Value.cells, List.toList_toArray] at hS))
  refine (hL _).mono ?_
  rintro e w2 ⟨rfl, hb⟩
  replace hS := hS.call hb
  clear hb hL
  go_wp2_with (first | (refine wpl_box hS rfl _ _ rfl _ rfl _ (by intro _; simp only [Act.put, List.setIfInBounds_toArray, List.set_cons_zero, List.set_cons_succ]; first | done | exact rfl) ?_; clear hS; intro _ _ hS; dsimp only [blit, List.set, List.cons_append, List.nil_append, Value.cells, List.toList_toArray] at hS) | (refine wpl_alloc hS rfl _ rfl _ (zer_any rfl) _ (by intro _; simp only [Act.put, List.setIfInBounds_toArray, List.set_cons_zero, List.set_cons_succ]; first | done | exact rfl) ?_; clear hS; intro _ _ hS; dsimp only [blit, List.set, List.cons_append, List.nil_append, Value.cells, List.toList_toArray] at hS) | (refine wpl_ld hS rfl _ _ rfl _ _ rfl ?_; (first | refine ⟨0, _, rfl, ?_⟩ | refine ⟨1, _, rfl, ?_⟩ | refine ⟨2, _, rfl, ?_⟩ | refine ⟨3, _, rfl, ?_⟩ | refine ⟨4, _, rfl, ?_⟩ | refine ⟨5, _, rfl, ?_⟩ | refine ⟨6, _, rfl, ?_⟩ | refine ⟨7, _, rfl, ?_⟩ | refine ⟨8, _, rfl, ?_⟩ | refine ⟨9, _, rfl, ?_⟩); first | refine .inl ⟨_, one_any rfl, rfl, _, (by simp only [Act.put, List.setIfInBounds_toArray, List.set_cons_zero, List.set_cons_succ]; first | done | exact rfl), ?_⟩ | refine .inr ⟨_, _, row_any rfl, rfl, (by dsimp only [cutL, List.drop, List.take]; first | done | exact rfl), _, (by simp only [Act.put, List.setIfInBounds_toArray, List.set_cons_zero, List.set_cons_succ]; first | done | exact rfl), ?_⟩) | (refine wpl_st hS rfl _ _ _ rfl rfl _ _ rfl ?_; (first | refine ⟨0, _, rfl, ?_⟩ | refine ⟨1, _, rfl, ?_⟩ | refine ⟨2, _, rfl, ?_⟩ | refine ⟨3, _, rfl, ?_⟩ | refine ⟨4, _, rfl, ?_⟩ | refine ⟨5, _, rfl, ?_⟩ | refine ⟨6, _, rfl, ?_⟩ | refine ⟨7, _, rfl, ?_⟩ | refine ⟨8, _, rfl, ?_⟩ | refine ⟨9, _, rfl, ?_⟩); refine ⟨_, (by first | exact shA rfl | exact shI rfl | exact shB rfl | exact shS rfl | exact shP rfl | exact shF rfl | exact shN rfl), _, siz_any rfl, (by exact rfl), (by exact rfl), (by exact rfl), ?_⟩; clear hS; intro _ hS; dsimp only [blit, List.set, List.cons_append, List.nil_append, Value.cells, List.toList_toArray] at hS))
  refine ((unhide HO) _ (((unhide HV).low.below hS.bel).is hS.bel.size)).mono ?_
  rintro e w3 ⟨B, C, rfl, hl1, hl2, hM, hb⟩
  have hz1 := Nat.le_trans hS.bel.size hl1
  have hz2 := Nat.le_trans hS.bel.size hl2
  have hne := hM.ne
  have hlb := hM.hB
  have hlc := hM.hC
  replace hS := hS.addMem hb hM hl1 hl2
  dsimp only [List.cons_append, List.nil_append] at hS
  clear hb hM hl1 hl2 HO
  go_wp2_with (first | (refine wpl_box hS rfl _ _ rfl _ rfl _ (by intro _; simp only [Act.put, List.setIfInBounds_toArray, List.set_cons_zero, List.set_cons_succ]; first | done | exact rfl) ?_; clear hS; intro _ _ hS; dsimp only [blit, List.set, List.cons_append, List.nil_append, Value.cells, List.toList_toArray] at hS) | (refine wpl_alloc hS rfl _ rfl _ (zer_any rfl) _ (by intro _; simp only [Act.put, List.setIfInBounds_toArray, List.set_cons_zero, List.set_cons_succ]; first | done | exact rfl) ?_; clear hS; intro _ _ hS; dsimp only [blit, List.set, List.cons_append, List.nil_append, Value.cells, List.toList_toArray] at hS) | (refine wpl_ld hS rfl _ _ rfl _ _ rfl ?_; (first | refine ⟨0, _, rfl, ?_⟩ | refine ⟨1, _, rfl, ?_⟩ | refine ⟨2, _, rfl, ?_⟩ | refine ⟨3, _, rfl, ?_⟩ | refine ⟨4, _, rfl, ?_⟩ | refine ⟨5, _, rfl, ?_⟩ | refine ⟨6, _, rfl, ?_⟩ | refine ⟨7, _, rfl, ?_⟩ | refine ⟨8, _, rfl, ?_⟩ | refine ⟨9, _, rfl, ?_⟩); first | refine .inl ⟨_, one_any rfl, rfl, _, (by simp only [Act.put, List.setIfInBounds_toArray, List.set_cons_zero, List.set_cons_succ]; first | done | exact rfl), ?_⟩ | refine .inr ⟨_, _, row_any rfl, rfl, (by dsimp only [cutL, List.drop, List.take]; first | done | exact rfl), _, (by simp only [Act.put, List.setIfInBounds_toArray, List.set_cons_zero, List.set_cons_succ]; first | done | exact rfl), ?_⟩) | (refine wpl_stO hS rfl _ _ _ rfl rfl _ _ rfl ?_; (first | refine ⟨0, _, rfl, ?_⟩ | refine ⟨1, _, rfl, ?_⟩ | refine ⟨2, _, rfl, ?_⟩ | refine ⟨3, _, rfl, ?_⟩ | refine ⟨4, _, rfl, ?_⟩ | refine ⟨5, _, rfl, ?_⟩ | refine ⟨6, _, rfl, ?_⟩ | refine ⟨7, _, rfl, ?_⟩ | refine ⟨8, _, rfl, ?_⟩ | refine ⟨9, _, rfl, ?_⟩); refine ⟨_, (by first | exact shA rfl | exact shI rfl | exact shB rfl | exact shS rfl | exact shP rfl | exact shF rfl | exact shN rfl), _, siz_any rfl, (by exact rfl), (by exact rfl), (by exact rfl), ?_⟩; clear hS; intro _ hS hO; dsimp only [blit, List.set, List.cons_append, List.nil_append, Value.cells, List.toList_toArray] at hS))
  refine ((unhide HD) _ (((unhide HV).low.below hS.bel).is hS.bel.size)).mono ?_
  rintro e w4 ⟨v', rfl, ⟨g, cap', rfl, hg, hc1, hc2, hI⟩, hb⟩
  have hlR := (hS.get 1 rfl).lt
  replace hS := hS.call hb
  clear hb
  have HI := hide hI
  clear hI HD
  go_wp2_with (first | (refine wpl_box hS rfl _ _ rfl _ rfl _ (by intro _; simp only [Act.put, List.setIfInBounds_toArray, List.set_cons_zero, List.set_cons_succ]; first | done | exact rfl) ?_; clear hS; intro _ _ hS; dsimp only [blit, List.set, List.cons_append, List.nil_append, Value.cells, List.toList_toArray] at hS) | (refine wpl_alloc hS rfl _ rfl _ (zer_any rfl) _ (by intro _; simp only [Act.put, List.setIfInBounds_toArray, List.set_cons_zero, List.set_cons_succ]; first | done | exact rfl) ?_; clear hS; intro _ _ hS; dsimp only [blit, List.set, List.cons_append, List.nil_append, Value.cells, List.toList_toArray] at hS) | (refine wpl_ld hS rfl _ _ rfl _ _ rfl ?_; (first | refine ⟨0, _, rfl, ?_⟩ | refine ⟨1, _, rfl, ?_⟩ | refine ⟨2, _, rfl, ?_⟩ | refine ⟨3, _, rfl, ?_⟩ | refine ⟨4, _, rfl, ?_⟩ | refine ⟨5, _, rfl, ?_⟩ | refine ⟨6, _, rfl, ?_⟩ | refine ⟨7, _, rfl, ?_⟩ | refine ⟨8, _, rfl, ?_⟩ | refine ⟨9, _, rfl, ?_⟩); first | refine .inl ⟨_, one_any rfl, rfl, _, (by simp only [Act.put, List.setIfInBounds_toArray, List.set_cons_zero, List.set_cons_succ]; first | done | exact rfl), ?_⟩ | refine .inr ⟨_, _, row_any rfl, rfl, (by dsimp only [cutL, List.drop, List.take]; first | done | exact rfl), _, (by simp only [Act.put, List.setIfInBounds_toArray, List.set_cons_zero, List.set_cons_succ]; first | done | exact rfl), ?_⟩) | (refine wpl_stO hS rfl _ _ _ rfl rfl _ _ rfl ?_; (first | refine ⟨0, _, rfl, ?_⟩ | refine ⟨1, _, rfl, ?_⟩ | refine ⟨2, _, rfl, ?_⟩ | refine ⟨3, _, rfl, ?_⟩ | refine ⟨4, _, rfl, ?_⟩ | refine ⟨5, _, rfl, ?_⟩ | refine ⟨6, _, rfl, ?_⟩ | refine ⟨7, _, rfl, ?_⟩ | refine ⟨8, _, rfl, ?_⟩ | refine ⟨9, _, rfl, ?_⟩); refine ⟨_, (by first | exact shA rfl | exact shI rfl | exact shB rfl | exact shS rfl | exact shP rfl | exact shF rfl | exact shN rfl), _, siz_any rfl, (by exact rfl), (by exact rfl), (by exact rfl), ?_⟩; clear hS; intro _ hS hO; dsimp only [blit, List.set, List.cons_append, List.nil_append, Value.cells, List.toList_toArray] at hS))
  have hZ := hS.get 1 rfl
  have hgl := (unhide HI).lt
  refine bodyPost_ret (v := .tuple #[.pointer (some ⟨B, 0, none⟩), (.agg #[.int .i64 (c.t), .int .i64 (c.s), .int .i64 (c.k), .int .i64 (c.g), .int .u64 (c.q : Int), .slice (some ⟨g, 0, none⟩) c.n cap', .int .i64 0, .int .i64 0, .int .i64 0, .int .i64 0, .int .u64 0, .int .u64 0, .bool false]), .bool true]) (by simp [results, Tryz.results10, go_sem, hZ.cell 0 _ rfl, hZ.cell 1 _ rfl, hZ.cell 2 _ rfl, hZ.cell 3 _ rfl, hZ.cell 4 _ rfl, hZ.cell 5 _ rfl, hZ.cell 6 _ rfl, hZ.cell 7 _ rfl, hZ.cell 8 _ rfl, hZ.cell 9 _ rfl, hZ.cell 10 _ rfl, hZ.cell 11 _ rfl, hZ.cell 12 _ rfl]) rfl
    ⟨B, C, g, cap', rfl, hz1, hz2, by omega, by omega, memAt_of (hS.get 2 rfl) (hS.get 3 rfl) hne (unhide HR) (unhide HW), hc1, hc2, (unhide HI).off hO (by omega) (by omega), hS.bel⟩
end
section
set_option maxRecDepth 100000
open Go.RowKit
section
variable {P : Program} {ops : Array Oper} {Q : Exit → Act → World → Prop} {md : Region.Mode}
theorem count_set (l : List Bool) : ∀ (i : Nat), l[i]? = some false → (l.set i true).count true = l.count true + 1 := by
  induction l with
  | nil => intro i h; simp at h
  | cons x r ih =>
    intro i h
    cases i with
    | zero =>
      simp at h
      subst h
      simp
    | succ i =>
      simp at h
      have := ih i h
      simp only [List.set_cons_succ, List.count_cons, this]
      omega
theorem all_of_count (l : List Bool) (h : l.length ≤ l.count true) : ∀ i, i < l.length → l[i]? = some true := by
  induction l with
  | nil => intro i hi; simp at hi
  | cons x r ih =>
    have h1 := List.count_le_length (a := true) (l := r)
    intro i hi
    cases x with
    | false => simp at h; omega
    | true =>
      simp at h
      cases i with
      | zero => simp
      | succ i => simpa using ih (by omega) i (by simpa using hi)
theorem wpAny_og (I : (Nat → Bool) → Act → World → Prop)
    (hac : ∀ (i : Nat) (o : Oper), ops[i]? = some o → ∀ e ∈ o.after, Region.binds md e = true → e.on < i)
    (hst : ∀ (i : Nat) (o : Oper), ops[i]? = some o → ∀ D a w, D i = false → (∀ e ∈ o.after, Region.binds md e = true → D e.on = true) → I D a w → wpOp P ops Q i (fun a' w' => I (fun j => j == i || D j) a' w') a w)
    (hen : ∀ D a w, (∀ i, i < ops.size → D i = true) → I D a w → Q .normal a w) :
    ∀ (fuel : Nat) (listed : Array Bool) (a : Act) (w : World), listed.size = ops.size → ops.size ≤ fuel + listed.toList.count true → I (fun j => listed.getD j false) a w → wpAny P md ops Q fuel listed a w := by
  have hall : ∀ (listed : Array Bool), listed.size = ops.size → Region.ready md ops listed = [] → ∀ i, i < ops.size → listed.getD i false = true := by
    intro listed hs hr i
    induction i using Nat.strongRecOn with
    | ind i ih =>
      intro hi
      cases hb : listed.getD i false with
      | true => rfl
      | false =>
        have hil : i < listed.size := by omega
        have hin : i ∈ Region.ready md ops listed := by
          rw [mem_ready]
          refine ⟨by simpa [hil] using hb, ops[i], Array.getElem?_eq_getElem hi, fun e he hbd => ?_⟩
          have hlt := hac i ops[i] (Array.getElem?_eq_getElem hi) e he hbd
          exact ih e.on hlt (by omega)
        rw [hr] at hin
        cases hin
  have hat : ∀ (listed : Array Bool) (i : Nat), i ∈ Region.ready md ops listed → listed.getD i false = false ∧ listed.toList[i]? = some false ∧ ∃ o, ops[i]? = some o ∧ ∀ e ∈ o.after, Region.binds md e = true → listed.getD e.on false = true := by
    intro listed i hi
    obtain ⟨h0, o, ho, hp⟩ := mem_ready.1 hi
    have hil : i < listed.size := by
      rcases Nat.lt_or_ge i listed.size with h | h
      · exact h
      · simp [Array.getElem?_eq_none h] at h0
    have h1 : listed[i] = false := by simpa [hil] using h0
    exact ⟨by simp [hil, h1], by simp [hil, h1], o, ho, hp⟩
  intro fuel
  induction fuel with
  | zero =>
    intro listed a w hs hc hI
    have ht : ∀ i, i < ops.size → listed.getD i false = true := by
      intro i hi
      have hk := all_of_count listed.toList (by rw [Array.length_toList]; omega) i (by rw [Array.length_toList]; omega)
      have hil : i < listed.size := by omega
      simp [hil] at hk
      simp [hil, hk]
    refine ⟨?_, hen _ a w ht hI⟩
    apply List.eq_nil_iff_forall_not_mem.2
    intro i hi
    obtain ⟨h0, _, o, ho, _⟩ := hat listed i hi
    rw [ht i (Array.getElem?_eq_some_iff.1 ho).1] at h0
    cases h0
  | succ fuel ih =>
    intro listed a w hs hc hI
    refine ⟨fun hr => hen _ a w (hall listed hs hr) hI, fun i hi => ?_⟩
    obtain ⟨h0, h1, o, ho, hp⟩ := hat listed i hi
    refine wpOp_mono (fun a' w' hI' => ih (listed.setIfInBounds i true) a' w' (by simpa using hs) ?_ ?_) (hst i o ho _ a w h0 hp hI)
    · rw [Array.toList_setIfInBounds, count_set _ _ h1]
      omega
    · have e : (fun j => (listed.setIfInBounds i true).getD j false) = (fun j => j == i || listed.getD j false) := by
        funext j
        by_cases hj : j = i
        · subst hj
          have hil : j < listed.size := by
            rcases Nat.lt_or_ge j listed.size with h | h
            · exact h
            · simp [Array.getElem?_eq_none h] at h1
          simp [hil]
        · have : (j == i) = false := by simpa using hj
          rw [this, Bool.false_or]
          simp [Array.getD_eq_getD_getElem?, Ne.symm hj]
      rw [e]
      exact hI'
def acycB (md : Region.Mode) (ops : Array Oper) : Bool := (List.range ops.size).all fun i => (ops[i]?.map fun o => o.after.toList.all fun e => !Region.binds md e || decide (e.on < i)).getD true
theorem og_acyc (h : acycB md ops = true) {i : Nat} {o : Oper} (hi : ops[i]? = some o) {e : Edge} (he : e ∈ o.after) (hb : Region.binds md e = true) : e.on < i := by
  have h1 := List.all_eq_true.1 h i (List.mem_range.2 (Array.getElem?_eq_some_iff.1 hi).1)
  rw [hi] at h1
  simp only [Option.map_some, Option.getD_some] at h1
  have h2 := List.all_eq_true.1 h1 e (by simpa using he)
  simpa [hb] using h2
def aheadB (md : Region.Mode) (o : Oper) (j : Nat) : Bool := o.after.toList.any fun e => Region.binds md e && e.on == j
theorem og_pre {o : Oper} {D : Nat → Bool} (hp : ∀ e ∈ o.after, Region.binds md e = true → D e.on = true) {j : Nat} (h : aheadB md o j = true) : D j = true := by
  obtain ⟨e, he, hb⟩ := List.any_eq_true.1 h
  simp only [Bool.and_eq_true, beq_iff_eq] at hb
  rw [← hb.2]
  exact hp e (by simpa using he) hb.1
theorem wp_region_og {id : Nat} {a : Act} {w : World} (I : (Nat → Bool) → Act → World → Prop) (hm : P.follows .mixedOrders = true)
    (hac : ∀ (i : Nat) (o : Oper), ops[i]? = some o → ∀ e ∈ o.after, Region.binds .any e = true → e.on < i)
    (h0 : I (fun _ => false) a w.drew)
    (hst : ∀ (i : Nat) (o : Oper), ops[i]? = some o → ∀ D a w, D i = false → (∀ e ∈ o.after, Region.binds .any e = true → D e.on = true) → I D a w → wpOp P ops Q i (fun a' w' => I (fun j => j == i || D j) a' w') a w)
    (hen : ∀ D a w, (∀ i, i < ops.size → D i = true) → I D a w → Q .normal a w) : (Code.region id ops true).wp P Q a w := by
  refine wp_region_any hm (wpAny_og I hac hst hen _ _ _ _ (by simp) (by simp) ?_)
  have e : (fun j => (Array.replicate ops.size false).getD j false) = (fun _ => false) := by
    funext j
    by_cases hj : j < ops.size <;> simp [Array.getD_eq_getD_getElem?, hj]
  rw [e]
  exact h0
end
end
section
set_option maxRecDepth 100000
open Go.RowKit Go.Sort
def RFresh (w W' : World) (v : Value) (n : Nat) (ws : Nat → Nat) : Prop := ∃ g cap, v = .slice (some ⟨g, 0, none⟩) n cap ∧ w.heap.size ≤ g ∧ n ≤ cap ∧ cap ≤ maxLen ∧ BlkAt W' g (rowW ws n)
set_option maxHeartbeats 2000000 in
theorem rTouch_miss (c : Um.Cf) (v0 : Option Addr) (n0 cap0 : Nat) (cnt : Int) (l : Um.Tch) (kind a b : Int) (o x : Nat) (w : World) (hp : c.cl a b = -1) :
    Calls Tryz.prog 90 #[.agg #[.int .i64 c.t, .int .i64 c.s, .int .i64 c.k, .int .i64 c.g, .int .u64 c.q, .slice v0 n0 cap0, .int .i64 cnt, .int .i64 l.kind, .int .i64 l.a, .int .i64 l.b, .int .u64 l.old, .int .u64 l.new, .bool l.done], .int .i64 kind, (.agg #[.int .i64 a, .int .i64 b]), .int .u64 (o : Nat), .int .u64 (x : Nat)] w fun e W' =>
      e = .returned (.tuple #[(.agg #[.int .i64 (c.t), .int .i64 (c.s), .int .i64 (c.k), .int .i64 (c.g), .int .u64 (c.q : Int), .slice v0 n0 cap0, .int .i64 (Um.nextI cnt), .int .i64 kind, .int .i64 a, .int .i64 b, .int .u64 0, .int .u64 0, .bool false]), (.agg #[.int .i64 kind, .int .i64 a, .int .i64 b, .int .u64 0, .int .u64 0, .bool false])]) ∧ Below w.heap.size w W' := by
  have hcl := fun w => rCell_any c.t c.s c.k c.g c.q a b w
  rw [show Um.cellN (Um.rt c.t c.s c.k c.g c.q) c.t c.s c.k a b = -1 from hp] at hcl
  clear hp
  go_enter Tryz.func90, Tryz.ntmps90
  go_wp2_with fail
  refine (hcl _).mono ?_
  rintro e W2 ⟨rfl, hb2⟩
  generalize hW1 : (((((w.alloc (.cells #[.int .i64 c.t, .int .i64 c.s, .int .i64 c.k, .int .i64 c.g, .int .u64 c.q, .slice v0 n0 cap0, .int .i64 cnt, .int .i64 l.kind, .int .i64 l.a, .int .i64 l.b, .int .u64 l.old, .int .u64 l.new, .bool l.done] 35)).alloc (.cells #[.int .i64 a, .int .i64 b] 31)).alloc (.cells #[.int .i64 0, .int .i64 0, .int .i64 0, .int .i64 0, .int .u64 0, .slice none 0 0, .int .i64 0, .int .i64 0, .int .i64 0, .int .i64 0, .int .u64 0, .int .u64 0, .bool false] 35)).alloc (.cells #[.int .i64 0, .int .i64 0, .int .i64 0, .int .u64 0, .int .u64 0, .bool false] 33)).alloc (.cells #[.int .i64 kind, .int .i64 a, .int .i64 b, .int .u64 0, .int .u64 0, .bool false] 33)).alloc (.cells #[.int .i64 c.t, .int .i64 c.s, .int .i64 c.k, .int .i64 c.g, .int .u64 c.q, .slice v0 n0 cap0, .int .i64 (wrap64 (cnt + 1)), .int .i64 0, .int .i64 0, .int .i64 0, .int .u64 0, .int .u64 0, .bool false] 35) = W1 at hb2
  obtain ⟨hM1, hS1, hR1, hQ1, hT1, hO1, hB1, hsz1⟩ := alloc6_at w (.cells #[.int .i64 c.t, .int .i64 c.s, .int .i64 c.k, .int .i64 c.g, .int .u64 c.q, .slice v0 n0 cap0, .int .i64 cnt, .int .i64 l.kind, .int .i64 l.a, .int .i64 l.b, .int .u64 l.old, .int .u64 l.new, .bool l.done] 35) (.cells #[.int .i64 a, .int .i64 b] 31) (.cells #[.int .i64 0, .int .i64 0, .int .i64 0, .int .i64 0, .int .u64 0, .slice none 0 0, .int .i64 0, .int .i64 0, .int .i64 0, .int .i64 0, .int .u64 0, .int .u64 0, .bool false] 35) (.cells #[.int .i64 0, .int .i64 0, .int .i64 0, .int .u64 0, .int .u64 0, .bool false] 33) (.cells #[.int .i64 kind, .int .i64 a, .int .i64 b, .int .u64 0, .int .u64 0, .bool false] 33) (.cells #[.int .i64 c.t, .int .i64 c.s, .int .i64 c.k, .int .i64 c.g, .int .u64 c.q, .slice v0 n0 cap0, .int .i64 (wrap64 (cnt + 1)), .int .i64 0, .int .i64 0, .int .i64 0, .int .u64 0, .int .u64 0, .bool false] 35) hW1
  have MB := hide ((blkAt_new hM1).below hb2)
  have SB := hide ((blkAt_new hS1).below hb2)
  have RB := hide ((blkAt_new hR1).below hb2)
  have QB := hide ((blkAt_new hQ1).below hb2)
  have TB := hide ((blkAt_new hT1).below hb2)
  have OB := hide ((blkAt_new hO1).below hb2)
  have hB2 := hB1.trans (hb2.mono hB1.size)
  have hm0 : w.heap.size ≤ w.heap.size := Nat.le_refl _
  have hr0 : w.heap.size ≤ w.heap.size + 1 + 1 := by omega
  have hq0 : w.heap.size ≤ w.heap.size + 1 + 1 + 1 := by omega
  have ht0 : w.heap.size ≤ w.heap.size + 1 + 1 + 1 + 1 := by omega
  have ho0 : w.heap.size ≤ w.heap.size + 1 + 1 + 1 + 1 + 1 := by omega
  have nOT : w.heap.size + 1 + 1 + 1 + 1 + 1 ≠ w.heap.size + 1 + 1 + 1 + 1 := by omega
  have nOQ : w.heap.size + 1 + 1 + 1 + 1 + 1 ≠ w.heap.size + 1 + 1 + 1 := by omega
  have nOR : w.heap.size + 1 + 1 + 1 + 1 + 1 ≠ w.heap.size + 1 + 1 := by omega
  have nTQ : w.heap.size + 1 + 1 + 1 + 1 ≠ w.heap.size + 1 + 1 + 1 := by omega
  have nTR : w.heap.size + 1 + 1 + 1 + 1 ≠ w.heap.size + 1 + 1 := by omega
  have nQR : w.heap.size + 1 + 1 + 1 ≠ w.heap.size + 1 + 1 := by omega
  have nTM : w.heap.size + 1 + 1 + 1 + 1 ≠ w.heap.size := by omega
  have nOM : w.heap.size + 1 + 1 + 1 + 1 + 1 ≠ w.heap.size := by omega
  clear hb2 hW1 hM1 hS1 hR1 hQ1 hT1 hO1 hB1 hsz1 hcl
  generalize w.heap.size + 1 + 1 + 1 + 1 + 1 = O at *
  generalize w.heap.size + 1 + 1 + 1 + 1 = T at *
  generalize w.heap.size + 1 + 1 + 1 = Q at *
  generalize w.heap.size + 1 + 1 = R at *
  have t0 := (unhide TB).cell 0 _ rfl
  have t1 := (unhide TB).cell 1 _ rfl
  have t2 := (unhide TB).cell 2 _ rfl
  have t3 := (unhide TB).cell 3 _ rfl
  have t4 := (unhide TB).cell 4 _ rfl
  have t5 := (unhide TB).cell 5 _ rfl
  have o0 := (unhide OB).cell 0 _ rfl
  have oz0 := (unhide OB).fz 0
  have o1 := (unhide OB).cell 1 _ rfl
  have oz1 := (unhide OB).fz 1
  have o2 := (unhide OB).cell 2 _ rfl
  have oz2 := (unhide OB).fz 2
  have o3 := (unhide OB).cell 3 _ rfl
  have oz3 := (unhide OB).fz 3
  have o4 := (unhide OB).cell 4 _ rfl
  have oz4 := (unhide OB).fz 4
  have o5 := (unhide OB).cell 5 _ rfl
  have oz5 := (unhide OB).fz 5
  have o6 := (unhide OB).cell 6 _ rfl
  have oz6 := (unhide OB).fz 6
  have o7 := (unhide OB).cell 7 _ rfl
  have oz7 := (unhide OB).fz 7
  have o8 := (unhide OB).cell 8 _ rfl
  have oz8 := (unhide OB).fz 8
  have o9 := (unhide OB).cell 9 _ rfl
  have oz9 := (unhide OB).fz 9
  have o10 := (unhide OB).cell 10 _ rfl
  have oz10 := (unhide OB).fz 10
  have o11 := (unhide OB).cell 11 _ rfl
  have oz11 := (unhide OB).fz 11
  have o12 := (unhide OB).cell 12 _ rfl
  have oz12 := (unhide OB).fz 12
  go_wp2_with fail
  have OB2 := (((((((unhide OB).put 7 (.int .i64 kind)).put 8 (.int .i64 a)).put 9 (.int .i64 b)).put 10 (.int .u64 0)).put 11 (.int .u64 0)).put 12 (.bool false))
  have TB2 := (((((((unhide TB).set (p := ⟨O, 7, none⟩) (u := .int .i64 kind) nOT).set (p := ⟨O, 8, none⟩) (u := .int .i64 a) nOT).set (p := ⟨O, 9, none⟩) (u := .int .i64 b) nOT).set (p := ⟨O, 10, none⟩) (u := .int .u64 0) nOT).set (p := ⟨O, 11, none⟩) (u := .int .u64 0) nOT).set (p := ⟨O, 12, none⟩) (u := .bool false) nOT)
  have RB2 := (((((((unhide RB).set (p := ⟨O, 7, none⟩) (u := .int .i64 kind) nOR).set (p := ⟨O, 8, none⟩) (u := .int .i64 a) nOR).set (p := ⟨O, 9, none⟩) (u := .int .i64 b) nOR).set (p := ⟨O, 10, none⟩) (u := .int .u64 0) nOR).set (p := ⟨O, 11, none⟩) (u := .int .u64 0) nOR).set (p := ⟨O, 12, none⟩) (u := .bool false) nOR)
  have QB2 := (((((((unhide QB).set (p := ⟨O, 7, none⟩) (u := .int .i64 kind) nOQ).set (p := ⟨O, 8, none⟩) (u := .int .i64 a) nOQ).set (p := ⟨O, 9, none⟩) (u := .int .i64 b) nOQ).set (p := ⟨O, 10, none⟩) (u := .int .u64 0) nOQ).set (p := ⟨O, 11, none⟩) (u := .int .u64 0) nOQ).set (p := ⟨O, 12, none⟩) (u := .bool false) nOQ)
  have hB3 := ((((((hB2.setCell (p := ⟨O, 7, none⟩) ho0 (.int .i64 kind)).setCell (p := ⟨O, 8, none⟩) ho0 (.int .i64 a)).setCell (p := ⟨O, 9, none⟩) ho0 (.int .i64 b)).setCell (p := ⟨O, 10, none⟩) ho0 (.int .u64 0)).setCell (p := ⟨O, 11, none⟩) ho0 (.int .u64 0)).setCell (p := ⟨O, 12, none⟩) ho0 (.bool false))
  simp only [List.set] at OB2
  clear t0 t1 t2 t3 t4 t5 o0 oz0 o1 oz1 o2 oz2 o3 oz3 o4 oz4 o5 oz5 o6 oz6 o7 oz7 o8 oz8 o9 oz9 o10 oz10 o11 oz11 o12 oz12 OB TB RB QB hB2
  generalize (((((W2.setCell ⟨O, 7, none⟩ (.int .i64 kind)).setCell ⟨O, 8, none⟩ (.int .i64 a)).setCell ⟨O, 9, none⟩ (.int .i64 b)).setCell ⟨O, 10, none⟩ (.int .u64 0)).setCell ⟨O, 11, none⟩ (.int .u64 0)).setCell ⟨O, 12, none⟩ (.bool false) = X at *
  have OB := hide OB2
  have TB := hide TB2
  have RB := hide RB2
  have QB := hide QB2
  clear OB2 TB2 RB2 QB2
  have t0 := (unhide TB).cell 0 _ rfl
  have t1 := (unhide TB).cell 1 _ rfl
  have t2 := (unhide TB).cell 2 _ rfl
  have t3 := (unhide TB).cell 3 _ rfl
  have t4 := (unhide TB).cell 4 _ rfl
  have t5 := (unhide TB).cell 5 _ rfl
  have o0 := (unhide OB).cell 0 _ rfl
  have o1 := (unhide OB).cell 1 _ rfl
  have o2 := (unhide OB).cell 2 _ rfl
  have o3 := (unhide OB).cell 3 _ rfl
  have o4 := (unhide OB).cell 4 _ rfl
  have o5 := (unhide OB).cell 5 _ rfl
  have o6 := (unhide OB).cell 6 _ rfl
  have o7 := (unhide OB).cell 7 _ rfl
  have o8 := (unhide OB).cell 8 _ rfl
  have o9 := (unhide OB).cell 9 _ rfl
  have o10 := (unhide OB).cell 10 _ rfl
  have o11 := (unhide OB).cell 11 _ rfl
  have o12 := (unhide OB).cell 12 _ rfl
  have r0 := (unhide RB).cell 0 _ rfl
  have rz0 := (unhide RB).fz 0
  have r1 := (unhide RB).cell 1 _ rfl
  have rz1 := (unhide RB).fz 1
  have r2 := (unhide RB).cell 2 _ rfl
  have rz2 := (unhide RB).fz 2
  have r3 := (unhide RB).cell 3 _ rfl
  have rz3 := (unhide RB).fz 3
  have r4 := (unhide RB).cell 4 _ rfl
  have rz4 := (unhide RB).fz 4
  have r5 := (unhide RB).cell 5 _ rfl
  have rz5 := (unhide RB).fz 5
  have r6 := (unhide RB).cell 6 _ rfl
  have rz6 := (unhide RB).fz 6
  have r7 := (unhide RB).cell 7 _ rfl
  have rz7 := (unhide RB).fz 7
  have r8 := (unhide RB).cell 8 _ rfl
  have rz8 := (unhide RB).fz 8
  have r9 := (unhide RB).cell 9 _ rfl
  have rz9 := (unhide RB).fz 9
  have r10 := (unhide RB).cell 10 _ rfl
  have rz10 := (unhide RB).fz 10
  have r11 := (unhide RB).cell 11 _ rfl
  have rz11 := (unhide RB).fz 11
  have r12 := (unhide RB).cell 12 _ rfl
  have rz12 := (unhide RB).fz 12
  have q0 := (unhide QB).cell 0 _ rfl
  have qz0 := (unhide QB).fz 0
  have q1 := (unhide QB).cell 1 _ rfl
  have qz1 := (unhide QB).fz 1
  have q2 := (unhide QB).cell 2 _ rfl
  have qz2 := (unhide QB).fz 2
  have q3 := (unhide QB).cell 3 _ rfl
  have qz3 := (unhide QB).fz 3
  have q4 := (unhide QB).cell 4 _ rfl
  have qz4 := (unhide QB).fz 4
  have q5 := (unhide QB).cell 5 _ rfl
  have qz5 := (unhide QB).fz 5
  go_region
  all_goals
    have RB2 := (((((((((((((((((((((unhide RB).put 0 (.int .i64 c.t)).put 1 (.int .i64 c.s)).put 2 (.int .i64 c.k)).put 3 (.int .i64 c.g)).put 4 (.int .u64 c.q)).put 5 (.slice v0 n0 cap0)).put 6 (.int .i64 (wrap64 (cnt + 1)))).put 7 (.int .i64 kind)).put 8 (.int .i64 a)).put 9 (.int .i64 b)).put 10 (.int .u64 0)).put 11 (.int .u64 0)).put 12 (.bool false)).set (p := ⟨Q, 0, none⟩) (u := .int .i64 kind) nQR).set (p := ⟨Q, 1, none⟩) (u := .int .i64 a) nQR).set (p := ⟨Q, 2, none⟩) (u := .int .i64 b) nQR).set (p := ⟨Q, 3, none⟩) (u := .int .u64 0) nQR).set (p := ⟨Q, 4, none⟩) (u := .int .u64 0) nQR).set (p := ⟨Q, 5, none⟩) (u := .bool false) nQR)).drew
    have QB2 := (((((((((((((((((((((unhide QB).set (p := ⟨R, 0, none⟩) (u := .int .i64 c.t) (Ne.symm nQR)).set (p := ⟨R, 1, none⟩) (u := .int .i64 c.s) (Ne.symm nQR)).set (p := ⟨R, 2, none⟩) (u := .int .i64 c.k) (Ne.symm nQR)).set (p := ⟨R, 3, none⟩) (u := .int .i64 c.g) (Ne.symm nQR)).set (p := ⟨R, 4, none⟩) (u := .int .u64 c.q) (Ne.symm nQR)).set (p := ⟨R, 5, none⟩) (u := .slice v0 n0 cap0) (Ne.symm nQR)).set (p := ⟨R, 6, none⟩) (u := .int .i64 (wrap64 (cnt + 1))) (Ne.symm nQR)).set (p := ⟨R, 7, none⟩) (u := .int .i64 kind) (Ne.symm nQR)).set (p := ⟨R, 8, none⟩) (u := .int .i64 a) (Ne.symm nQR)).set (p := ⟨R, 9, none⟩) (u := .int .i64 b) (Ne.symm nQR)).set (p := ⟨R, 10, none⟩) (u := .int .u64 0) (Ne.symm nQR)).set (p := ⟨R, 11, none⟩) (u := .int .u64 0) (Ne.symm nQR)).set (p := ⟨R, 12, none⟩) (u := .bool false) (Ne.symm nQR)).put 0 (.int .i64 kind)).put 1 (.int .i64 a)).put 2 (.int .i64 b)).put 3 (.int .u64 0)).put 4 (.int .u64 0)).put 5 (.bool false))).drew
    have hB4 := ((((((((((((((((((((hB3.setCell (p := ⟨R, 0, none⟩) hr0 (.int .i64 c.t)).setCell (p := ⟨R, 1, none⟩) hr0 (.int .i64 c.s)).setCell (p := ⟨R, 2, none⟩) hr0 (.int .i64 c.k)).setCell (p := ⟨R, 3, none⟩) hr0 (.int .i64 c.g)).setCell (p := ⟨R, 4, none⟩) hr0 (.int .u64 c.q)).setCell (p := ⟨R, 5, none⟩) hr0 (.slice v0 n0 cap0)).setCell (p := ⟨R, 6, none⟩) hr0 (.int .i64 (wrap64 (cnt + 1)))).setCell (p := ⟨R, 7, none⟩) hr0 (.int .i64 kind)).setCell (p := ⟨R, 8, none⟩) hr0 (.int .i64 a)).setCell (p := ⟨R, 9, none⟩) hr0 (.int .i64 b)).setCell (p := ⟨R, 10, none⟩) hr0 (.int .u64 0)).setCell (p := ⟨R, 11, none⟩) hr0 (.int .u64 0)).setCell (p := ⟨R, 12, none⟩) hr0 (.bool false)).setCell (p := ⟨Q, 0, none⟩) hq0 (.int .i64 kind)).setCell (p := ⟨Q, 1, none⟩) hq0 (.int .i64 a)).setCell (p := ⟨Q, 2, none⟩) hq0 (.int .i64 b)).setCell (p := ⟨Q, 3, none⟩) hq0 (.int .u64 0)).setCell (p := ⟨Q, 4, none⟩) hq0 (.int .u64 0)).setCell (p := ⟨Q, 5, none⟩) hq0 (.bool false))).drew
    simp only [List.set] at RB2 QB2
    have RH := hide RB2
    have QH := hide QB2
    have HB4 := hide hB4
    clear RB2 QB2 hB4 t0 t1 t2 t3 t4 t5 o0 o1 o2 o3 o4 o5 o6 o7 o8 o9 o10 o11 o12 r0 rz0 r1 rz1 r2 rz2 r3 rz3 r4 rz4 r5 rz5 r6 rz6 r7 rz7 r8 rz8 r9 rz9 r10 rz10 r11 rz11 r12 rz12 q0 qz0 q1 qz1 q2 qz2 q3 qz3 q4 qz4 q5 qz5
    go_wp2
    have RB2 := unhide RH
    have QB2 := unhide QH
    have hB4 := unhide HB4
    generalize World.drew _ = Wf at RB2 QB2 hB4 ⊢
    refine bodyPost_ret (v := .tuple #[.agg #[.int .i64 c.t, .int .i64 c.s, .int .i64 c.k, .int .i64 c.g, .int .u64 c.q, .slice v0 n0 cap0, .int .i64 (wrap64 (cnt + 1)), .int .i64 kind, .int .i64 a, .int .i64 b, .int .u64 0, .int .u64 0, .bool false], .agg #[.int .i64 kind, .int .i64 a, .int .i64 b, .int .u64 0, .int .u64 0, .bool false]]) (by simp [results, Tryz.results90, go_sem, RB2.cell 0 _ rfl, RB2.cell 1 _ rfl, RB2.cell 2 _ rfl, RB2.cell 3 _ rfl, RB2.cell 4 _ rfl, RB2.cell 5 _ rfl, RB2.cell 6 _ rfl, RB2.cell 7 _ rfl, RB2.cell 8 _ rfl, RB2.cell 9 _ rfl, RB2.cell 10 _ rfl, RB2.cell 11 _ rfl, RB2.cell 12 _ rfl, QB2.cell 0 _ rfl, QB2.cell 1 _ rfl, QB2.cell 2 _ rfl, QB2.cell 3 _ rfl, QB2.cell 4 _ rfl, QB2.cell 5 _ rfl]) rfl ?_
    exact ⟨by rw [next_eq], hB4⟩
end
section
set_option maxRecDepth 100000
open Go.RowKit Go.Sort
theorem words_cell {W : World} {g o n cap : Nat} {ws : Nat → Nat} (h : IsWords W (.slice (some ⟨g, o, none⟩) n cap) n ws) (j : Nat) (hj : j < n) : W.cell? ⟨g, o + j, none⟩ = some (.int .u64 (ws j : Nat)) := by
  rcases h with ⟨a, c, e, rfl⟩ | ⟨b, off, c, e, h0, h1, h2, h3, h4⟩
  · omega
  · simp only [Value.slice.injEq, Option.some.injEq, Addr.mk.injEq] at e
    obtain ⟨⟨rfl, rfl, _⟩, _, rfl⟩ := e
    exact (h4 j hj).1
theorem words_lt {W : World} {g o n cap : Nat} {ws : Nat → Nat} (h : IsWords W (.slice (some ⟨g, o, none⟩) n cap) n ws) (hj : 0 < n) : g < W.heap.size := by
  rcases h with ⟨a, c, e, rfl⟩ | ⟨b, off, c, e, h0, h1, h2, h3, h4⟩
  · omega
  · simp only [Value.slice.injEq, Option.some.injEq, Addr.mk.injEq] at e
    obtain ⟨⟨rfl, rfl, _⟩, _, rfl⟩ := e
    exact h3
set_option maxHeartbeats 2000000 in
theorem rTouch_1 (c : Um.Cf) (g off cap0 : Nat) (cnt : Int) (l : Um.Tch) (a b : Int) (o x p z : Nat) (ws : Nat → Nat) (w : World) (hp : c.cl a b = p) (hpn : p < c.n) (hv : IsWords w (.slice (some ⟨g, off, none⟩) c.n cap0) c.n ws) (hz : ws p = z) (hx : Um.Word x) :
    Calls Tryz.prog 90 #[.agg #[.int .i64 c.t, .int .i64 c.s, .int .i64 c.k, .int .i64 c.g, .int .u64 c.q, .slice (some ⟨g, off, none⟩) c.n cap0, .int .i64 cnt, .int .i64 l.kind, .int .i64 l.a, .int .i64 l.b, .int .u64 l.old, .int .u64 l.new, .bool l.done], .int .i64 1, (.agg #[.int .i64 a, .int .i64 b]), .int .u64 (o : Nat), .int .u64 (x : Nat)] w fun e W' =>
      ∃ v', e = .returned (.tuple #[(.agg #[.int .i64 (c.t), .int .i64 (c.s), .int .i64 (c.k), .int .i64 (c.g), .int .u64 (c.q : Int), v', .int .i64 (Um.nextI cnt), .int .i64 1, .int .i64 a, .int .i64 b, .int .u64 (z : Nat), .int .u64 (z : Nat), .bool true]), (.agg #[.int .i64 1, .int .i64 a, .int .i64 b, .int .u64 (z : Nat), .int .u64 (z : Nat), .bool true])]) ∧ IsWords W' v' c.n (Um.putW ws p z) ∧ (v' = .slice (some ⟨g, off, none⟩) c.n cap0 ∨ RFresh w W' v' c.n (Um.putW ws p z)) ∧ Below w.heap.size w W' := by
  have HV := hide hv
  have hword : w.cell? ⟨g, off + p, none⟩ = some (.int .u64 (z : Nat)) := hz ▸ words_cell hv p hpn
  have hg : g < w.heap.size := words_lt hv (by omega)
  have HZ := hide hz
  have HX := hide hx
  clear hv hz hx
  have hcl := fun w => rCell_any c.t c.s c.k c.g c.q a b w
  rw [show Um.cellN (Um.rt c.t c.s c.k c.g c.q) c.t c.s c.k a b = p from hp] at hcl
  clear hp
  go_enter Tryz.func90, Tryz.ntmps90
  go_wp2_with fail
  refine (hcl _).mono ?_
  rintro e W2 ⟨rfl, hb2⟩
  generalize hW1 : (((((w.alloc (.cells #[.int .i64 c.t, .int .i64 c.s, .int .i64 c.k, .int .i64 c.g, .int .u64 c.q, .slice (some ⟨g, off, none⟩) c.n cap0, .int .i64 cnt, .int .i64 l.kind, .int .i64 l.a, .int .i64 l.b, .int .u64 l.old, .int .u64 l.new, .bool l.done] 35)).alloc (.cells #[.int .i64 a, .int .i64 b] 31)).alloc (.cells #[.int .i64 0, .int .i64 0, .int .i64 0, .int .i64 0, .int .u64 0, .slice none 0 0, .int .i64 0, .int .i64 0, .int .i64 0, .int .i64 0, .int .u64 0, .int .u64 0, .bool false] 35)).alloc (.cells #[.int .i64 0, .int .i64 0, .int .i64 0, .int .u64 0, .int .u64 0, .bool false] 33)).alloc (.cells #[.int .i64 1, .int .i64 a, .int .i64 b, .int .u64 0, .int .u64 0, .bool false] 33)).alloc (.cells #[.int .i64 c.t, .int .i64 c.s, .int .i64 c.k, .int .i64 c.g, .int .u64 c.q, .slice (some ⟨g, off, none⟩) c.n cap0, .int .i64 (wrap64 (cnt + 1)), .int .i64 0, .int .i64 0, .int .i64 0, .int .u64 0, .int .u64 0, .bool false] 35) = W1 at hb2
  obtain ⟨hM1, hS1, hR1, hQ1, hT1, hO1, hB1, hsz1⟩ := alloc6_at w (.cells #[.int .i64 c.t, .int .i64 c.s, .int .i64 c.k, .int .i64 c.g, .int .u64 c.q, .slice (some ⟨g, off, none⟩) c.n cap0, .int .i64 cnt, .int .i64 l.kind, .int .i64 l.a, .int .i64 l.b, .int .u64 l.old, .int .u64 l.new, .bool l.done] 35) (.cells #[.int .i64 a, .int .i64 b] 31) (.cells #[.int .i64 0, .int .i64 0, .int .i64 0, .int .i64 0, .int .u64 0, .slice none 0 0, .int .i64 0, .int .i64 0, .int .i64 0, .int .i64 0, .int .u64 0, .int .u64 0, .bool false] 35) (.cells #[.int .i64 0, .int .i64 0, .int .i64 0, .int .u64 0, .int .u64 0, .bool false] 33) (.cells #[.int .i64 1, .int .i64 a, .int .i64 b, .int .u64 0, .int .u64 0, .bool false] 33) (.cells #[.int .i64 c.t, .int .i64 c.s, .int .i64 c.k, .int .i64 c.g, .int .u64 c.q, .slice (some ⟨g, off, none⟩) c.n cap0, .int .i64 (wrap64 (cnt + 1)), .int .i64 0, .int .i64 0, .int .i64 0, .int .u64 0, .int .u64 0, .bool false] 35) hW1
  have MB := hide ((blkAt_new hM1).below hb2)
  have SB := hide ((blkAt_new hS1).below hb2)
  have RB := hide ((blkAt_new hR1).below hb2)
  have QB := hide ((blkAt_new hQ1).below hb2)
  have TB := hide ((blkAt_new hT1).below hb2)
  have OB := hide ((blkAt_new hO1).below hb2)
  have hB2 := hB1.trans (hb2.mono hB1.size)
  have hm0 : w.heap.size ≤ w.heap.size := Nat.le_refl _
  have hr0 : w.heap.size ≤ w.heap.size + 1 + 1 := by omega
  have hq0 : w.heap.size ≤ w.heap.size + 1 + 1 + 1 := by omega
  have ht0 : w.heap.size ≤ w.heap.size + 1 + 1 + 1 + 1 := by omega
  have ho0 : w.heap.size ≤ w.heap.size + 1 + 1 + 1 + 1 + 1 := by omega
  have nOT : w.heap.size + 1 + 1 + 1 + 1 + 1 ≠ w.heap.size + 1 + 1 + 1 + 1 := by omega
  have nOQ : w.heap.size + 1 + 1 + 1 + 1 + 1 ≠ w.heap.size + 1 + 1 + 1 := by omega
  have nOR : w.heap.size + 1 + 1 + 1 + 1 + 1 ≠ w.heap.size + 1 + 1 := by omega
  have nTQ : w.heap.size + 1 + 1 + 1 + 1 ≠ w.heap.size + 1 + 1 + 1 := by omega
  have nTR : w.heap.size + 1 + 1 + 1 + 1 ≠ w.heap.size + 1 + 1 := by omega
  have nQR : w.heap.size + 1 + 1 + 1 ≠ w.heap.size + 1 + 1 := by omega
  have nTM : w.heap.size + 1 + 1 + 1 + 1 ≠ w.heap.size := by omega
  have nOM : w.heap.size + 1 + 1 + 1 + 1 + 1 ≠ w.heap.size := by omega
  clear hb2 hW1 hM1 hS1 hR1 hQ1 hT1 hO1 hB1 hsz1 hcl
  generalize w.heap.size + 1 + 1 + 1 + 1 + 1 = O at *
  generalize w.heap.size + 1 + 1 + 1 + 1 = T at *
  generalize w.heap.size + 1 + 1 + 1 = Q at *
  generalize w.heap.size + 1 + 1 = R at *
  have hw2 := (hB2.cell (p := ⟨g, off + p, none⟩) hg).trans hword
  have m5 := (unhide MB).cell 5 _ rfl
  have hpi : (p : Int) < (c.n : Int) := by omega
  clear hword
  have t0 := (unhide TB).cell 0 _ rfl
  have tz0 := (unhide TB).fz 0
  have t1 := (unhide TB).cell 1 _ rfl
  have tz1 := (unhide TB).fz 1
  have t2 := (unhide TB).cell 2 _ rfl
  have tz2 := (unhide TB).fz 2
  have t3 := (unhide TB).cell 3 _ rfl
  have tz3 := (unhide TB).fz 3
  have t4 := (unhide TB).cell 4 _ rfl
  have tz4 := (unhide TB).fz 4
  have t5 := (unhide TB).cell 5 _ rfl
  have tz5 := (unhide TB).fz 5
  have o0 := (unhide OB).cell 0 _ rfl
  have oz0 := (unhide OB).fz 0
  have o1 := (unhide OB).cell 1 _ rfl
  have oz1 := (unhide OB).fz 1
  have o2 := (unhide OB).cell 2 _ rfl
  have oz2 := (unhide OB).fz 2
  have o3 := (unhide OB).cell 3 _ rfl
  have oz3 := (unhide OB).fz 3
  have o4 := (unhide OB).cell 4 _ rfl
  have oz4 := (unhide OB).fz 4
  have o5 := (unhide OB).cell 5 _ rfl
  have oz5 := (unhide OB).fz 5
  have o6 := (unhide OB).cell 6 _ rfl
  have oz6 := (unhide OB).fz 6
  have o7 := (unhide OB).cell 7 _ rfl
  have oz7 := (unhide OB).fz 7
  have o8 := (unhide OB).cell 8 _ rfl
  have oz8 := (unhide OB).fz 8
  have o9 := (unhide OB).cell 9 _ rfl
  have oz9 := (unhide OB).fz 9
  have o10 := (unhide OB).cell 10 _ rfl
  have oz10 := (unhide OB).fz 10
  have o11 := (unhide OB).cell 11 _ rfl
  have oz11 := (unhide OB).fz 11
  have o12 := (unhide OB).cell 12 _ rfl
  have oz12 := (unhide OB).fz 12
  go_wp2_with fail
  have OB2 := ((((((((((unhide OB).set (p := ⟨T, 3, none⟩) (u := .int .u64 (z : Nat)) (Ne.symm nOT)).set (p := ⟨T, 4, none⟩) (u := .int .u64 (z : Nat)) (Ne.symm nOT)).set (p := ⟨T, 5, none⟩) (u := .bool true) (Ne.symm nOT)).put 7 (.int .i64 1)).put 8 (.int .i64 a)).put 9 (.int .i64 b)).put 10 (.int .u64 (z : Nat))).put 11 (.int .u64 (z : Nat))).put 12 (.bool true))
  have TB2 := ((((((((((unhide TB).put 3 (.int .u64 (z : Nat))).put 4 (.int .u64 (z : Nat))).put 5 (.bool true)).set (p := ⟨O, 7, none⟩) (u := .int .i64 1) nOT).set (p := ⟨O, 8, none⟩) (u := .int .i64 a) nOT).set (p := ⟨O, 9, none⟩) (u := .int .i64 b) nOT).set (p := ⟨O, 10, none⟩) (u := .int .u64 (z : Nat)) nOT).set (p := ⟨O, 11, none⟩) (u := .int .u64 (z : Nat)) nOT).set (p := ⟨O, 12, none⟩) (u := .bool true) nOT)
  have RB2 := ((((((((((unhide RB).set (p := ⟨T, 3, none⟩) (u := .int .u64 (z : Nat)) nTR).set (p := ⟨T, 4, none⟩) (u := .int .u64 (z : Nat)) nTR).set (p := ⟨T, 5, none⟩) (u := .bool true) nTR).set (p := ⟨O, 7, none⟩) (u := .int .i64 1) nOR).set (p := ⟨O, 8, none⟩) (u := .int .i64 a) nOR).set (p := ⟨O, 9, none⟩) (u := .int .i64 b) nOR).set (p := ⟨O, 10, none⟩) (u := .int .u64 (z : Nat)) nOR).set (p := ⟨O, 11, none⟩) (u := .int .u64 (z : Nat)) nOR).set (p := ⟨O, 12, none⟩) (u := .bool true) nOR)
  have QB2 := ((((((((((unhide QB).set (p := ⟨T, 3, none⟩) (u := .int .u64 (z : Nat)) nTQ).set (p := ⟨T, 4, none⟩) (u := .int .u64 (z : Nat)) nTQ).set (p := ⟨T, 5, none⟩) (u := .bool true) nTQ).set (p := ⟨O, 7, none⟩) (u := .int .i64 1) nOQ).set (p := ⟨O, 8, none⟩) (u := .int .i64 a) nOQ).set (p := ⟨O, 9, none⟩) (u := .int .i64 b) nOQ).set (p := ⟨O, 10, none⟩) (u := .int .u64 (z : Nat)) nOQ).set (p := ⟨O, 11, none⟩) (u := .int .u64 (z : Nat)) nOQ).set (p := ⟨O, 12, none⟩) (u := .bool true) nOQ)
  have hB3 := (((((((((hB2.setCell (p := ⟨T, 3, none⟩) ht0 (.int .u64 (z : Nat))).setCell (p := ⟨T, 4, none⟩) ht0 (.int .u64 (z : Nat))).setCell (p := ⟨T, 5, none⟩) ht0 (.bool true)).setCell (p := ⟨O, 7, none⟩) ho0 (.int .i64 1)).setCell (p := ⟨O, 8, none⟩) ho0 (.int .i64 a)).setCell (p := ⟨O, 9, none⟩) ho0 (.int .i64 b)).setCell (p := ⟨O, 10, none⟩) ho0 (.int .u64 (z : Nat))).setCell (p := ⟨O, 11, none⟩) ho0 (.int .u64 (z : Nat))).setCell (p := ⟨O, 12, none⟩) ho0 (.bool true))
  simp only [List.set] at OB2 TB2
  clear t0 tz0 t1 tz1 t2 tz2 t3 tz3 t4 tz4 t5 tz5 o0 oz0 o1 oz1 o2 oz2 o3 oz3 o4 oz4 o5 oz5 o6 oz6 o7 oz7 o8 oz8 o9 oz9 o10 oz10 o11 oz11 o12 oz12 OB TB RB QB hB2
  generalize ((((((((W2.setCell ⟨T, 3, none⟩ (.int .u64 (z : Nat))).setCell ⟨T, 4, none⟩ (.int .u64 (z : Nat))).setCell ⟨T, 5, none⟩ (.bool true)).setCell ⟨O, 7, none⟩ (.int .i64 1)).setCell ⟨O, 8, none⟩ (.int .i64 a)).setCell ⟨O, 9, none⟩ (.int .i64 b)).setCell ⟨O, 10, none⟩ (.int .u64 (z : Nat))).setCell ⟨O, 11, none⟩ (.int .u64 (z : Nat))).setCell ⟨O, 12, none⟩ (.bool true) = X at *
  have OB := hide OB2
  have TB := hide TB2
  have RB := hide RB2
  have QB := hide QB2
  clear OB2 TB2 RB2 QB2
  have t0 := (unhide TB).cell 0 _ rfl
  have t1 := (unhide TB).cell 1 _ rfl
  have t2 := (unhide TB).cell 2 _ rfl
  have t3 := (unhide TB).cell 3 _ rfl
  have t4 := (unhide TB).cell 4 _ rfl
  have t5 := (unhide TB).cell 5 _ rfl
  have o0 := (unhide OB).cell 0 _ rfl
  have o1 := (unhide OB).cell 1 _ rfl
  have o2 := (unhide OB).cell 2 _ rfl
  have o3 := (unhide OB).cell 3 _ rfl
  have o4 := (unhide OB).cell 4 _ rfl
  have o5 := (unhide OB).cell 5 _ rfl
  have o6 := (unhide OB).cell 6 _ rfl
  have o7 := (unhide OB).cell 7 _ rfl
  have o8 := (unhide OB).cell 8 _ rfl
  have o9 := (unhide OB).cell 9 _ rfl
  have o10 := (unhide OB).cell 10 _ rfl
  have o11 := (unhide OB).cell 11 _ rfl
  have o12 := (unhide OB).cell 12 _ rfl
  have r0 := (unhide RB).cell 0 _ rfl
  have rz0 := (unhide RB).fz 0
  have r1 := (unhide RB).cell 1 _ rfl
  have rz1 := (unhide RB).fz 1
  have r2 := (unhide RB).cell 2 _ rfl
  have rz2 := (unhide RB).fz 2
  have r3 := (unhide RB).cell 3 _ rfl
  have rz3 := (unhide RB).fz 3
  have r4 := (unhide RB).cell 4 _ rfl
  have rz4 := (unhide RB).fz 4
  have r5 := (unhide RB).cell 5 _ rfl
  have rz5 := (unhide RB).fz 5
  have r6 := (unhide RB).cell 6 _ rfl
  have rz6 := (unhide RB).fz 6
  have r7 := (unhide RB).cell 7 _ rfl
  have rz7 := (unhide RB).fz 7
  have r8 := (unhide RB).cell 8 _ rfl
  have rz8 := (unhide RB).fz 8
  have r9 := (unhide RB).cell 9 _ rfl
  have rz9 := (unhide RB).fz 9
  have r10 := (unhide RB).cell 10 _ rfl
  have rz10 := (unhide RB).fz 10
  have r11 := (unhide RB).cell 11 _ rfl
  have rz11 := (unhide RB).fz 11
  have r12 := (unhide RB).cell 12 _ rfl
  have rz12 := (unhide RB).fz 12
  have q0 := (unhide QB).cell 0 _ rfl
  have qz0 := (unhide QB).fz 0
  have q1 := (unhide QB).cell 1 _ rfl
  have qz1 := (unhide QB).fz 1
  have q2 := (unhide QB).cell 2 _ rfl
  have qz2 := (unhide QB).fz 2
  have q3 := (unhide QB).cell 3 _ rfl
  have qz3 := (unhide QB).fz 3
  have q4 := (unhide QB).cell 4 _ rfl
  have qz4 := (unhide QB).fz 4
  have q5 := (unhide QB).cell 5 _ rfl
  have qz5 := (unhide QB).fz 5
  go_region
  all_goals
    have RB2 := (((((((((((((((((((((unhide RB).put 0 (.int .i64 c.t)).put 1 (.int .i64 c.s)).put 2 (.int .i64 c.k)).put 3 (.int .i64 c.g)).put 4 (.int .u64 c.q)).put 5 (.slice (some ⟨g, off, none⟩) c.n cap0)).put 6 (.int .i64 (wrap64 (cnt + 1)))).put 7 (.int .i64 1)).put 8 (.int .i64 a)).put 9 (.int .i64 b)).put 10 (.int .u64 (z : Nat))).put 11 (.int .u64 (z : Nat))).put 12 (.bool true)).set (p := ⟨Q, 0, none⟩) (u := .int .i64 1) nQR).set (p := ⟨Q, 1, none⟩) (u := .int .i64 a) nQR).set (p := ⟨Q, 2, none⟩) (u := .int .i64 b) nQR).set (p := ⟨Q, 3, none⟩) (u := .int .u64 (z : Nat)) nQR).set (p := ⟨Q, 4, none⟩) (u := .int .u64 (z : Nat)) nQR).set (p := ⟨Q, 5, none⟩) (u := .bool true) nQR)).drew
    have QB2 := (((((((((((((((((((((unhide QB).set (p := ⟨R, 0, none⟩) (u := .int .i64 c.t) (Ne.symm nQR)).set (p := ⟨R, 1, none⟩) (u := .int .i64 c.s) (Ne.symm nQR)).set (p := ⟨R, 2, none⟩) (u := .int .i64 c.k) (Ne.symm nQR)).set (p := ⟨R, 3, none⟩) (u := .int .i64 c.g) (Ne.symm nQR)).set (p := ⟨R, 4, none⟩) (u := .int .u64 c.q) (Ne.symm nQR)).set (p := ⟨R, 5, none⟩) (u := .slice (some ⟨g, off, none⟩) c.n cap0) (Ne.symm nQR)).set (p := ⟨R, 6, none⟩) (u := .int .i64 (wrap64 (cnt + 1))) (Ne.symm nQR)).set (p := ⟨R, 7, none⟩) (u := .int .i64 1) (Ne.symm nQR)).set (p := ⟨R, 8, none⟩) (u := .int .i64 a) (Ne.symm nQR)).set (p := ⟨R, 9, none⟩) (u := .int .i64 b) (Ne.symm nQR)).set (p := ⟨R, 10, none⟩) (u := .int .u64 (z : Nat)) (Ne.symm nQR)).set (p := ⟨R, 11, none⟩) (u := .int .u64 (z : Nat)) (Ne.symm nQR)).set (p := ⟨R, 12, none⟩) (u := .bool true) (Ne.symm nQR)).put 0 (.int .i64 1)).put 1 (.int .i64 a)).put 2 (.int .i64 b)).put 3 (.int .u64 (z : Nat))).put 4 (.int .u64 (z : Nat))).put 5 (.bool true))).drew
    have hB4 := ((((((((((((((((((((hB3.setCell (p := ⟨R, 0, none⟩) hr0 (.int .i64 c.t)).setCell (p := ⟨R, 1, none⟩) hr0 (.int .i64 c.s)).setCell (p := ⟨R, 2, none⟩) hr0 (.int .i64 c.k)).setCell (p := ⟨R, 3, none⟩) hr0 (.int .i64 c.g)).setCell (p := ⟨R, 4, none⟩) hr0 (.int .u64 c.q)).setCell (p := ⟨R, 5, none⟩) hr0 (.slice (some ⟨g, off, none⟩) c.n cap0)).setCell (p := ⟨R, 6, none⟩) hr0 (.int .i64 (wrap64 (cnt + 1)))).setCell (p := ⟨R, 7, none⟩) hr0 (.int .i64 1)).setCell (p := ⟨R, 8, none⟩) hr0 (.int .i64 a)).setCell (p := ⟨R, 9, none⟩) hr0 (.int .i64 b)).setCell (p := ⟨R, 10, none⟩) hr0 (.int .u64 (z : Nat))).setCell (p := ⟨R, 11, none⟩) hr0 (.int .u64 (z : Nat))).setCell (p := ⟨R, 12, none⟩) hr0 (.bool true)).setCell (p := ⟨Q, 0, none⟩) hq0 (.int .i64 1)).setCell (p := ⟨Q, 1, none⟩) hq0 (.int .i64 a)).setCell (p := ⟨Q, 2, none⟩) hq0 (.int .i64 b)).setCell (p := ⟨Q, 3, none⟩) hq0 (.int .u64 (z : Nat))).setCell (p := ⟨Q, 4, none⟩) hq0 (.int .u64 (z : Nat))).setCell (p := ⟨Q, 5, none⟩) hq0 (.bool true))).drew
    simp only [List.set] at RB2 QB2
    have RH := hide RB2
    have QH := hide QB2
    have HB4 := hide hB4
    clear RB2 QB2 hB4 t0 t1 t2 t3 t4 t5 o0 o1 o2 o3 o4 o5 o6 o7 o8 o9 o10 o11 o12 r0 rz0 r1 rz1 r2 rz2 r3 rz3 r4 rz4 r5 rz5 r6 rz6 r7 rz7 r8 rz8 r9 rz9 r10 rz10 r11 rz11 r12 rz12 q0 qz0 q1 qz1 q2 qz2 q3 qz3 q4 qz4 q5 qz5
    go_wp2
    have RB2 := unhide RH
    have QB2 := unhide QH
    have hB4 := unhide HB4
    generalize World.drew _ = Wf at RB2 QB2 hB4 ⊢
    refine bodyPost_ret (v := .tuple #[.agg #[.int .i64 c.t, .int .i64 c.s, .int .i64 c.k, .int .i64 c.g, .int .u64 c.q, .slice (some ⟨g, off, none⟩) c.n cap0, .int .i64 (wrap64 (cnt + 1)), .int .i64 1, .int .i64 a, .int .i64 b, .int .u64 (z : Nat), .int .u64 (z : Nat), .bool true], .agg #[.int .i64 1, .int .i64 a, .int .i64 b, .int .u64 (z : Nat), .int .u64 (z : Nat), .bool true]]) (by simp [results, Tryz.results90, go_sem, RB2.cell 0 _ rfl, RB2.cell 1 _ rfl, RB2.cell 2 _ rfl, RB2.cell 3 _ rfl, RB2.cell 4 _ rfl, RB2.cell 5 _ rfl, RB2.cell 6 _ rfl, RB2.cell 7 _ rfl, RB2.cell 8 _ rfl, RB2.cell 9 _ rfl, RB2.cell 10 _ rfl, RB2.cell 11 _ rfl, RB2.cell 12 _ rfl, QB2.cell 0 _ rfl, QB2.cell 1 _ rfl, QB2.cell 2 _ rfl, QB2.cell 3 _ rfl, QB2.cell 4 _ rfl, QB2.cell 5 _ rfl]) rfl ?_
    refine ⟨.slice (some ⟨g, off, none⟩) c.n cap0, by rw [next_eq], ?_, .inl rfl, hB4⟩
    rw [Um.putW_id (by rw [unhide HZ])]
    exact ((unhide HV).low.below hB4).is hB4.size
end
end Go.Proofs.YtapgghciieloaaaGreat
