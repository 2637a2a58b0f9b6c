/-
  Texts that the laws stand on, merged (GateRA, GateB, GateX, JoinMath, JoinMath2, JoinMath3, JoinA).
-/
import Derived.Test.YtapgghciieloaaaGreatQ10
import Derived.Test.YtapgghciieloaaaGreatQ11
import Derived.Test.YtapgghciieloaaaGreatQ12
import Derived.Test.YtapgghciieloaaaGreatQ13
import Derived.Test.YtapgghciieloaaaGreatQ14
import Derived.Test.YtapgghciieloaaaGreatQ9
import Derived.Lib.QuietBelow
import Derived.LoopTactic

namespace Go.Proofs.YtapgghciieloaaaGreat
section
set_option maxRecDepth 100000
open Go.RowKit Go.Sort
def entV (h : Nat) (la : Option Addr) (nl cl : Nat) (o : Um.Es) : Value := .agg #[.int .u64 (h : Nat), .slice la nl cl, .bool o.tk, .int .u64 (o.s : Nat), .int .u64 (o.w : Nat), .int .i64 o.e, .bool o.en]
def leaV (sl st : Int) (o : Um.Ls) : Value := .agg #[.int .i64 sl, .int .i64 st, .bool o.lk, .int .u64 (o.s : Nat), .bool o.dn]
theorem rStep10_any (w : World) (c : Um.Cf) (h : Nat) (la : Option Addr) (nl cl : Nat) (Z : Nat → Int) (o O2 : Um.Es) (hO : O2 = Um.estep c h (fun k => inZ Z nl ((k : Nat) : Int)) o) (g cg : Nat) (hh : Um.Word h) (ho : Um.Eok c o) (hnl : nl ≤ 50) (hZ : RowOf w la nl (fun i => .int .i64 (Z i))) (hB : BlkAt w g (rowW o.m.ws c.n)) (hr : c.r = true) (h1 : c.n ≤ cg) (h2 : cg ≤ maxLen) :
    Calls Tryz.prog 47 #[entV h la nl cl o, (.agg #[.int .i64 c.t, .int .i64 c.s, .int .i64 c.k, .int .i64 c.g, .int .u64 c.q, (.slice (some ⟨g, 0, none⟩) c.n cg), .int .i64 o.m.cnt, .int .i64 o.m.l.kind, .int .i64 o.m.l.a, .int .i64 o.m.l.b, .int .u64 (o.m.l.old : Nat), .int .u64 (o.m.l.new : Nat), .bool o.m.l.done])] w fun r w' => ∃ g' cg', r = .returned (.tuple #[entV h la nl cl O2, (.agg #[.int .i64 c.t, .int .i64 c.s, .int .i64 c.k, .int .i64 c.g, .int .u64 c.q, (.slice (some ⟨g', 0, none⟩) c.n cg'), .int .i64 O2.m.cnt, .int .i64 O2.m.l.kind, .int .i64 O2.m.l.a, .int .i64 O2.m.l.b, .int .u64 (O2.m.l.old : Nat), .int .u64 (O2.m.l.new : Nat), .bool O2.m.l.done])]) ∧ c.n ≤ cg' ∧ cg' ≤ maxLen ∧ Fr w g g' ∧ BlkAt w' g' (rowW O2.m.ws c.n) ∧ Below w.heap.size w w' := by
  obtain ⟨m, tk, s, wd, er, en⟩ := o
  obtain ⟨i1, i2, i3, i4⟩ := ho
  dsimp only at *
  by_cases hd : (en || !Um.ook h c.s) = true
  · have eO : O2 = ⟨m, tk, s, wd, er, en⟩ := by rw [hO]; exact Um.estep_done hd
    subst eO
    refine (rStep10_done w c m g cg h s wd la nl cl er tk en hh i2 hd hB hr i1 h1 h2).mono ?_
    rintro r w' ⟨g', cg', e1, q1, q2, hFr, _, hG, hb⟩
    exact ⟨g', cg', e1, q1, q2, hFr, hG, hb⟩
  · obtain ⟨rfl, hn⟩ : en = false ∧ Um.ook h c.s = true := by
      cases en <;> cases hq : Um.ook h c.s <;> rw [hq] at hd <;> first | exact ⟨rfl, rfl⟩ | exact absurd rfl hd
    cases tk with
    | false =>
      obtain ⟨M, hM⟩ : ∃ M, M = Um.mtouch c m 1 4 (Um.svN h) 0 0 := ⟨_, rfl⟩
      have eO : O2 = ⟨M, decide (Um.flN h (fun k => inZ Z nl ((k : Nat) : Int)) M.l.old = 0), M.l.old, wd, Um.flN h (fun k => inZ Z nl ((k : Nat) : Int)) M.l.old, !decide (Um.flN h (fun k => inZ Z nl ((k : Nat) : Int)) M.l.old = 0)⟩ := by
        rw [hO, hM]
        unfold Um.estep
        rw [if_neg (show ¬ Um.edn c h ⟨m, false, s, wd, er, false⟩ = true from hd), if_neg (show ¬ (false = true) by decide)]
      by_cases hf : Um.flN h (fun k => inZ Z nl ((k : Nat) : Int)) M.l.old = 0
      · rw [hf] at eO
        subst eO
        refine (rStep10_look0 w c m M g cg h s wd la nl cl er hh i2 Z hn hnl hZ hf hB hr i1 h1 h2 hM).mono ?_
        rintro r w' ⟨g', cg', e1, q1, q2, hFr, _, hG, hb⟩
        exact ⟨g', cg', e1, q1, q2, hFr, hG, hb⟩
      · rw [decide_eq_false hf] at eO
        subst eO
        refine (rStep10_lookn w c m M g cg h s wd la nl cl er hh i2 Z hn hnl hZ _ rfl hf hB hr i1 h1 h2 hM).mono ?_
        rintro r w' ⟨g', cg', e1, q1, q2, hFr, _, hG, hb⟩
        exact ⟨g', cg', e1, q1, q2, hFr, hG, hb⟩
    | true =>
      obtain ⟨M, hM⟩ : ∃ M, M = Um.mtouch c m 3 4 (Um.svN h) s (Um.bzN s) := ⟨_, rfl⟩
      have eO : O2 = ⟨M, false, s, if M.l.done then Um.bzN s else wd, er, M.l.done⟩ := by
        rw [hO, hM]
        unfold Um.estep
        rw [if_neg (show ¬ Um.edn c h ⟨m, true, s, wd, er, false⟩ = true from hd), if_pos rfl]
      cases hdn : M.l.done with
      | true =>
        rw [hdn, if_pos rfl] at eO
        subst eO
        refine (rStep10_take_t w c m M g cg h s wd la nl cl er hh i2 hn hdn hB hr i1 h1 h2 hM).mono ?_
        rintro r w' ⟨g', cg', e1, q1, q2, hFr, _, hG, hb⟩
        exact ⟨g', cg', e1, q1, q2, hFr, hG, hb⟩
      | false =>
        rw [hdn, if_neg (by decide)] at eO
        subst eO
        refine (rStep10_take_f w c m M g cg h s wd la nl cl er hh i2 hn hdn hB hr i1 h1 h2 hM).mono ?_
        rintro r w' ⟨g', cg', e1, q1, q2, hFr, _, hG, hb⟩
        exact ⟨g', cg', e1, q1, q2, hFr, hG, hb⟩
theorem rGo10_any (w : World) (c : Um.Cf) (sl st : Int) (o O2 : Um.Ls) (hO : O2 = Um.lstep c sl st o) (g cg : Nat) (ho : Um.Lok c o) (hB : BlkAt w g (rowW o.m.ws c.n)) (hr : c.r = true) (h1 : c.n ≤ cg) (h2 : cg ≤ maxLen) :
    Calls Tryz.prog 55 #[leaV sl st o, (.agg #[.int .i64 c.t, .int .i64 c.s, .int .i64 c.k, .int .i64 c.g, .int .u64 c.q, (.slice (some ⟨g, 0, none⟩) c.n cg), .int .i64 o.m.cnt, .int .i64 o.m.l.kind, .int .i64 o.m.l.a, .int .i64 o.m.l.b, .int .u64 (o.m.l.old : Nat), .int .u64 (o.m.l.new : Nat), .bool o.m.l.done])] w fun r w' => ∃ g' cg', r = .returned (.tuple #[leaV sl st O2, (.agg #[.int .i64 c.t, .int .i64 c.s, .int .i64 c.k, .int .i64 c.g, .int .u64 c.q, (.slice (some ⟨g', 0, none⟩) c.n cg'), .int .i64 O2.m.cnt, .int .i64 O2.m.l.kind, .int .i64 O2.m.l.a, .int .i64 O2.m.l.b, .int .u64 (O2.m.l.old : Nat), .int .u64 (O2.m.l.new : Nat), .bool O2.m.l.done])]) ∧ c.n ≤ cg' ∧ cg' ≤ maxLen ∧ Fr w g g' ∧ BlkAt w' g' (rowW O2.m.ws c.n) ∧ Below w.heap.size w w' := by
  obtain ⟨m, lk, s, dn⟩ := o
  obtain ⟨i1, i2⟩ := ho
  dsimp only at *
  cases dn with
  | true =>
    have eO : O2 = ⟨m, lk, s, true⟩ := by rw [hO]; exact Um.lstep_done rfl
    subst eO
    refine (rGo10_done w c m g cg sl st s lk hB hr i1 h1 h2).mono ?_
    rintro r w' ⟨g', cg', e1, q1, q2, hFr, _, hG, hb⟩
    exact ⟨g', cg', e1, q1, q2, hFr, hG, hb⟩
  | false =>
    cases lk with
    | false =>
      have eO : O2 = ⟨Um.mtouch c m 1 4 sl 0 0, true, (Um.mtouch c m 1 4 sl 0 0).l.old, false⟩ := hO
      subst eO
      refine (rGo10_look w c m _ g cg sl st s hB hr i1 h1 h2 rfl).mono ?_
      rintro r w' ⟨g', cg', e1, q1, q2, hFr, _, hG, hb⟩
      exact ⟨g', cg', e1, q1, q2, hFr, hG, hb⟩
    | true =>
      have eO : O2 = ⟨Um.mtouch c m 3 4 sl s (Um.moveN s (Um.lst st s) false), false, s, (Um.mtouch c m 3 4 sl s (Um.moveN s (Um.lst st s) false)).l.done⟩ := hO
      have h8 := Um.lst_lt st s
      by_cases hs0 : st < 0
      · have e0 : Um.lst st s = Um.stN s := by unfold Um.lst; rw [if_pos (.inl hs0)]
        subst eO
        refine (rGo10_neg w c m _ g cg sl st s _ e0.symm h8 i2 hs0 hB hr i1 h1 h2 rfl).mono ?_
        rintro r w' ⟨g', cg', e1, q1, q2, hFr, _, hG, hb⟩
        exact ⟨g', cg', e1, q1, q2, hFr, hG, hb⟩
      by_cases hs7 : 7 < st
      · have e0 : Um.lst st s = Um.stN s := by unfold Um.lst; rw [if_pos (.inr hs7)]
        subst eO
        refine (rGo10_big w c m _ g cg sl st s _ e0.symm h8 i2 hs7 hB hr i1 h1 h2 rfl).mono ?_
        rintro r w' ⟨g', cg', e1, q1, q2, hFr, _, hG, hb⟩
        exact ⟨g', cg', e1, q1, q2, hFr, hG, hb⟩
      · obtain ⟨k, rfl⟩ : ∃ k : Nat, st = k := ⟨st.toNat, by omega⟩
        have e0 : Um.lst (k : Int) s = k := by unfold Um.lst; rw [if_neg (by omega)]; omega
        rw [e0] at eO h8
        subst eO
        refine (rGo10_own w c m _ g cg sl k s h8 i2 hB hr i1 h1 h2 rfl).mono ?_
        rintro r w' ⟨g', cg', e1, q1, q2, hFr, _, hG, hb⟩
        exact ⟨g', cg', e1, q1, q2, hFr, hG, hb⟩
end
section
set_option maxRecDepth 100000
open Go.RowKit Go.Sort
set_option linter.unusedVariables false
set_option linter.unusedSimpArgs false
theorem Sx.plus {bs : List Nat} {w0 w w' : World} {l e n f : List (Nat × List Value)} (h : Sx bs w0 w l e) (b : Below w.heap.size w w') (h2 : Sx [] w w' n f) (hf : ∀ p ∈ f, w.heap.size ≤ p.1) : Sx bs w0 w' (l ++ n) (e ++ f) := by
  have h' := h.adds b n h2.blk (fun p hp => (h2.low p hp).resolve_left (by simp)) h2.nd
  refine ⟨h'.off, h'.low, h'.blk, h'.nd, fun p hp => ?_, fun p hp q hq => ?_⟩
  · rcases List.mem_append.1 hp with q | q
    · exact h'.eb p q
    · exact h2.eb p q
  · rcases List.mem_append.1 hp with q1 | q1
    · exact h'.ed p q1 q hq
    · rcases List.mem_append.1 hq with q2 | q2
      · have h3 := (h.blk q q2).lt
        have h4 := hf p q1
        omega
      · exact h2.ed p q1 q q2
theorem field_stat1g (a b c d e f g : Value) (w : World) : (Instr.field 170 (.agg #[a, b, c, d, e, f, g]) 1).run Tryz.prog w = .ok b w := by simp [Instr.field, go_sem, asAgg]
section
variable {bs : List Nat} {w0 w : World} {l e : List (Nat × List Value)} {B C P : Nat} {c : Um.Cf} {m : Um.Mm} {sl st fe : Int} {h s wd : Nat} {la : Option Addr} {nl cl : Nat} {fn : Value}
set_option maxHeartbeats 4000000 in
theorem gJudge_0 (hS : Sx bs w0 w l e) (i j k : Nat) (hi : l[i]? = some (B, memL c C m)) (hj : l[j]? = some (C, rowW m.ws c.n)) (hk : l[k]? = some (P, [.int .i64 sl, .int .u64 (s : Nat), .int .u64 (h : Nat), .slice la nl cl, fn, .int .i64 fe, .int .u64 (wd : Nat)])) (hij : i ≠ j) (hik : i ≠ k) (hjk : j ≠ k) (hr : c.r = true) (hw : WordsOk c m) (hb0 : -9223372036854775808 ≤ sl) (hb1 : sl ≤ 9223372036854775807) (M : Um.Mm) (hM : M = Um.mtouch c m 1 4 sl 0 0) (Z : Nat → Int) (hh : Um.Word h) (hnl : nl ≤ 50) (hSt : StB la nl Z e) (hf : Um.flN h (fun k => inZ Z nl ((k : Nat) : Int)) M.l.old = 0) :
    Calls Tryz.prog 85 #[.pointer (some ⟨P, 0, none⟩), .pointer (some ⟨B, 0, none⟩)] w fun r w' => r = .returned (.tuple #[]) ∧ WordsOk c M ∧ Sx bs w0 w' (putL l [(i, B, memL c C M), (j, C, rowW M.ws c.n), (k, P, [.int .i64 sl, .int .u64 (M.l.old : Nat), .int .u64 (h : Nat), .slice la nl cl, .func (.func 103) #[.pointer (some ⟨P, 0, none⟩)] #[], .int .i64 0, .int .u64 (wd : Nat)])]) e := by
  have HS := hide hS
  have HI := hide (And.intro hi (And.intro hj hk))
  have hL := hS.enter3e i j k hi hj hk hij hik hjk
  have HR := hide hr
  have HW := hide hw
  have HM := hide hM
  have HBD := hide (And.intro hb0 hb1)
  have HF := hide hf
  have HH := hide hh
  clear hS hi hj hk hr hw hM hb0 hb1 hf hh
  have hS := hL
  clear hL
  go_enter Tryz.func85, Tryz.ntmps85
  go_wp2_with fail
  refine (gLookE_x hS 0 1 2 rfl rfl rfl (by decide) (by decide) (by decide) (unhide HR) (unhide HW) (unhide HBD).1 (unhide HBD).2 M (unhide HM)).mono ?_
  rintro r u ⟨rfl, hWn, hSn⟩
  clear hS
  have hS := hSn
  clear hSn
  dsimp only [putL, List.set, List.cons_append, List.nil_append] at hS
  have HW6 := hide hWn
  clear hWn
  go_wp2_with fail
  refine (gAgainst_any (hS.get 2 rfl) M.l.old Z (unhide HH) hnl (hSt.row hS)).mono ?_
  rintro r u ⟨rfl, hb⟩
  replace hS := hS.call hb
  clear hb
  rw [unhide HF]
  go_wp2_with (first | (refine ybox hS (h := ?_); clear hS; intro _ _ hS) | (refine yall hS (h := ?_); clear hS; intro _ _ hS) | refine yld hS (h := ?_) | (refine yst hS (h := ?_); clear hS; intro _ hS))
  first | go_end0 | ((try simp only [Exit.inBlock, Exit.then]); refine bodyPost_ret (results_none rfl _ _ _) rfl ?_)
  exact ⟨rfl, unhide HW6, (unhide HS).back3 i j k (unhide HI).1 (unhide HI).2.1 (unhide HI).2.2 hS⟩
set_option maxHeartbeats 4000000 in
theorem gJudge_n (hS : Sx bs w0 w l e) (i j k : Nat) (hi : l[i]? = some (B, memL c C m)) (hj : l[j]? = some (C, rowW m.ws c.n)) (hk : l[k]? = some (P, [.int .i64 sl, .int .u64 (s : Nat), .int .u64 (h : Nat), .slice la nl cl, fn, .int .i64 fe, .int .u64 (wd : Nat)])) (hij : i ≠ j) (hik : i ≠ k) (hjk : j ≠ k) (hr : c.r = true) (hw : WordsOk c m) (hb0 : -9223372036854775808 ≤ sl) (hb1 : sl ≤ 9223372036854775807) (M : Um.Mm) (hM : M = Um.mtouch c m 1 4 sl 0 0) (Z : Nat → Int) (hh : Um.Word h) (hnl : nl ≤ 50) (hSt : StB la nl Z e) (fe2 : Int) (hf : Um.flN h (fun k => inZ Z nl ((k : Nat) : Int)) M.l.old = fe2) (hf0 : fe2 ≠ 0) :
    Calls Tryz.prog 85 #[.pointer (some ⟨P, 0, none⟩), .pointer (some ⟨B, 0, none⟩)] w fun r w' => r = .returned (.tuple #[]) ∧ WordsOk c M ∧ Sx bs w0 w' (putL l [(i, B, memL c C M), (j, C, rowW M.ws c.n), (k, P, [.int .i64 sl, .int .u64 (M.l.old : Nat), .int .u64 (h : Nat), .slice la nl cl, .nilFunc, .int .i64 fe2, .int .u64 (wd : Nat)])]) e := by
  have f1 : ¬ fe2 = 0 := hf0
  have f2 : (fe2 != 0) = true := by simpa using f1
  clear hf0
  have HS := hide hS
  have HI := hide (And.intro hi (And.intro hj hk))
  have hL := hS.enter3e i j k hi hj hk hij hik hjk
  have HR := hide hr
  have HW := hide hw
  have HM := hide hM
  have HBD := hide (And.intro hb0 hb1)
  have HF := hide hf
  have HH := hide hh
  clear hS hi hj hk hr hw hM hb0 hb1 hf hh
  have hS := hL
  clear hL
  go_enter Tryz.func85, Tryz.ntmps85
  go_wp2_with fail
  refine (gLookE_x hS 0 1 2 rfl rfl rfl (by decide) (by decide) (by decide) (unhide HR) (unhide HW) (unhide HBD).1 (unhide HBD).2 M (unhide HM)).mono ?_
  rintro r u ⟨rfl, hWn, hSn⟩
  clear hS
  have hS := hSn
  clear hSn
  dsimp only [putL, List.set, List.cons_append, List.nil_append] at hS
  have HW6 := hide hWn
  clear hWn
  go_wp2_with fail
  refine (gAgainst_any (hS.get 2 rfl) M.l.old Z (unhide HH) hnl (hSt.row hS)).mono ?_
  rintro r u ⟨rfl, hb⟩
  replace hS := hS.call hb
  clear hb
  rw [unhide HF]
  go_wp2_with (first | (refine ybox hS (h := ?_); clear hS; intro _ _ hS) | (refine yall hS (h := ?_); clear hS; intro _ _ hS) | refine yld hS (h := ?_) | (refine yst hS (h := ?_); clear hS; intro _ hS))
  first | go_end0 | ((try simp only [Exit.inBlock, Exit.then]); refine bodyPost_ret (results_none rfl _ _ _) rfl ?_)
  exact ⟨rfl, unhide HW6, (unhide HS).back3 i j k (unhide HI).1 (unhide HI).2.1 (unhide HI).2.2 hS⟩
set_option maxHeartbeats 4000000 in
theorem gTake_t (hS : Sx bs w0 w l e) (i j k : Nat) (hi : l[i]? = some (B, memL c C m)) (hj : l[j]? = some (C, rowW m.ws c.n)) (hk : l[k]? = some (P, [.int .i64 sl, .int .u64 (s : Nat), .int .u64 (h : Nat), .slice la nl cl, fn, .int .i64 fe, .int .u64 (wd : Nat)])) (hij : i ≠ j) (hik : i ≠ k) (hjk : j ≠ k) (hr : c.r = true) (hw : WordsOk c m) (hb0 : -9223372036854775808 ≤ sl) (hb1 : sl ≤ 9223372036854775807) (M : Um.Mm) (hM : M = Um.mtouch c m 3 4 sl s (Um.bzN s)) (hs : Um.Word s) (hd : M.l.done = true) :
    Calls Tryz.prog 103 #[.pointer (some ⟨P, 0, none⟩), .pointer (some ⟨B, 0, none⟩)] w fun r w' => r = .returned (.tuple #[]) ∧ WordsOk c M ∧ Sx bs w0 w' (putL l [(i, B, memL c C M), (j, C, rowW M.ws c.n), (k, P, [.int .i64 sl, .int .u64 (s : Nat), .int .u64 (h : Nat), .slice la nl cl, .nilFunc, .int .i64 fe, .int .u64 ((Um.bzN s : Nat) : Int)])]) e := by
  have HS := hide hS
  have HI := hide (And.intro hi (And.intro hj hk))
  have hL := hS.enter3 i j k hi hj hk hij hik hjk
  have HR := hide hr
  have HW := hide hw
  have HM := hide hM
  have HBD := hide (And.intro hb0 hb1)
  have HSW := hide hs
  have HD := hide hd
  clear hS hi hj hk hr hw hM hb0 hb1 hs hd
  have hS := hL
  clear hL
  have hf1 := field_stat1g
  go_enter Tryz.func103, Tryz.ntmps103
  go_wp2_with fail
  obtain ⟨u, rfl⟩ := nameW hS
  have kP := cell_regrown ((hS.get 2 rfl).cell 1 _ rfl)
  have HMV := hide (fun d os => Calls.regrown_of (gMovedE_b ((hS.call (below_regrown u d os)).get 2 rfl) ((Um.part s 27 3 : Nat) : Int) true (unhide HSW)))
  rw [show Um.moveN s (((Um.part s 27 3 : Nat) : Int) % 8).toNat true = Um.bzN s by rw [st_mod]; exact Um.move_bz s] at HMV
  have HSQ := hide hS
  clear hS
  refine wp_region_quiet_below (by kernel_rfl) (by kernel_rfl) ?_
  repeat (go_big_quiet_step (first | (go_at_call 120; exact Calls.regrown_of (unpack_any s _ (unhide HSW))) | (go_at_call 121; exact (unhide HMV) _ _)))
  refine wpQuiet_nil ?_
  intro _ hw'
  obtain ⟨⟨dq, osq⟩, hw''⟩ := hw'
  subst hw''
  have hS := (unhide HSQ).call (below_regrown u dq osq)
  clear HMV HSQ kP
  generalize grow (redrawn u dq) osq = u9 at *
  go_wp2_with (first | (refine ybox hS (h := ?_); clear hS; intro _ _ hS) | (refine yall hS (h := ?_); clear hS; intro _ _ hS) | refine yld hS (h := ?_) | (refine yst hS (h := ?_); clear hS; intro _ hS))
  refine (gSwapE_x hS 0 1 2 rfl rfl rfl (by decide) (by decide) (by decide) (unhide HR) (unhide HW) (unhide HBD).1 (unhide HBD).2 (Um.bzN s) (Um.bz_word (unhide HSW)) M (unhide HM)).mono ?_
  rintro r u ⟨rfl, hWn, hSn⟩
  clear hS
  have hS := hSn
  clear hSn
  dsimp only [putL, List.set, List.cons_append, List.nil_append] at hS
  have HW6 := hide hWn
  clear hWn
  rw [unhide HD]
  go_wp2_with (first | (refine ybox hS (h := ?_); clear hS; intro _ _ hS) | (refine yall hS (h := ?_); clear hS; intro _ _ hS) | refine yld hS (h := ?_) | (refine yst hS (h := ?_); clear hS; intro _ hS))
  first | go_end0 | ((try simp only [Exit.inBlock, Exit.then]); refine bodyPost_ret (results_none rfl _ _ _) rfl ?_)
  exact ⟨rfl, unhide HW6, (unhide HS).back3 i j k (unhide HI).1 (unhide HI).2.1 (unhide HI).2.2 hS⟩
set_option maxHeartbeats 4000000 in
theorem gTake_f (hS : Sx bs w0 w l e) (i j k : Nat) (hi : l[i]? = some (B, memL c C m)) (hj : l[j]? = some (C, rowW m.ws c.n)) (hk : l[k]? = some (P, [.int .i64 sl, .int .u64 (s : Nat), .int .u64 (h : Nat), .slice la nl cl, fn, .int .i64 fe, .int .u64 (wd : Nat)])) (hij : i ≠ j) (hik : i ≠ k) (hjk : j ≠ k) (hr : c.r = true) (hw : WordsOk c m) (hb0 : -9223372036854775808 ≤ sl) (hb1 : sl ≤ 9223372036854775807) (M : Um.Mm) (hM : M = Um.mtouch c m 3 4 sl s (Um.bzN s)) (hs : Um.Word s) (hd : M.l.done = false) :
    Calls Tryz.prog 103 #[.pointer (some ⟨P, 0, none⟩), .pointer (some ⟨B, 0, none⟩)] w fun r w' => r = .returned (.tuple #[]) ∧ WordsOk c M ∧ Sx bs w0 w' (putL l [(i, B, memL c C M), (j, C, rowW M.ws c.n), (k, P, [.int .i64 sl, .int .u64 (s : Nat), .int .u64 (h : Nat), .slice la nl cl, .func (.func 85) #[.pointer (some ⟨P, 0, none⟩)] #[], .int .i64 fe, .int .u64 (wd : Nat)])]) e := by
  have HS := hide hS
  have HI := hide (And.intro hi (And.intro hj hk))
  have hL := hS.enter3 i j k hi hj hk hij hik hjk
  have HR := hide hr
  have HW := hide hw
  have HM := hide hM
  have HBD := hide (And.intro hb0 hb1)
  have HSW := hide hs
  have HD := hide hd
  clear hS hi hj hk hr hw hM hb0 hb1 hs hd
  have hS := hL
  clear hL
  have hf1 := field_stat1g
  go_enter Tryz.func103, Tryz.ntmps103
  go_wp2_with fail
  obtain ⟨u, rfl⟩ := nameW hS
  have kP := cell_regrown ((hS.get 2 rfl).cell 1 _ rfl)
  have HMV := hide (fun d os => Calls.regrown_of (gMovedE_b ((hS.call (below_regrown u d os)).get 2 rfl) ((Um.part s 27 3 : Nat) : Int) true (unhide HSW)))
  rw [show Um.moveN s (((Um.part s 27 3 : Nat) : Int) % 8).toNat true = Um.bzN s by rw [st_mod]; exact Um.move_bz s] at HMV
  have HSQ := hide hS
  clear hS
  refine wp_region_quiet_below (by kernel_rfl) (by kernel_rfl) ?_
  repeat (go_big_quiet_step (first | (go_at_call 120; exact Calls.regrown_of (unpack_any s _ (unhide HSW))) | (go_at_call 121; exact (unhide HMV) _ _)))
  refine wpQuiet_nil ?_
  intro _ hw'
  obtain ⟨⟨dq, osq⟩, hw''⟩ := hw'
  subst hw''
  have hS := (unhide HSQ).call (below_regrown u dq osq)
  clear HMV HSQ kP
  generalize grow (redrawn u dq) osq = u9 at *
  go_wp2_with (first | (refine ybox hS (h := ?_); clear hS; intro _ _ hS) | (refine yall hS (h := ?_); clear hS; intro _ _ hS) | refine yld hS (h := ?_) | (refine yst hS (h := ?_); clear hS; intro _ hS))
  refine (gSwapE_x hS 0 1 2 rfl rfl rfl (by decide) (by decide) (by decide) (unhide HR) (unhide HW) (unhide HBD).1 (unhide HBD).2 (Um.bzN s) (Um.bz_word (unhide HSW)) M (unhide HM)).mono ?_
  rintro r u ⟨rfl, hWn, hSn⟩
  clear hS
  have hS := hSn
  clear hSn
  dsimp only [putL, List.set, List.cons_append, List.nil_append] at hS
  have HW6 := hide hWn
  clear hWn
  rw [unhide HD]
  go_wp2_with (first | (refine ybox hS (h := ?_); clear hS; intro _ _ hS) | (refine yall hS (h := ?_); clear hS; intro _ _ hS) | refine yld hS (h := ?_) | (refine yst hS (h := ?_); clear hS; intro _ hS))
  first | go_end0 | ((try simp only [Exit.inBlock, Exit.then]); refine bodyPost_ret (results_none rfl _ _ _) rfl ?_)
  exact ⟨rfl, unhide HW6, (unhide HS).back3 i j k (unhide HI).1 (unhide HI).2.1 (unhide HI).2.2 hS⟩
set_option maxHeartbeats 2000000 in
theorem gStep_judge {Q : World → Prop} (hS : Sx bs w0 w l e) (i j k : Nat) (hi : l[i]? = some (B, memL c C m)) (hj : l[j]? = some (C, rowW m.ws c.n)) (hk : l[k]? = some (P, [.int .i64 sl, .int .u64 (s : Nat), .int .u64 (h : Nat), .slice la nl cl, .func (.func 85) #[.pointer (some ⟨P, 0, none⟩)] #[], .int .i64 fe, .int .u64 (wd : Nat)])) (hij : i ≠ j) (hr : c.r = true) (hw : WordsOk c m) (hh : Um.Word h) (hn : Um.ook h c.s = true) (hC : ∀ w1, Below w.heap.size w w1 → Calls Tryz.prog 85 #[.pointer (some ⟨P, 0, none⟩), .pointer (some ⟨B, 0, none⟩)] w1 fun r w' => r = .returned (.tuple #[]) ∧ Q w') :
    Calls Tryz.prog 86 #[.pointer (some ⟨P, 0, none⟩), .pointer (some ⟨B, 0, none⟩)] w fun r w' => r = .returned (.tuple #[]) ∧ Q w' := by
  have HD := hide (gDone_f _ _ _ hS i j k hi hj hk hij hr hw hh)
  rw [hn] at HD
  have HC := hide hC
  have HB := hide (hS.get k hk)
  clear hC hS hi hj hk hij hr hw hh hn
  go_enter Tryz.func86, Tryz.ntmps86
  go_wp2_with fail
  refine (unhide HD).mono ?_
  rintro r u ⟨rfl, hb⟩
  have h2 := ((unhide HB).below hb).cell 4 _ rfl
  have HBL := hide hb
  clear HD hb
  go_wp2_with fail
  refine ((unhide HC) _ (unhide HBL)).mono ?_
  rintro r u2 ⟨rfl, hQ⟩
  have H2 := hide hQ
  clear hQ h2 HC HBL
  go_wp2
  go_end0
  exact ⟨rfl, unhide H2⟩
set_option maxHeartbeats 2000000 in
theorem gStep_take {Q : World → Prop} (hS : Sx bs w0 w l e) (i j k : Nat) (hi : l[i]? = some (B, memL c C m)) (hj : l[j]? = some (C, rowW m.ws c.n)) (hk : l[k]? = some (P, [.int .i64 sl, .int .u64 (s : Nat), .int .u64 (h : Nat), .slice la nl cl, .func (.func 103) #[.pointer (some ⟨P, 0, none⟩)] #[], .int .i64 fe, .int .u64 (wd : Nat)])) (hij : i ≠ j) (hr : c.r = true) (hw : WordsOk c m) (hh : Um.Word h) (hn : Um.ook h c.s = true) (hC : ∀ w1, Below w.heap.size w w1 → Calls Tryz.prog 103 #[.pointer (some ⟨P, 0, none⟩), .pointer (some ⟨B, 0, none⟩)] w1 fun r w' => r = .returned (.tuple #[]) ∧ Q w') :
    Calls Tryz.prog 86 #[.pointer (some ⟨P, 0, none⟩), .pointer (some ⟨B, 0, none⟩)] w fun r w' => r = .returned (.tuple #[]) ∧ Q w' := by
  have HD := hide (gDone_f _ _ _ hS i j k hi hj hk hij hr hw hh)
  rw [hn] at HD
  have HC := hide hC
  have HB := hide (hS.get k hk)
  clear hC hS hi hj hk hij hr hw hh hn
  go_enter Tryz.func86, Tryz.ntmps86
  go_wp2_with fail
  refine (unhide HD).mono ?_
  rintro r u ⟨rfl, hb⟩
  have h2 := ((unhide HB).below hb).cell 4 _ rfl
  have HBL := hide hb
  clear HD hb
  go_wp2_with fail
  refine ((unhide HC) _ (unhide HBL)).mono ?_
  rintro r u2 ⟨rfl, hQ⟩
  have H2 := hide hQ
  clear hQ h2 HC HBL
  go_wp2
  go_end0
  exact ⟨rfl, unhide H2⟩
set_option maxHeartbeats 2000000 in
theorem gStep_done (hS : Sx bs w0 w l e) (i j k : Nat) (hi : l[i]? = some (B, memL c C m)) (hj : l[j]? = some (C, rowW m.ws c.n)) (hk : l[k]? = some (P, [.int .i64 sl, .int .u64 (s : Nat), .int .u64 (h : Nat), .slice la nl cl, fn, .int .i64 fe, .int .u64 (wd : Nat)])) (hij : i ≠ j) (hr : c.r = true) (hw : WordsOk c m) (hh : Um.Word h) (hD : Calls Tryz.prog 87 #[.pointer (some ⟨P, 0, none⟩), .pointer (some ⟨B, 0, none⟩)] w fun r w' => r = .returned (.bool true) ∧ Below w.heap.size w w') :
    Calls Tryz.prog 86 #[.pointer (some ⟨P, 0, none⟩), .pointer (some ⟨B, 0, none⟩)] w fun r w' => r = .returned (.tuple #[]) ∧ Below w.heap.size w w' := by
  have HD := hide hD
  clear hD hS hi hj hk hij hr hw hh
  go_enter Tryz.func86, Tryz.ntmps86
  go_wp2_with fail
  refine (unhide HD).mono ?_
  rintro r u ⟨rfl, hb⟩
  clear HD
  go_wp2
  go_end0
  exact ⟨rfl, hb⟩
set_option maxHeartbeats 1000000 in
theorem gNewLeave_x (hS : Sx bs w0 w l e) (sl st : Int) :
    Calls Tryz.prog 146 #[.int .i64 sl, .int .i64 st] w fun r w' => ∃ P, r = .returned (.pointer (some ⟨P, 0, none⟩)) ∧ Sx bs w0 w' (l ++ [(P, [.int .i64 sl, .int .u64 (0 : Nat), .int .i64 st, .func (.func 153) #[.pointer (some ⟨P, 0, none⟩)] #[]])]) e := by
  have HS := hide hS
  clear hS
  have hS := Sx.new w
  go_enter Tryz.func146, Tryz.ntmps146
  go_wp2_with (first | (refine ybox hS (h := ?_); clear hS; intro _ _ hS) | (refine yall hS (h := ?_); clear hS; intro _ _ hS) | refine yld hS (h := ?_) | (refine yst hS (h := ?_); clear hS; intro _ hS))
  go_ret
  obtain ⟨P, rfl⟩ := nameB hS 0 rfl
  exact ⟨P, rfl, (unhide HS).add hS.bel (hS.get 0 rfl) ((hS.low _ (List.mem_of_getElem? (i := 0) rfl)).resolve_left (by simp))⟩
set_option maxHeartbeats 1000000 in
theorem gTarget_in (hB : BlkAt w P [.int .i64 sl, .int .u64 (s : Nat), .int .i64 st, fn]) (h0 : 0 ≤ st) (h1 : st ≤ 7) : Calls Tryz.prog 173 #[.pointer (some ⟨P, 0, none⟩)] w fun r w' => r = .returned (.int .i64 st) ∧ Below w.heap.size w w' := by
  have k2 := hB.cell 2 _ rfl
  have d1 : decide (st < 0) = false := decide_eq_false (by omega)
  have d2 : decide (7 < st) = false := decide_eq_false (by omega)
  have d3 : ¬ st < 0 := by omega
  have d4 : ¬ 7 < st := by omega
  clear hB h0 h1
  go_enter Tryz.func173, Tryz.ntmps173
  go_wp2
  go_ret
  exact ⟨rfl, Below.refl _ _⟩
set_option maxHeartbeats 1000000 in
theorem gTarget_neg (hB : BlkAt w P [.int .i64 sl, .int .u64 (s : Nat), .int .i64 st, fn]) (hs : Um.Word s) (h0 : st < 0) : Calls Tryz.prog 173 #[.pointer (some ⟨P, 0, none⟩)] w fun r w' => r = .returned (.int .i64 ((Um.part s 27 3 : Nat) : Int)) ∧ Below w.heap.size w w' := by
  have k2 := hB.cell 2 _ rfl
  have k1 := hB.cell 1 _ rfl
  have hf1 := field_stat1g
  have d1 : decide (st < 0) = true := decide_eq_true h0
  have HC := hide (fun w => unpack_any s w hs)
  clear hB hs
  go_enter Tryz.func173, Tryz.ntmps173
  go_wp2_with fail
  refine ((unhide HC) _).mono ?_
  rintro r u ⟨rfl, hb⟩
  clear HC
  go_wp2
  go_ret
  exact ⟨rfl, hb⟩
set_option maxHeartbeats 1000000 in
theorem gTarget_big (hB : BlkAt w P [.int .i64 sl, .int .u64 (s : Nat), .int .i64 st, fn]) (hs : Um.Word s) (h0 : 7 < st) : Calls Tryz.prog 173 #[.pointer (some ⟨P, 0, none⟩)] w fun r w' => r = .returned (.int .i64 ((Um.part s 27 3 : Nat) : Int)) ∧ Below w.heap.size w w' := by
  have k2 := hB.cell 2 _ rfl
  have k1 := hB.cell 1 _ rfl
  have hf1 := field_stat1g
  have d1 : decide (st < 0) = false := decide_eq_false (by omega)
  have d3 : ¬ st < 0 := by omega
  have d2 : decide (7 < st) = true := decide_eq_true h0
  have HC := hide (fun w => unpack_any s w hs)
  clear hB hs
  go_enter Tryz.func173, Tryz.ntmps173
  go_wp2_with fail
  refine ((unhide HC) _).mono ?_
  rintro r u ⟨rfl, hb⟩
  clear HC
  go_wp2
  go_ret
  exact ⟨rfl, hb⟩
theorem gTarget_any (hB : BlkAt w P [.int .i64 sl, .int .u64 (s : Nat), .int .i64 st, fn]) (hs : Um.Word s) : Calls Tryz.prog 173 #[.pointer (some ⟨P, 0, none⟩)] w fun r w' => r = .returned (.int .i64 ((Um.lst st s : Nat) : Int)) ∧ Below w.heap.size w w' := by
  by_cases h0 : st < 0
  · rw [show Um.lst st s = Um.part s 27 3 by unfold Um.lst; rw [if_pos (.inl h0)]; rfl]
    exact gTarget_neg hB hs h0
  by_cases h7 : 7 < st
  · rw [show Um.lst st s = Um.part s 27 3 by unfold Um.lst; rw [if_pos (.inr h7)]; rfl]
    exact gTarget_big hB hs h7
  · rw [show ((Um.lst st s : Nat) : Int) = st by unfold Um.lst; rw [if_neg (by omega)]; omega]
    exact gTarget_in hB (by omega) (by omega)
set_option maxHeartbeats 4000000 in
theorem gAsk_x (hS : Sx bs w0 w l e) (i j k : Nat) (hi : l[i]? = some (B, memL c C m)) (hj : l[j]? = some (C, rowW m.ws c.n)) (hk : l[k]? = some (P, [.int .i64 sl, .int .u64 (s : Nat), .int .i64 st, fn])) (hij : i ≠ j) (hik : i ≠ k) (hjk : j ≠ k) (hr : c.r = true) (hw : WordsOk c m) (hb0 : -9223372036854775808 ≤ sl) (hb1 : sl ≤ 9223372036854775807) (M : Um.Mm) (hM : M = Um.mtouch c m 1 4 sl 0 0) :
    Calls Tryz.prog 153 #[.pointer (some ⟨P, 0, none⟩), .pointer (some ⟨B, 0, none⟩)] w fun r w' => r = .returned (.tuple #[]) ∧ WordsOk c M ∧ Sx bs w0 w' (putL l [(i, B, memL c C M), (j, C, rowW M.ws c.n), (k, P, [.int .i64 sl, .int .u64 (M.l.old : Nat), .int .i64 st, .func (.func 164) #[.pointer (some ⟨P, 0, none⟩)] #[]])]) e := by
  have HS := hide hS
  have HI := hide (And.intro hi (And.intro hj hk))
  have hL := hS.enter3 i j k hi hj hk hij hik hjk
  have HR := hide hr
  have HW := hide hw
  have HM := hide hM
  have HBD := hide (And.intro hb0 hb1)
  clear hS hi hj hk hr hw hM hb0 hb1 
  have hS := hL
  clear hL
  go_enter Tryz.func153, Tryz.ntmps153
  go_wp2_with fail
  refine (gLookL_x hS 0 1 2 rfl rfl rfl (by decide) (by decide) (by decide) (unhide HR) (unhide HW) (unhide HBD).1 (unhide HBD).2 M (unhide HM)).mono ?_
  rintro r u ⟨rfl, hWn, hSn⟩
  clear hS
  have hS := hSn
  clear hSn
  dsimp only [putL, List.set, List.cons_append, List.nil_append] at hS
  have HW6 := hide hWn
  clear hWn
  go_wp2_with (first | (refine ybox hS (h := ?_); clear hS; intro _ _ hS) | (refine yall hS (h := ?_); clear hS; intro _ _ hS) | refine yld hS (h := ?_) | (refine yst hS (h := ?_); clear hS; intro _ hS))
  first | go_end0 | ((try simp only [Exit.inBlock, Exit.then]); refine bodyPost_ret (results_none rfl _ _ _) rfl ?_)
  exact ⟨rfl, unhide HW6, (unhide HS).back3 i j k (unhide HI).1 (unhide HI).2.1 (unhide HI).2.2 hS⟩
set_option maxHeartbeats 4000000 in
theorem gLay_t (hS : Sx bs w0 w l e) (i j k : Nat) (hi : l[i]? = some (B, memL c C m)) (hj : l[j]? = some (C, rowW m.ws c.n)) (hk : l[k]? = some (P, [.int .i64 sl, .int .u64 (s : Nat), .int .i64 st, fn])) (hij : i ≠ j) (hik : i ≠ k) (hjk : j ≠ k) (hr : c.r = true) (hw : WordsOk c m) (hb0 : -9223372036854775808 ≤ sl) (hb1 : sl ≤ 9223372036854775807) (M : Um.Mm) (hM : M = Um.mtouch c m 3 4 sl s (Um.moveN s (Um.lst st s) false)) (hs : Um.Word s) (hd : M.l.done = true) :
    Calls Tryz.prog 164 #[.pointer (some ⟨P, 0, none⟩), .pointer (some ⟨B, 0, none⟩)] w fun r w' => r = .returned (.tuple #[]) ∧ WordsOk c M ∧ Sx bs w0 w' (putL l [(i, B, memL c C M), (j, C, rowW M.ws c.n), (k, P, [.int .i64 sl, .int .u64 (s : Nat), .int .i64 st, .nilFunc])]) e := by
  have HS := hide hS
  have HI := hide (And.intro hi (And.intro hj hk))
  have hL := hS.enter3 i j k hi hj hk hij hik hjk
  have HR := hide hr
  have HW := hide hw
  have HM := hide hM
  have HBD := hide (And.intro hb0 hb1)
  have HSW := hide hs
  have HD := hide hd
  clear hS hi hj hk hr hw hM hb0 hb1 hs hd
  have hS := hL
  clear hL
  have HP := hide (hS.get 2 rfl)
  go_enter Tryz.func164, Tryz.ntmps164
  go_wp2_with fail
  have HS3 := hide hS
  clear hS
  go_region_held3 (fun w' => BlkAt w' P [.int .i64 sl, .int .u64 (s : Nat), .int .i64 st, fn]) (first | exact (unhide HP).drew | exact BlkAt.below (by assumption) (by assumption) | assumption) (first | (go_at_call 173; refine (gTarget_any (by assumption) (unhide HSW)).mono ?_; rintro e u5 ⟨rfl, hb5⟩) | (go_at_call 121; refine (gMovedL_b (by assumption) ((Um.lst st s : Nat) : Int) false (unhide HSW)).mono ?_; rintro e u6 ⟨rfl, hb6⟩) | (go_at_call 122; rw [lst_mod]; refine (gSwapL_x (((unhide HS3).undrew hb5).call hb6) 0 1 2 rfl rfl rfl (by decide) (by decide) (by decide) (unhide HR) (unhide HW) (unhide HBD).1 (unhide HBD).2 (Um.moveN s (Um.lst st s) false) (Um.move_word (unhide HSW) (Um.lst_lt _ _)) M (unhide HM)).mono ?_; rintro e u7 ⟨rfl, hW6, hS6⟩; have hP6 := hS6.get 2 rfl))
  have hS := hS6
  have HW6 := hide hW6
  clear hS6 hP6 hW6 HS3 HP
  dsimp only [putL, List.set] at hS
  simp only [unhide HD]
  go_wp2_with (first | (refine ybox hS (h := ?_); clear hS; intro _ _ hS) | (refine yall hS (h := ?_); clear hS; intro _ _ hS) | refine yld hS (h := ?_) | (refine yst hS (h := ?_); clear hS; intro _ hS))
  first | go_end0 | ((try simp only [Exit.inBlock, Exit.then]); refine bodyPost_ret (results_none rfl _ _ _) rfl ?_)
  exact ⟨rfl, unhide HW6, (unhide HS).back3 i j k (unhide HI).1 (unhide HI).2.1 (unhide HI).2.2 hS⟩
set_option maxHeartbeats 4000000 in
theorem gLay_f (hS : Sx bs w0 w l e) (i j k : Nat) (hi : l[i]? = some (B, memL c C m)) (hj : l[j]? = some (C, rowW m.ws c.n)) (hk : l[k]? = some (P, [.int .i64 sl, .int .u64 (s : Nat), .int .i64 st, fn])) (hij : i ≠ j) (hik : i ≠ k) (hjk : j ≠ k) (hr : c.r = true) (hw : WordsOk c m) (hb0 : -9223372036854775808 ≤ sl) (hb1 : sl ≤ 9223372036854775807) (M : Um.Mm) (hM : M = Um.mtouch c m 3 4 sl s (Um.moveN s (Um.lst st s) false)) (hs : Um.Word s) (hd : M.l.done = false) :
    Calls Tryz.prog 164 #[.pointer (some ⟨P, 0, none⟩), .pointer (some ⟨B, 0, none⟩)] w fun r w' => r = .returned (.tuple #[]) ∧ WordsOk c M ∧ Sx bs w0 w' (putL l [(i, B, memL c C M), (j, C, rowW M.ws c.n), (k, P, [.int .i64 sl, .int .u64 (s : Nat), .int .i64 st, .func (.func 153) #[.pointer (some ⟨P, 0, none⟩)] #[]])]) e := by
  have HS := hide hS
  have HI := hide (And.intro hi (And.intro hj hk))
  have hL := hS.enter3 i j k hi hj hk hij hik hjk
  have HR := hide hr
  have HW := hide hw
  have HM := hide hM
  have HBD := hide (And.intro hb0 hb1)
  have HSW := hide hs
  have HD := hide hd
  clear hS hi hj hk hr hw hM hb0 hb1 hs hd
  have hS := hL
  clear hL
  have HP := hide (hS.get 2 rfl)
  go_enter Tryz.func164, Tryz.ntmps164
  go_wp2_with fail
  have HS3 := hide hS
  clear hS
  go_region_held3 (fun w' => BlkAt w' P [.int .i64 sl, .int .u64 (s : Nat), .int .i64 st, fn]) (first | exact (unhide HP).drew | exact BlkAt.below (by assumption) (by assumption) | assumption) (first | (go_at_call 173; refine (gTarget_any (by assumption) (unhide HSW)).mono ?_; rintro e u5 ⟨rfl, hb5⟩) | (go_at_call 121; refine (gMovedL_b (by assumption) ((Um.lst st s : Nat) : Int) false (unhide HSW)).mono ?_; rintro e u6 ⟨rfl, hb6⟩) | (go_at_call 122; rw [lst_mod]; refine (gSwapL_x (((unhide HS3).undrew hb5).call hb6) 0 1 2 rfl rfl rfl (by decide) (by decide) (by decide) (unhide HR) (unhide HW) (unhide HBD).1 (unhide HBD).2 (Um.moveN s (Um.lst st s) false) (Um.move_word (unhide HSW) (Um.lst_lt _ _)) M (unhide HM)).mono ?_; rintro e u7 ⟨rfl, hW6, hS6⟩; have hP6 := hS6.get 2 rfl))
  have hS := hS6
  have HW6 := hide hW6
  clear hS6 hP6 hW6 HS3 HP
  dsimp only [putL, List.set] at hS
  simp only [unhide HD]
  go_wp2_with (first | (refine ybox hS (h := ?_); clear hS; intro _ _ hS) | (refine yall hS (h := ?_); clear hS; intro _ _ hS) | refine yld hS (h := ?_) | (refine yst hS (h := ?_); clear hS; intro _ hS))
  first | go_end0 | ((try simp only [Exit.inBlock, Exit.then]); refine bodyPost_ret (results_none rfl _ _ _) rfl ?_)
  exact ⟨rfl, unhide HW6, (unhide HS).back3 i j k (unhide HI).1 (unhide HI).2.1 (unhide HI).2.2 hS⟩
set_option maxHeartbeats 1000000 in
theorem lDone_f (f : Fn) (a1 a2 : Array Value) (hB : BlkAt w P [.int .i64 sl, .int .u64 (s : Nat), .int .i64 st, .func f a1 a2]) : Calls Tryz.prog 155 #[.pointer (some ⟨P, 0, none⟩)] w fun r w' => r = .returned (.bool false) ∧ w' = w := by
  have h2 := hB.cell 3 _ rfl
  have hE := eqGFn
  have hE0 := eqGNo
  clear hB
  go_enter Tryz.func155, Tryz.ntmps155
  go_wp2
  go_ret
  exact ⟨rfl, rfl⟩
set_option maxHeartbeats 1000000 in
theorem lDone_n (hB : BlkAt w P [.int .i64 sl, .int .u64 (s : Nat), .int .i64 st, .nilFunc]) : Calls Tryz.prog 155 #[.pointer (some ⟨P, 0, none⟩)] w fun r w' => r = .returned (.bool true) ∧ w' = w := by
  have h2 := hB.cell 3 _ rfl
  have hE := eqGFn
  have hE0 := eqGNo
  clear hB
  go_enter Tryz.func155, Tryz.ntmps155
  go_wp2
  go_ret
  exact ⟨rfl, rfl⟩
set_option maxHeartbeats 2000000 in
theorem lStep_ask {Q : World → Prop} (hB : BlkAt w P [.int .i64 sl, .int .u64 (s : Nat), .int .i64 st, .func (.func 153) #[.pointer (some ⟨P, 0, none⟩)] #[]]) (hC : Calls Tryz.prog 153 #[.pointer (some ⟨P, 0, none⟩), .pointer (some ⟨B, 0, none⟩)] w fun r w' => r = .returned (.tuple #[]) ∧ Q w') :
    Calls Tryz.prog 154 #[.pointer (some ⟨P, 0, none⟩), .pointer (some ⟨B, 0, none⟩)] w fun r w' => r = .returned (.tuple #[]) ∧ Q w' := by
  have HD := hide (lDone_f _ _ _ hB)
  have HC := hide hC
  have h2 := hB.cell 3 _ rfl
  clear hB hC
  go_enter Tryz.func154, Tryz.ntmps154
  go_wp2_with fail
  refine (unhide HD).mono ?_
  rintro r u ⟨rfl, rfl⟩
  go_wp2_with fail
  refine (unhide HC).mono ?_
  rintro r u2 ⟨rfl, hQ⟩
  have H2 := hide hQ
  clear hQ h2
  go_wp2
  go_end0
  exact ⟨rfl, unhide H2⟩
set_option maxHeartbeats 2000000 in
theorem lStep_lay {Q : World → Prop} (hB : BlkAt w P [.int .i64 sl, .int .u64 (s : Nat), .int .i64 st, .func (.func 164) #[.pointer (some ⟨P, 0, none⟩)] #[]]) (hC : Calls Tryz.prog 164 #[.pointer (some ⟨P, 0, none⟩), .pointer (some ⟨B, 0, none⟩)] w fun r w' => r = .returned (.tuple #[]) ∧ Q w') :
    Calls Tryz.prog 154 #[.pointer (some ⟨P, 0, none⟩), .pointer (some ⟨B, 0, none⟩)] w fun r w' => r = .returned (.tuple #[]) ∧ Q w' := by
  have HD := hide (lDone_f _ _ _ hB)
  have HC := hide hC
  have h2 := hB.cell 3 _ rfl
  clear hB hC
  go_enter Tryz.func154, Tryz.ntmps154
  go_wp2_with fail
  refine (unhide HD).mono ?_
  rintro r u ⟨rfl, rfl⟩
  go_wp2_with fail
  refine (unhide HC).mono ?_
  rintro r u2 ⟨rfl, hQ⟩
  have H2 := hide hQ
  clear hQ h2
  go_wp2
  go_end0
  exact ⟨rfl, unhide H2⟩
set_option maxHeartbeats 2000000 in
theorem lStep_done (hB : BlkAt w P [.int .i64 sl, .int .u64 (s : Nat), .int .i64 st, .nilFunc]) (b : Value) :
    Calls Tryz.prog 154 #[.pointer (some ⟨P, 0, none⟩), b] w fun r w' => r = .returned (.tuple #[]) ∧ w' = w := by
  have HD := hide (lDone_n hB)
  clear hB
  go_enter Tryz.func154, Tryz.ntmps154
  go_wp2_with fail
  refine (unhide HD).mono ?_
  rintro r u ⟨rfl, rfl⟩
  go_wp2
  go_end0
  exact ⟨rfl, rfl⟩
end
end
section
set_option maxRecDepth 100000
open Go.RowKit Go.Sort
set_option linter.unusedVariables false
set_option linter.unusedSimpArgs false
def enF (P : Nat) (o : Um.Es) : Value := if o.en = true then .nilFunc else if o.tk = true then .func (.func 103) #[.pointer (some ⟨P, 0, none⟩)] #[] else .func (.func 85) #[.pointer (some ⟨P, 0, none⟩)] #[]
def entL (P h : Nat) (la : Option Addr) (nl cl : Nat) (o : Um.Es) : List Value := [.int .i64 (Um.svN h), .int .u64 (o.s : Nat), .int .u64 (h : Nat), .slice la nl cl, enF P o, .int .i64 o.e, .int .u64 (o.w : Nat)]
def leF (P : Nat) (o : Um.Ls) : Value := if o.dn = true then .nilFunc else if o.lk = true then .func (.func 164) #[.pointer (some ⟨P, 0, none⟩)] #[] else .func (.func 153) #[.pointer (some ⟨P, 0, none⟩)] #[]
def leaL (P : Nat) (sl st : Int) (o : Um.Ls) : List Value := [.int .i64 sl, .int .u64 (o.s : Nat), .int .i64 st, leF P o]
theorem put_same3 {l : List (Nat × List Value)} {i j k : Nat} {a b d : Nat × List Value} (hi : l[i]? = some a) (hj : l[j]? = some b) (hk : l[k]? = some d) : putL l [(i, a), (j, b), (k, d)] = l := by
  show ((l.set i a).set j b).set k d = l
  rw [set_same hi, set_same hj, set_same hk]
section
variable {bs : List Nat} {w0 w : World} {l e : List (Nat × List Value)} {B C P : Nat} {c : Um.Cf} {sl st : Int} {h : Nat} {la : Option Addr} {nl cl : Nat} {Z : Nat → Int}
theorem gDone_any {o : Um.Es} {m : Um.Mm} (hS : Sx bs w0 w l e) (i j k : Nat) (hi : l[i]? = some (B, memL c C m)) (hj : l[j]? = some (C, rowW m.ws c.n)) (hk : l[k]? = some (P, entL P h la nl cl o)) (hij : i ≠ j) (hr : c.r = true) (hw : WordsOk c m) (hh : Um.Word h) :
    Calls Tryz.prog 87 #[.pointer (some ⟨P, 0, none⟩), .pointer (some ⟨B, 0, none⟩)] w fun r w' => r = .returned (.bool (Um.edn c h o)) ∧ Below w.heap.size w w' := by
  obtain ⟨mo, tk, s, wd, er, en⟩ := o
  cases en with
  | true => exact gDone_n hS i j k hi hj hk hij hr hw hh
  | false =>
    cases tk with
    | true => exact gDone_f _ _ _ hS i j k hi hj hk hij hr hw hh
    | false => exact gDone_f _ _ _ hS i j k hi hj hk hij hr hw hh
theorem gError_any {o : Um.Es} {m : Um.Mm} (hS : Sx bs w0 w l e) (i j k : Nat) (hi : l[i]? = some (B, memL c C m)) (hj : l[j]? = some (C, rowW m.ws c.n)) (hk : l[k]? = some (P, entL P h la nl cl o)) (hij : i ≠ j) (hr : c.r = true) (hw : WordsOk c m) (hh : Um.Word h) :
    Calls Tryz.prog 88 #[.pointer (some ⟨P, 0, none⟩), .pointer (some ⟨B, 0, none⟩)] w fun r w' => r = .returned (.int .i64 (Um.eer c h o)) ∧ Below w.heap.size w w' := by
  obtain ⟨mo, tk, s, wd, er, en⟩ := o
  cases hn : Um.ook h c.s with
  | true =>
    rw [show Um.eer c h ⟨mo, tk, s, wd, er, en⟩ = er by unfold Um.eer; rw [hn, if_pos rfl]]
    exact gError_y hS i j k hi hj hk hij hr hw hh hn
  | false =>
    rw [show Um.eer c h ⟨mo, tk, s, wd, er, en⟩ = 2 by unfold Um.eer; rw [hn, if_neg (by decide)]]
    exact gError_n hS i j k hi hj hk hij hr hw hh hn
theorem gStep_any (hS : Sx bs w0 w l e) (i j k : Nat) (o O : Um.Es) (hO : O = Um.estep c h (fun k => inZ Z nl ((k : Nat) : Int)) o) (hi : l[i]? = some (B, memL c C o.m)) (hj : l[j]? = some (C, rowW o.m.ws c.n)) (hk : l[k]? = some (P, entL P h la nl cl o)) (hij : i ≠ j) (hik : i ≠ k) (hjk : j ≠ k) (hr : c.r = true) (ho : Um.Eok c o) (hh : Um.Word h) (hnl : nl ≤ 50) (hSt : StB la nl Z e) :
    Calls Tryz.prog 86 #[.pointer (some ⟨P, 0, none⟩), .pointer (some ⟨B, 0, none⟩)] w fun r w' => r = .returned (.tuple #[]) ∧ Um.Eok c O ∧ Sx bs w0 w' (putL l [(i, B, memL c C O.m), (j, C, rowW O.m.ws c.n), (k, P, entL P h la nl cl O)]) e := by
  have hO' : Um.Eok c O := hO ▸ Um.estep_ok ho
  have hsv := Um.sv_range h
  have hD := gDone_any hS i j k hi hj hk hij hr ho.wd hh
  cases hd : Um.edn c h o with
  | true =>
    rw [hd] at hD
    rw [Um.estep_done hd] at hO
    subst hO
    refine (gStep_done hS i j k hi hj hk hij hr ho.wd hh hD).mono ?_
    rintro r w' ⟨rfl, hb⟩
    exact ⟨rfl, hO', by rw [put_same3 hi hj hk]; exact hS.call hb⟩
  | false =>
    clear hD
    obtain ⟨m, tk, s, wd, er, en⟩ := o
    obtain ⟨i1, i2, i3, i4⟩ := ho
    dsimp only at *
    obtain ⟨rfl, hn⟩ : en = false ∧ Um.ook h c.s = true := by
      have hd' : (en || !Um.ook h c.s) = false := hd
      cases en <;> cases hq : Um.ook h c.s <;> rw [hq] at hd' <;> first | exact ⟨rfl, rfl⟩ | cases hd'
    cases tk with
    | false =>
      obtain ⟨M, hM⟩ : ∃ M, M = Um.mtouch c m 1 4 (Um.svN h) 0 0 := ⟨_, rfl⟩
      have eO : O = ⟨M, decide (Um.flN h (fun k => inZ Z nl ((k : Nat) : Int)) M.l.old = 0), M.l.old, wd, Um.flN h (fun k => inZ Z nl ((k : Nat) : Int)) M.l.old, !decide (Um.flN h (fun k => inZ Z nl ((k : Nat) : Int)) M.l.old = 0)⟩ := by
        rw [hO, hM]
        unfold Um.estep
        rw [if_neg (by rw [hd]; decide), if_neg (show ¬ (false = true) by decide)]
      by_cases hf : Um.flN h (fun k => inZ Z nl ((k : Nat) : Int)) M.l.old = 0
      · rw [hf] at eO
        subst eO
        refine (gStep_judge (Q := fun w' => WordsOk c M ∧ Sx bs w0 w' (putL l [(i, B, memL c C M), (j, C, rowW M.ws c.n), (k, P, entL P h la nl cl ⟨M, true, M.l.old, wd, 0, false⟩)]) e) hS i j k hi hj hk hij hr i1 hh hn (fun w1 hb => gJudge_0 (hS.call hb) i j k hi hj hk hij hik hjk hr i1 (by omega) (by omega) M hM Z hh hnl hSt hf)).mono ?_
        rintro r w' ⟨rfl, _, hSn⟩
        exact ⟨rfl, hO', hSn⟩
      · rw [decide_eq_false hf] at eO
        subst eO
        refine (gStep_judge (Q := fun w' => WordsOk c M ∧ Sx bs w0 w' (putL l [(i, B, memL c C M), (j, C, rowW M.ws c.n), (k, P, entL P h la nl cl ⟨M, false, M.l.old, wd, Um.flN h (fun k => inZ Z nl ((k : Nat) : Int)) M.l.old, true⟩)]) e) hS i j k hi hj hk hij hr i1 hh hn (fun w1 hb => gJudge_n (hS.call hb) i j k hi hj hk hij hik hjk hr i1 (by omega) (by omega) M hM Z hh hnl hSt _ rfl hf)).mono ?_
        rintro r w' ⟨rfl, _, hSn⟩
        exact ⟨rfl, hO', hSn⟩
    | true =>
      obtain ⟨M, hM⟩ : ∃ M, M = Um.mtouch c m 3 4 (Um.svN h) s (Um.bzN s) := ⟨_, rfl⟩
      have eO : O = ⟨M, false, s, if M.l.done then Um.bzN s else wd, er, M.l.done⟩ := by
        rw [hO, hM]
        unfold Um.estep
        rw [if_neg (by rw [hd]; decide), if_pos rfl]
      cases hdn : M.l.done with
      | true =>
        rw [hdn, if_pos rfl] at eO
        subst eO
        refine (gStep_take (Q := fun w' => WordsOk c M ∧ Sx bs w0 w' (putL l [(i, B, memL c C M), (j, C, rowW M.ws c.n), (k, P, entL P h la nl cl ⟨M, false, s, Um.bzN s, er, true⟩)]) e) hS i j k hi hj hk hij hr i1 hh hn (fun w1 hb => gTake_t (hS.call hb) i j k hi hj hk hij hik hjk hr i1 (by omega) (by omega) M hM i2 hdn)).mono ?_
        rintro r w' ⟨rfl, _, hSn⟩
        exact ⟨rfl, hO', hSn⟩
      | false =>
        rw [hdn, if_neg (by decide)] at eO
        subst eO
        refine (gStep_take (Q := fun w' => WordsOk c M ∧ Sx bs w0 w' (putL l [(i, B, memL c C M), (j, C, rowW M.ws c.n), (k, P, entL P h la nl cl ⟨M, false, s, wd, er, false⟩)]) e) hS i j k hi hj hk hij hr i1 hh hn (fun w1 hb => gTake_f (hS.call hb) i j k hi hj hk hij hik hjk hr i1 (by omega) (by omega) M hM i2 hdn)).mono ?_
        rintro r w' ⟨rfl, _, hSn⟩
        exact ⟨rfl, hO', hSn⟩
theorem lDone_any {o : Um.Ls} (hB : BlkAt w P (leaL P sl st o)) : Calls Tryz.prog 155 #[.pointer (some ⟨P, 0, none⟩)] w fun r w' => r = .returned (.bool o.dn) ∧ w' = w := by
  obtain ⟨m, lk, s, dn⟩ := o
  cases dn with
  | true => exact lDone_n hB
  | false =>
    cases lk with
    | true => exact lDone_f _ _ _ hB
    | false => exact lDone_f _ _ _ hB
theorem lStep_any (hS : Sx bs w0 w l e) (i j k : Nat) (o O : Um.Ls) (hO : O = Um.lstep c sl st o) (hi : l[i]? = some (B, memL c C o.m)) (hj : l[j]? = some (C, rowW o.m.ws c.n)) (hk : l[k]? = some (P, leaL P sl st o)) (hij : i ≠ j) (hik : i ≠ k) (hjk : j ≠ k) (hr : c.r = true) (ho : Um.Lok c o) (h0 : -9223372036854775808 ≤ sl) (h1 : sl ≤ 9223372036854775807) :
    Calls Tryz.prog 154 #[.pointer (some ⟨P, 0, none⟩), .pointer (some ⟨B, 0, none⟩)] w fun r w' => r = .returned (.tuple #[]) ∧ Um.Lok c O ∧ Sx bs w0 w' (putL l [(i, B, memL c C O.m), (j, C, rowW O.m.ws c.n), (k, P, leaL P sl st O)]) e := by
  have hO' : Um.Lok c O := hO ▸ Um.lstep_ok ho
  obtain ⟨m, lk, s, dn⟩ := o
  obtain ⟨i1, i2⟩ := ho
  dsimp only at *
  cases dn with
  | true =>
    have eO : O = ⟨m, lk, s, true⟩ := by rw [hO]; exact Um.lstep_done rfl
    subst eO
    refine (lStep_done (hS.get k hk) _).mono ?_
    rintro r w' ⟨rfl, rfl⟩
    exact ⟨rfl, hO', by rw [put_same3 hi hj hk]; exact hS⟩
  | false =>
    cases lk with
    | false =>
      have eO : O = ⟨Um.mtouch c m 1 4 sl 0 0, true, (Um.mtouch c m 1 4 sl 0 0).l.old, false⟩ := hO
      subst eO
      refine (lStep_ask (hS.get k hk) (gAsk_x hS i j k hi hj hk hij hik hjk hr i1 h0 h1 _ rfl)).mono ?_
      rintro r w' ⟨rfl, _, hSn⟩
      exact ⟨rfl, hO', hSn⟩
    | true =>
      obtain ⟨M, hM⟩ : ∃ M, M = Um.mtouch c m 3 4 sl s (Um.moveN s (Um.lst st s) false) := ⟨_, rfl⟩
      have eO : O = ⟨M, false, s, M.l.done⟩ := by rw [hM]; exact hO
      cases hdn : M.l.done with
      | true =>
        rw [hdn] at eO
        subst eO
        refine (lStep_lay (hS.get k hk) (gLay_t hS i j k hi hj hk hij hik hjk hr i1 h0 h1 M hM i2 hdn)).mono ?_
        rintro r w' ⟨rfl, _, hSn⟩
        exact ⟨rfl, hO', hSn⟩
      | false =>
        rw [hdn] at eO
        subst eO
        refine (lStep_lay (hS.get k hk) (gLay_f hS i j k hi hj hk hij hik hjk hr i1 h0 h1 M hM i2 hdn)).mono ?_
        rintro r w' ⟨rfl, _, hSn⟩
        exact ⟨rfl, hO', hSn⟩
theorem lnew_any (hS : Sx bs w0 w l e) (sl st : Int) (m : Um.Mm) :
    Calls Tryz.prog 146 #[.int .i64 sl, .int .i64 st] w fun r w' => ∃ P, r = .returned (.pointer (some ⟨P, 0, none⟩)) ∧ Sx bs w0 w' (l ++ [(P, leaL P sl st (Um.lnew m))]) e := gNewLeave_x hS sl st
end
theorem wpx_build1 {ops : Array Oper} {rest : List Oper} {op : Oper} {a : Act} {bs : List Nat} {w w0 : World} {Q : Exit → Act → World → Prop} {l e : List (Nat × List Value)} (hS : Sx bs w0 w l e) (hw : Region.wanted op (yielded ops a.tmps) = true)
    (x0 : Operand) (ho : op.op = .buildSlice 41 1 #[(0, x0)]) (k0 : Int) (h0 : a.eval x0 = .int .i64 k0)
    (f : Nat → Act) (hf : ∀ b, a.put op.dst (.slice (some ⟨b, 0, none⟩) 1 1) = f b) (h : ∀ b w', Sx bs w0 w' (l ++ [(b, [.int .i64 k0])]) e → wpList Tryz.prog ops Q rest (f b) w') : wpList Tryz.prog ops Q (op :: rest) a w := by
  refine BigFrame.wpList_want hw fun K hK => ?_
  have er : (execOp a.eval op).run Tryz.prog w = .ok (.value (.slice (some ⟨w.heap.size, 0, none⟩) 1 1)) (w.alloc (.cells (List.toArray [.int .i64 k0]) 3)) := by
    unfold execOp
    rw [ho]
    generalize a.eval = E at h0 ⊢
    go_simp
  unfold Oper.wp
  rw [er]
  exact hK _ _ (by rw [hf]; exact h _ _ (hS.alloc (List.toArray [.int .i64 k0]) 3))
theorem told1 {w : World} {b : Nat} {x : Int} (hB : BlkAt w b [.int .i64 x]) : Told w (some ⟨b, 0, none⟩) 1 1 (fun _ => x) :=
  ⟨.inr ⟨b, 0, rfl, hB.lt, fun i hi => by
      obtain rfl : i = 0 := by omega
      exact hB.cell 0 _ rfl⟩, (fun q => by cases q), by decide⟩
end
end Go.Proofs.YtapgghciieloaaaGreat
namespace Um
set_option maxRecDepth 100000
structure Js where
  m : Mm
  nx : Nat
  s : Nat
  r : Nat
def jjd (sd b : Int) (M : Mm) (nx s : Nat) : Js :=
  if hasN s sd b = true then ⟨M, nx, s, 2⟩ else if stN s ≠ 2 ∧ anyN s (1 - sd) = true then ⟨M, nx, s, 3⟩ else ⟨M, 2, s, 0⟩
def jstep (c : Cf) (sl sd b : Int) (sn : Nat) (o : Js) : Js :=
  if o.r ≠ 0 then o
  else if o.nx = 0 then
    (if stN (mtouch c o.m 1 4 sl 0 0).l.old = 4 then ⟨mtouch c o.m 1 4 sl 0 0, 1, (mtouch c o.m 1 4 sl 0 0).l.old, 0⟩
      else if stN (mtouch c o.m 1 4 sl 0 0).l.old = 2 ∨ stN (mtouch c o.m 1 4 sl 0 0).l.old = 3 then jjd sd b (mtouch c o.m 1 4 sl 0 0) 0 (mtouch c o.m 1 4 sl 0 0).l.old
      else ⟨mtouch c o.m 1 4 sl 0 0, 0, (mtouch c o.m 1 4 sl 0 0).l.old, 1⟩)
  else if o.nx = 1 then
    (if past (mtouch c o.m 1 6 sl 0 0).l.old sn = true then ⟨mtouch c o.m 1 6 sl 0 0, 1, o.s, 1⟩ else jjd sd b (mtouch c o.m 1 6 sl 0 0) 1 o.s)
  else ⟨mtouch c o.m 3 4 sl o.s (withN o.s sd b), 0, o.s, if (mtouch c o.m 3 4 sl o.s (withN o.s sd b)).l.done then 2 else 0⟩
def jnew (m : Mm) : Js := ⟨m, 0, 0, 0⟩
structure Jok (c : Cf) (o : Js) : Prop where
  wd : ∀ i, i < c.n → Word (o.m.ws i)
  s : Word o.s
  nx : o.nx ≤ 2
  r : o.r ≤ 3
theorem jnew_ok {c : Cf} {m : Mm} (h : ∀ i, i < c.n → Word (m.ws i)) : Jok c (jnew m) := ⟨h, zero_word, (show 0 ≤ 2 by decide), (show 0 ≤ 3 by decide)⟩
theorem jjd_ok {c : Cf} {sd b : Int} {M : Mm} {nx s : Nat} (hM : ∀ i, i < c.n → Word (M.ws i)) (hs : Word s) (hn : nx ≤ 2) : Jok c (jjd sd b M nx s) := by
  unfold jjd
  split
  · exact ⟨hM, hs, hn, (show 2 ≤ 3 by decide)⟩
  split
  · exact ⟨hM, hs, hn, (show 3 ≤ 3 by decide)⟩
  · exact ⟨hM, hs, (show 2 ≤ 2 by decide), (show 0 ≤ 3 by decide)⟩
theorem jstep_ok {c : Cf} {sl sd b : Int} {sn : Nat} {o : Js} (h : Jok c o) : Jok c (jstep c sl sd b sn o) := by
  have hld : ∀ a, (∀ i, i < c.n → Word ((mtouch c o.m 1 a sl 0 0).ws i)) := fun a => word_touch h.wd zero_word
  have hlo : ∀ a, Word (mtouch c o.m 1 a sl 0 0).l.old := fun a => old_word h.wd
  unfold jstep
  split
  · exact h
  split
  · split
    · exact ⟨hld 4, hlo 4, (show 1 ≤ 2 by decide), (show 0 ≤ 3 by decide)⟩
    split
    · exact jjd_ok (hld 4) (hlo 4) (by decide)
    · exact ⟨hld 4, hlo 4, (show 0 ≤ 2 by decide), (show 1 ≤ 3 by decide)⟩
  split
  · split
    · exact ⟨hld 6, h.s, (show 1 ≤ 2 by decide), (show 1 ≤ 3 by decide)⟩
    · exact jjd_ok (hld 6) h.s (by decide)
  · refine ⟨word_touch h.wd (with_word h.s _ _), h.s, (show 0 ≤ 2 by decide), ?_⟩
    show (if _ then 2 else 0) ≤ 3
    split <;> decide
theorem jstep_end {c : Cf} {sl sd b : Int} {sn : Nat} {o : Js} (h : o.r ≠ 0) : jstep c sl sd b sn o = o := by
  unfold jstep
  rw [if_pos h]
def wstep (c : Cf) (sl sd b : Int) (o : Ls) : Ls :=
  if o.dn = true then o
  else if o.lk = false then ⟨mtouch c o.m 1 4 sl 0 0, true, (mtouch c o.m 1 4 sl 0 0).l.old, decide (withN (mtouch c o.m 1 4 sl 0 0).l.old sd b = (mtouch c o.m 1 4 sl 0 0).l.old)⟩
  else ⟨mtouch c o.m 3 4 sl o.s (withN o.s sd b), false, o.s, (mtouch c o.m 3 4 sl o.s (withN o.s sd b)).l.done⟩
theorem wstep_ok {c : Cf} {sl sd b : Int} {o : Ls} (ho : Lok c o) : Lok c (wstep c sl sd b o) := by
  unfold wstep
  split
  · exact ho
  split
  · exact ⟨word_touch ho.wd zero_word, old_word ho.wd⟩
  · exact ⟨word_touch ho.wd (with_word ho.s _ _), ho.s⟩
theorem wstep_done {c : Cf} {sl sd b : Int} {o : Ls} (hd : o.dn = true) : wstep c sl sd b o = o := by
  unfold wstep
  rw [if_pos hd]
theorem with_self {x : Nat} {a b : Int} (h : hasN x a b = true) : withN x a b = x := by
  unfold hasN at h
  have h1 : okS a b = true := by cases ho : okS a b <;> rw [ho] at h <;> first | rfl | cases h
  rw [h1, Bool.true_and] at h
  rw [with_ok _ h1]
  exact setN_self _ _ _ h
theorem with_comm (x : Nat) (a b a' b' : Int) : withN (withN x a b) a' b' = withN (withN x a' b') a b := by
  cases ho : okS a b with
  | false => rw [with_bad _ a b ho, with_bad _ a b ho]
  | true =>
    cases ho' : okS a' b' with
    | false => rw [with_bad _ a' b' ho', with_bad _ a' b' ho']
    | true =>
      rw [with_ok _ ho, with_ok _ ho', with_ok _ ho', with_ok _ ho]
      exact setN_comm _ _ _ _ _ (.inr rfl)
theorem has_stay {x : Nat} {a b : Int} (a' b' : Int) (h : hasN x a b = true) : hasN (withN x a' b') a b = true := by
  unfold hasN at h ⊢
  cases ho : okS a b with
  | false => rw [ho] at h; cases h
  | true =>
    rw [ho, Bool.true_and] at h
    rw [Bool.true_and]
    cases ho' : okS a' b' with
    | false => rw [with_bad _ a' b' ho']; exact h
    | true =>
      rw [with_ok _ ho', testBit_setN]
      split
      · rfl
      · exact h
theorem has_any {x : Nat} {a b : Int} (h : hasN x a b = true) : anyN x a = true := by
  have h1 : okS a b = true := by
    unfold hasN at h
    cases ho : okS a b <;> rw [ho] at h <;> first | rfl | cases h
  have := any_with x a b h1
  rwa [with_self h] at this
theorem with_bit {x : Nat} {a b : Int} {j : Nat} (h : x.testBit j = true) : (withN x a b).testBit j = true := by
  cases ho : okS a b with
  | false => rw [with_bad _ a b ho]; exact h
  | true =>
    rw [with_ok _ ho, testBit_setN]
    split
    · rfl
    · exact h
theorem any_stay {x : Nat} {a : Int} (a' b' : Int) (h : anyN x a = true) : anyN (withN x a' b') a = true := by
  by_cases ha : a = 0 ∨ a = 1
  · rw [any_iff ha] at h ⊢
    rcases h with ⟨j, h1, h2⟩ | h
    · exact .inl ⟨j, h1, with_bit h2⟩
    · exact .inr (with_bit h)
  · unfold anyN at h
    rw [decide_eq_false ha] at h
    cases h
def jtg (sd b : Int) (sn W N : Nat) : Nat :=
  if stN W < 2 ∨ 4 < stN W ∨ (stN W = 4 ∧ past N sn = true) then 1 else if hasN W sd b = true then 2 else if stN W ≠ 2 ∧ anyN W (1 - sd) = true then 3 else 2
theorem jjd_r (sd b : Int) (M : Mm) (nx s : Nat) : (jjd sd b M nx s).r = (if hasN s sd b = true then 2 else if stN s ≠ 2 ∧ anyN s (1 - sd) = true then 3 else 0) ∧ (jjd sd b M nx s).m = M ∧ (jjd sd b M nx s).s = s ∧ ((jjd sd b M nx s).r = 0 → (jjd sd b M nx s).nx = 2 ∧ hasN s sd b = false) := by
  unfold jjd
  by_cases h1 : hasN s sd b = true
  · rw [if_pos h1, if_pos h1]
    exact ⟨rfl, rfl, rfl, (fun q => by cases q)⟩
  rw [if_neg h1, if_neg h1]
  by_cases h2 : stN s ≠ 2 ∧ anyN s (1 - sd) = true
  · rw [if_pos h2, if_pos h2]
    exact ⟨rfl, rfl, rfl, (fun q => by cases q)⟩
  · rw [if_neg h2, if_neg h2]
    exact ⟨rfl, rfl, rfl, fun _ => ⟨rfl, by simpa using h1⟩⟩
section
variable {c : Cf} {sl sd b : Int} {sn : Nat}
end
end Um
namespace Um
set_option maxRecDepth 100000
def setJ (m : Mm) (o : Js) : Js := ⟨m, o.nx, o.s, o.r⟩
def JokW (c : Cf) (o : Js) : Prop := ∀ m : Mm, (∀ i, i < c.n → Word (m.ws i)) → Jok c (setJ m o)
theorem Jok.okw {c : Cf} {o : Js} (h : Jok c o) : JokW c o := fun _ hm => ⟨hm, h.s, h.nx, h.r⟩
structure Sj (W : Nat) (sd b : Int) (a : Js) : Prop where
  r : a.r = 0 ∨ a.r = 2 ∨ a.r = 3
  nx : a.nx ≤ 2
  two : a.r = 2 → hasN W sd b = true
  thr : a.r = 3 → anyN W (1 - sd) = true ∧ stN W ≠ 2
  s : a.r = 0 → 1 ≤ a.nx → (hasN a.s sd b = true → hasN W sd b = true) ∧ (anyN a.s (1 - sd) = true → anyN W (1 - sd) = true) ∧ stN a.s = stN W
  lay : a.r = 0 → a.nx = 2 → stN a.s ≠ 2 → anyN a.s (1 - sd) = false
theorem Sj.grow {W : Nat} {sd b : Int} {a : Js} (h : Sj W sd b a) (x y : Int) : Sj (withN W x y) sd b a :=
  ⟨h.r, h.nx, fun q => has_stay _ _ (h.two q), fun q => ⟨any_stay _ _ (h.thr q).1, by rw [st_with]; exact (h.thr q).2⟩, fun q r => ⟨fun t => has_stay _ _ ((h.s q r).1 t), fun t => any_stay _ _ ((h.s q r).2.1 t), by rw [st_with]; exact (h.s q r).2.2⟩, h.lay⟩
theorem Sj.at {W : Nat} {sd b : Int} {a : Js} (h : Sj W sd b a) (m : Mm) : Sj W sd b (setJ m a) := ⟨h.r, h.nx, h.two, h.thr, h.s, h.lay⟩
structure Bj (W : Nat) (p q b d : Int) (x y : Js) : Prop where
  pq : q = 1 - p ∧ p = 1 - q
  st : stN W = 3 ∨ stN W = 4
  one : ¬ (anyN W p = true ∧ anyN W q = true)
  X : Sj W p b x
  Y : Sj W q d y
theorem Bj.swap {W : Nat} {p q b d : Int} {x y : Js} (h : Bj W p q b d x y) : Bj W q p d b y x := ⟨⟨h.pq.2, h.pq.1⟩, h.st, fun r => h.one ⟨r.2, r.1⟩, h.Y, h.X⟩
theorem Bj.at {W : Nat} {p q b d : Int} {x y : Js} (h : Bj W p q b d x y) (m : Mm) : Bj W p q b d (setJ m x) y := ⟨h.pq, h.st, h.one, h.X.at m, h.Y⟩
end Um
namespace Um
set_option maxRecDepth 100000
def clo (A B : Int) (W : Nat) : Nat := withN (withN (withN W 0 A) 1 B) 0 7
structure Sw (W : Nat) (sd b : Int) (o : Ls) : Prop where
  dn : o.dn = true → withN W sd b = W
theorem Sw.grow {W : Nat} {sd b : Int} {o : Ls} (h : Sw W sd b o) (x y : Int) : Sw (withN W x y) sd b o := ⟨fun q => by rw [with_comm W x y sd b, h.dn q]⟩
theorem Sw.at {W : Nat} {sd b : Int} {o : Ls} (h : Sw W sd b o) (m : Mm) : Sw W sd b (setLs m o) := ⟨h.dn⟩
section
variable {c : Cf} {sl sd b : Int}
end
structure Tj (T W : Nat) (A B : Int) (x y : Js) (o : Ls) : Prop where
  st : stN W = 2
  cl : clo A B W = T
  X : Sj W 0 A x
  Y : Sj W 1 B y
  O : Sw W 0 7 o
theorem Tj.at {T W : Nat} {A B : Int} {x y : Js} {o : Ls} (h : Tj T W A B x y o) (m m' m'' : Mm) : Tj T W A B (setJ m x) (setJ m' y) (setLs m'' o) := ⟨h.st, h.cl, h.X.at m, h.Y.at m', h.O.at m''⟩
section
variable {c : Cf} {sl A B : Int} {sn : Nat} {T : Nat} {x y : Js} {o : Ls}
end
end Um
namespace Go.Proofs.YtapgghciieloaaaGreat
section
set_option maxRecDepth 100000
open Go.RowKit Go.Sort
set_option linter.unusedVariables false
set_option linter.unusedSimpArgs false
theorem field_stat1j (a b c d e f g : Value) (w : World) : (Instr.field 170 (.agg #[a, b, c, d, e, f, g]) 1).run Tryz.prog w = .ok b w := by simp [Instr.field, go_sem, asAgg]
theorem eqJF (f : Fn) (x y : Array Value) (w : World) : (binOp .neq 195 (.func f x y) .nilFunc).run Tryz.prog w = .ok (.bool true) w := by kernel_rfl
theorem eqJN (w : World) : (binOp .neq 195 .nilFunc .nilFunc).run Tryz.prog w = .ok (.bool false) w := by kernel_rfl
theorem eqOF (f : Fn) (x y : Array Value) (w : World) : (binOp .eql 202 (.func f x y) .nilFunc).run Tryz.prog w = .ok (.bool false) w := by kernel_rfl
theorem eqON (w : World) : (binOp .eql 202 .nilFunc .nilFunc).run Tryz.prog w = .ok (.bool true) w := by kernel_rfl
theorem drew_below {P : Program} {f : FuncId} {args : Array Value} {w : World} {v : Value} (h : Calls P f args w fun e w' => e = .returned v ∧ ∃ n, w' = w.drewN n) : Calls P f args w fun e w' => e = .returned v ∧ Below w.heap.size w w' :=
  h.mono (by
    rintro e w' ⟨rfl, n, rfl⟩
    exact ⟨rfl, below_drewN (Below.refl _ _) n⟩)
section
variable {bs : List Nat} {w0 w : World} {l e : List (Nat × List Value)} {B C P : Nat} {c : Um.Cf} {m : Um.Mm} {sl sd b rr : Int} {s sn : Nat} {fn : Value} {tl : List Value}
set_option maxHeartbeats 1000000 in
theorem jSpot_b (hB : BlkAt w P (.int .i64 sl :: .int .i64 sd :: .int .i64 b :: .int .u64 (s : Nat) :: tl)) (kd : Int) : Calls Tryz.prog 165 #[.pointer (some ⟨P, 0, none⟩), .int .i64 kd] w fun r w' => r = .returned (.agg #[.int .i64 kd, .int .i64 sl]) ∧ Below w.heap.size w w' := by
  have hS := Sx.read1 hB
  clear hB
  go_enter Tryz.func165, Tryz.ntmps165
  go_wp2_with (first | (first | (refine ybox hS (h := ?_); clear hS; intro _ _ hS) | (refine yall hS (h := ?_); clear hS; intro _ _ hS) | refine yld hS (h := ?_) | (refine yst hS (h := ?_); clear hS; intro _ hS)) | (refine wpx_load1e hS 0 rfl _ _ rfl _ _ rfl _ rfl (one_any2 rfl) _ rfl _ (by simp only [Act.put, List.setIfInBounds_toArray, List.set_cons_zero, List.set_cons_succ]; first | done | exact rfl) ?_))
  have hZ := hS.get 0 rfl
  exact bodyPost_ret (v := (.agg #[.int .i64 kd, .int .i64 sl])) (by simp [results, Tryz.results165, go_sem, hZ.cell 0 _ rfl, hZ.cell 1 _ rfl]) rfl ⟨rfl, hS.bel⟩
set_option maxHeartbeats 1000000 in
theorem jState_b (hB : BlkAt w P (.int .i64 sl :: .int .i64 sd :: .int .i64 b :: .int .u64 (s : Nat) :: tl)) (hs : Um.Word s) : Calls Tryz.prog 157 #[.pointer (some ⟨P, 0, none⟩)] w fun r w' => r = .returned (.int .i64 ((Um.part s 27 3 : Nat) : Int)) ∧ Below w.heap.size w w' := by
  have hc := hB.cell 3 _ rfl
  have hf := field_stat1j
  have HC := hide (fun w => unpack_any s w hs)
  clear hB hs
  go_enter Tryz.func157, Tryz.ntmps157
  go_wp2_with fail
  refine ((unhide HC) _).mono ?_
  rintro r u ⟨rfl, hb⟩
  clear HC
  go_wp2
  go_ret
  exact ⟨rfl, hb⟩
set_option maxHeartbeats 1000000 in
theorem jLaid_b (hB : BlkAt w P (.int .i64 sl :: .int .i64 sd :: .int .i64 b :: .int .u64 (s : Nat) :: tl)) (hs : Um.Word s) : Calls Tryz.prog 171 #[.pointer (some ⟨P, 0, none⟩)] w fun r w' => r = .returned (.int .u64 (Um.withN s sd b : Nat)) ∧ Below w.heap.size w w' := by
  have hS := Sx.read1 hB
  have HW := hide hs
  clear hB hs
  go_enter Tryz.func171, Tryz.ntmps171
  go_wp2_with fail
  obtain ⟨u, rfl⟩ := nameW hS
  have k1 := cell_regrown ((hS.getE 0 rfl).cell 1 _ rfl)
  have k2 := cell_regrown ((hS.getE 0 rfl).cell 2 _ rfl)
  have k3 := cell_regrown ((hS.getE 0 rfl).cell 3 _ rfl)
  have HSQ := hide hS
  clear hS
  refine wp_region_quiet_below (by kernel_rfl) (by kernel_rfl) ?_
  repeat (go_big_quiet_step (first | (go_at_call 179; exact Calls.regrown_of (same_below (with_any s sd b _ (unhide HW))))))
  refine wpQuiet_nil ?_
  intro _ hw'
  obtain ⟨⟨dq, osq⟩, hw''⟩ := hw'
  subst hw''
  have hS := (unhide HSQ).call (below_regrown u dq osq)
  clear HSQ k1 k2 k3
  generalize grow (redrawn u dq) osq = u9 at *
  go_wp2_with fail
  have hB := hS.bel
  clear hS
  try go_wp2
  go_ret
  exact ⟨rfl, hB⟩
set_option maxHeartbeats 4000000 in
theorem jLook_x (hS : Sx bs w0 w l e) (i j k : Nat) (hi : l[i]? = some (B, memL c C m)) (hj : l[j]? = some (C, rowW m.ws c.n)) (hk : l[k]? = some (P, (.int .i64 sl :: .int .i64 sd :: .int .i64 b :: .int .u64 (s : Nat) :: tl))) (hij : i ≠ j) (hik : i ≠ k) (hjk : j ≠ k) (hr : c.r = true) (hw : WordsOk c m) (hb0 : -9223372036854775808 ≤ sl) (hb1 : sl ≤ 9223372036854775807) (M : Um.Mm) (hM : M = Um.mtouch c m 1 4 sl 0 0) :
    Calls Tryz.prog 156 #[.pointer (some ⟨P, 0, none⟩), .pointer (some ⟨B, 0, none⟩)] w fun r w' => r = .returned (.tuple #[]) ∧ WordsOk c M ∧ Sx bs w0 w' (putL l [(i, B, memL c C M), (j, C, rowW M.ws c.n), (k, P, (.int .i64 sl :: .int .i64 sd :: .int .i64 b :: .int .u64 (M.l.old : Nat) :: tl))]) e := by
  have HS := hide hS
  have HI := hide (And.intro hi (And.intro hj hk))
  have hL := hS.enter3 i j k hi hj hk hij hik hjk
  have HR := hide hr
  have HW := hide hw
  have HM := hide hM
  have HBD := hide (And.intro hb0 hb1)
  clear hS hi hj hk hr hw hM hb0 hb1 
  have hS := hL
  clear hL
  go_enter Tryz.func156, Tryz.ntmps156
  go_wp2_with (first | (refine ybox hS (h := ?_); clear hS; intro _ _ hS) | (refine yall hS (h := ?_); clear hS; intro _ _ hS) | refine yld hS (h := ?_) | (refine yst hS (h := ?_); clear hS; intro _ hS))
  refine (jSpot_b (hS.get 2 rfl) 4).mono ?_
  rintro r u ⟨rfl, hb⟩
  replace hS := hS.call hb
  clear hb
  go_wp2_with fail
  refine (mLoad_x hS 0 1 rfl rfl (by decide) (unhide HR) (unhide HW) 4 sl (unhide HBD).1 (unhide HBD).2 M (unhide HM)).mono ?_
  rintro r u ⟨rfl, hWn, hSn⟩
  clear hS
  have hS := hSn
  clear hSn
  dsimp only [putL, List.set, List.cons_append, List.nil_append] at hS
  have HW6 := hide hWn
  clear hWn
  go_wp2_with (first | (refine ybox hS (h := ?_); clear hS; intro _ _ hS) | (refine yall hS (h := ?_); clear hS; intro _ _ hS) | refine yld hS (h := ?_) | (refine yst hS (h := ?_); clear hS; intro _ hS))
  first | go_end0 | ((try simp only [Exit.inBlock, Exit.then]); refine bodyPost_ret (results_none rfl _ _ _) rfl ?_)
  exact ⟨rfl, unhide HW6, (unhide HS).back3 i j k (unhide HI).1 (unhide HI).2.1 (unhide HI).2.2 hS⟩
set_option maxHeartbeats 8000000 in
theorem jSwap_x (hS : Sx bs w0 w l e) (i j k : Nat) (hi : l[i]? = some (B, memL c C m)) (hj : l[j]? = some (C, rowW m.ws c.n)) (hk : l[k]? = some (P, (.int .i64 sl :: .int .i64 sd :: .int .i64 b :: .int .u64 (s : Nat) :: tl))) (hij : i ≠ j) (hik : i ≠ k) (hjk : j ≠ k) (hr : c.r = true) (hw : WordsOk c m) (hb0 : -9223372036854775808 ≤ sl) (hb1 : sl ≤ 9223372036854775807) (M : Um.Mm) (hM : M = Um.mtouch c m 3 4 sl s (Um.withN s sd b)) (hs : Um.Word s) :
    Calls Tryz.prog 178 #[.pointer (some ⟨P, 0, none⟩), .pointer (some ⟨B, 0, none⟩)] w fun r w' => r = .returned (.bool M.l.done) ∧ WordsOk c M ∧ Sx bs w0 w' (putL l [(i, B, memL c C M), (j, C, rowW M.ws c.n), (k, P, (.int .i64 sl :: .int .i64 sd :: .int .i64 b :: .int .u64 (s : Nat) :: tl))]) e := by
  have HS := hide hS
  have HI := hide (And.intro hi (And.intro hj hk))
  have hL := hS.enter3 i j k hi hj hk hij hik hjk
  have HR := hide hr
  have HW := hide hw
  have HM := hide hM
  have HBD := hide (And.intro hb0 hb1)
  have HV := hide hs
  clear hS hi hj hk hr hw hM hb0 hb1 hs
  have hS := hL
  clear hL
  have k3 := fun w' (hq : BlkAt w' P (.int .i64 sl :: .int .i64 sd :: .int .i64 b :: .int .u64 (s : Nat) :: tl)) => hq.cell 3 _ rfl
  have HP := hide (hS.get 2 rfl)
  go_enter Tryz.func178, Tryz.ntmps178
  go_wp2_with fail
  have HS3 := hide hS
  clear hS
  go_region_held3 (fun w' => BlkAt w' P (.int .i64 sl :: .int .i64 sd :: .int .i64 b :: .int .u64 (s : Nat) :: tl)) (first | exact (unhide HP).drew | exact BlkAt.below (by assumption) (by assumption) | assumption) (first | (go_at_call 165; refine (jSpot_b (by assumption) 4).mono ?_; rintro e u5 ⟨rfl, hb5⟩) | (go_at_call 171; refine (jLaid_b (by assumption) (unhide HV)).mono ?_; rintro e u6 ⟨rfl, hb6⟩) | (go_at_call 132; refine (mSwap_x (by first | exact ((unhide HS3).undrew hb5).call hb6 | exact ((unhide HS3).undrew hb6).call hb5) 0 1 rfl rfl (by decide) (unhide HR) (unhide HW) 4 sl s (Um.withN s sd b) (Um.with_word (unhide HV) _ _) (unhide HBD).1 (unhide HBD).2 M (unhide HM)).mono ?_; rintro e u7 ⟨rfl, hW6, hS6⟩; have hP6 := hS6.get 2 rfl))
  all_goals
    have hS := hS6
    have HW6 := hide hW6
    clear hS6 hP6 hW6 k3 HS3 HP
    dsimp only [putL, List.set] at hS
    go_wp2_with fail
    go_ret
    exact ⟨rfl, unhide HW6, (unhide HS).back3 i j k (unhide HI).1 (unhide HI).2.1 (unhide HI).2.2 hS⟩
set_option maxHeartbeats 1000000 in
theorem jOpp_b (hB : BlkAt w P [.int .i64 sl, .int .i64 sd, .int .i64 b, .int .u64 (s : Nat), .int .u64 (sn : Nat), fn, .int .i64 rr]) (hd0 : -1 ≤ sd) (hd1 : sd ≤ 2) : Calls Tryz.prog 169 #[.pointer (some ⟨P, 0, none⟩)] w fun r w' => r = .returned (.int .i64 (1 - sd)) ∧ w' = w := by
  have h1 := hB.cell 1 _ rfl
  clear hB
  go_enter Tryz.func169, Tryz.ntmps169
  go_wp2
  go_ret
  refine ⟨?_, rfl⟩
  rcases (by omega : sd = -1 ∨ sd = 0 ∨ sd = 1 ∨ sd = 2) with rfl | rfl | rfl | rfl <;> rfl
set_option maxHeartbeats 1000000 in
theorem jSay_x (hS : Sx bs w0 w l e) (k : Nat) (hk : l[k]? = some (P, [.int .i64 sl, .int .i64 sd, .int .i64 b, .int .u64 (s : Nat), .int .u64 (sn : Nat), fn, .int .i64 rr])) (v : Int) :
    Calls Tryz.prog 160 #[.pointer (some ⟨P, 0, none⟩), .int .i64 v] w fun r w' => r = .returned (.tuple #[]) ∧ Sx bs w0 w' (putL l [(k, P, [.int .i64 sl, .int .i64 sd, .int .i64 b, .int .u64 (s : Nat), .int .u64 (sn : Nat), .nilFunc, .int .i64 v])]) e := by
  have HS := hide hS
  have HI := hide hk
  have hL := hS.enter1 k hk
  clear hS hk
  have hS := hL
  clear hL
  go_enter Tryz.func160, Tryz.ntmps160
  go_wp2_with (first | (refine ybox hS (h := ?_); clear hS; intro _ _ hS) | (refine yall hS (h := ?_); clear hS; intro _ _ hS) | refine yld hS (h := ?_) | (refine yst hS (h := ?_); clear hS; intro _ hS))
  first | go_end0 | ((try simp only [Exit.inBlock, Exit.then]); refine bodyPost_ret (results_none rfl _ _ _) rfl ?_)
  exact ⟨rfl, (unhide HS).back1 k (unhide HI) hS⟩
set_option maxHeartbeats 4000000 in
theorem jJudge_l (hS : Sx bs w0 w l e) (k : Nat) (hk : l[k]? = some (P, [.int .i64 sl, .int .i64 sd, .int .i64 b, .int .u64 (s : Nat), .int .u64 (sn : Nat), fn, .int .i64 rr])) (hs : Um.Word s) (hd0 : -1 ≤ sd) (hd1 : sd ≤ 2) (hh : Um.hasN s sd b = true) :
    Calls Tryz.prog 159 #[.pointer (some ⟨P, 0, none⟩)] w fun r w' => r = .returned (.tuple #[]) ∧ Sx bs w0 w' (putL l [(k, P, [.int .i64 sl, .int .i64 sd, .int .i64 b, .int .u64 (s : Nat), .int .u64 (sn : Nat), .nilFunc, .int .i64 2])]) e := by
  have HDD := hide (And.intro hd0 hd1)
  have HHS := hide hh
  have HW := hide hs
  clear hs hd0 hd1 hh
  have HS := hide hS
  have HI := hide hk
  have hL := hS.enter1 k hk
  clear hS hk
  have hS := hL
  clear hL
  go_enter Tryz.func159, Tryz.ntmps159
  go_wp2_with fail
  obtain ⟨u, rfl⟩ := nameW hS
  have k1 := cell_regrown ((hS.get 0 rfl).cell 1 _ rfl)
  have k2 := cell_regrown ((hS.get 0 rfl).cell 2 _ rfl)
  have k3 := cell_regrown ((hS.get 0 rfl).cell 3 _ rfl)
  have HH := hide (fun w => same_below (has_any s sd b w (unhide HW)))
  rw [unhide HHS] at HH
  have HSQ := hide hS
  clear hS
  refine wp_region_quiet_below (by kernel_rfl) (by kernel_rfl) ?_
  repeat (go_big_quiet_step (first | (go_at_call 167; exact Calls.regrown_of ((unhide HH) _))))
  refine wpQuiet_nil ?_
  intro _ hw'
  obtain ⟨⟨dq, osq⟩, hw''⟩ := hw'
  subst hw''
  have hS := (unhide HSQ).call (below_regrown u dq osq)
  clear HH HSQ k1 k2 k3
  generalize grow (redrawn u dq) osq = u9 at *
  go_wp2_with (first | (refine ybox hS (h := ?_); clear hS; intro _ _ hS) | (refine yall hS (h := ?_); clear hS; intro _ _ hS) | refine yld hS (h := ?_) | (refine yst hS (h := ?_); clear hS; intro _ hS))
  refine (jSay_x hS 0 rfl 2).mono ?_
  rintro r u ⟨rfl, hSn⟩
  clear hS
  have hS := hSn
  clear hSn
  dsimp only [putL, List.set, List.cons_append, List.nil_append] at hS
  go_wp2_with (first | (refine ybox hS (h := ?_); clear hS; intro _ _ hS) | (refine yall hS (h := ?_); clear hS; intro _ _ hS) | refine yld hS (h := ?_) | (refine yst hS (h := ?_); clear hS; intro _ hS))
  first | go_end0 | ((try simp only [Exit.inBlock, Exit.then]); refine bodyPost_ret (results_none rfl _ _ _) rfl ?_)
  exact ⟨rfl, (unhide HS).back1 k (unhide HI) hS⟩
set_option maxHeartbeats 4000000 in
theorem jJudge_2 (hS : Sx bs w0 w l e) (k : Nat) (hk : l[k]? = some (P, [.int .i64 sl, .int .i64 sd, .int .i64 b, .int .u64 (s : Nat), .int .u64 (sn : Nat), fn, .int .i64 rr])) (hs : Um.Word s) (hd0 : -1 ≤ sd) (hd1 : sd ≤ 2) (hh : Um.hasN s sd b = false) (h2 : Um.stN s = 2) :
    Calls Tryz.prog 159 #[.pointer (some ⟨P, 0, none⟩)] w fun r w' => r = .returned (.tuple #[]) ∧ Sx bs w0 w' (putL l [(k, P, [.int .i64 sl, .int .i64 sd, .int .i64 b, .int .u64 (s : Nat), .int .u64 (sn : Nat), .func (.func 170) #[] #[], .int .i64 rr])]) e := by
  have hq : Um.part s 27 3 = 2 := h2
  have g1 : ((Um.part s 27 3 : Nat) : Int) = 2 := by omega
  have g2 : (((Um.part s 27 3 : Nat) : Int) != 2) = false := by simpa using g1
  clear h2 hq
  have HDD := hide (And.intro hd0 hd1)
  have HHS := hide hh
  have HW := hide hs
  clear hs hd0 hd1 hh
  have HS := hide hS
  have HI := hide hk
  have hL := hS.enter1 k hk
  clear hS hk
  have hS := hL
  clear hL
  go_enter Tryz.func159, Tryz.ntmps159
  go_wp2_with fail
  obtain ⟨u, rfl⟩ := nameW hS
  have k1 := cell_regrown ((hS.get 0 rfl).cell 1 _ rfl)
  have k2 := cell_regrown ((hS.get 0 rfl).cell 2 _ rfl)
  have k3 := cell_regrown ((hS.get 0 rfl).cell 3 _ rfl)
  have HH := hide (fun w => same_below (has_any s sd b w (unhide HW)))
  rw [unhide HHS] at HH
  have HSQ := hide hS
  clear hS
  refine wp_region_quiet_below (by kernel_rfl) (by kernel_rfl) ?_
  repeat (go_big_quiet_step (first | (go_at_call 167; exact Calls.regrown_of ((unhide HH) _))))
  refine wpQuiet_nil ?_
  intro _ hw'
  obtain ⟨⟨dq, osq⟩, hw''⟩ := hw'
  subst hw''
  have hS := (unhide HSQ).call (below_regrown u dq osq)
  clear HH HSQ k1 k2 k3
  generalize grow (redrawn u dq) osq = u9 at *
  go_wp2_with (first | (refine ybox hS (h := ?_); clear hS; intro _ _ hS) | (refine yall hS (h := ?_); clear hS; intro _ _ hS) | refine yld hS (h := ?_) | (refine yst hS (h := ?_); clear hS; intro _ hS))
  obtain ⟨u, rfl⟩ := nameW hS
  have k3 := cell_regrown ((hS.get 0 rfl).cell 3 _ rfl)
  have HT := hide (fun d os => Calls.regrown_of (jState_b ((hS.call (below_regrown u d os)).get 0 rfl) (unhide HW)))
  have HSQ := hide hS
  clear hS
  refine wp_region_quiet_below (by kernel_rfl) (by kernel_rfl) ?_
  repeat (go_big_quiet_step (first | (go_at_call 157; exact (unhide HT) _ _)))
  refine wpQuiet_nil ?_
  intro _ hw'
  obtain ⟨⟨dq, osq⟩, hw''⟩ := hw'
  subst hw''
  have hS := (unhide HSQ).call (below_regrown u dq osq)
  clear HT HSQ k3
  generalize grow (redrawn u dq) osq = u8 at *
  go_wp2_with (first | (refine ybox hS (h := ?_); clear hS; intro _ _ hS) | (refine yall hS (h := ?_); clear hS; intro _ _ hS) | refine yld hS (h := ?_) | (refine yst hS (h := ?_); clear hS; intro _ hS))
  first | go_end0 | ((try simp only [Exit.inBlock, Exit.then]); refine bodyPost_ret (results_none rfl _ _ _) rfl ?_)
  exact ⟨rfl, (unhide HS).back1 k (unhide HI) hS⟩
set_option maxHeartbeats 4000000 in
theorem jJudge_n (hS : Sx bs w0 w l e) (k : Nat) (hk : l[k]? = some (P, [.int .i64 sl, .int .i64 sd, .int .i64 b, .int .u64 (s : Nat), .int .u64 (sn : Nat), fn, .int .i64 rr])) (hs : Um.Word s) (hd0 : -1 ≤ sd) (hd1 : sd ≤ 2) (hh : Um.hasN s sd b = false) (h2 : Um.stN s ≠ 2) (ha : Um.anyN s (1 - sd) = false) :
    Calls Tryz.prog 159 #[.pointer (some ⟨P, 0, none⟩)] w fun r w' => r = .returned (.tuple #[]) ∧ Sx bs w0 w' (putL l [(k, P, [.int .i64 sl, .int .i64 sd, .int .i64 b, .int .u64 (s : Nat), .int .u64 (sn : Nat), .func (.func 170) #[] #[], .int .i64 rr])]) e := by
  have hq : Um.stN s = Um.part s 27 3 := rfl
  have g1 : ¬ ((Um.part s 27 3 : Nat) : Int) = 2 := by omega
  have g2 : (((Um.part s 27 3 : Nat) : Int) != 2) = true := by simpa using g1
  have HAN := hide ha
  clear h2 hq ha
  have HDD := hide (And.intro hd0 hd1)
  have HHS := hide hh
  have HW := hide hs
  clear hs hd0 hd1 hh
  have HS := hide hS
  have HI := hide hk
  have hL := hS.enter1 k hk
  clear hS hk
  have hS := hL
  clear hL
  go_enter Tryz.func159, Tryz.ntmps159
  go_wp2_with fail
  obtain ⟨u, rfl⟩ := nameW hS
  have k1 := cell_regrown ((hS.get 0 rfl).cell 1 _ rfl)
  have k2 := cell_regrown ((hS.get 0 rfl).cell 2 _ rfl)
  have k3 := cell_regrown ((hS.get 0 rfl).cell 3 _ rfl)
  have HH := hide (fun w => same_below (has_any s sd b w (unhide HW)))
  rw [unhide HHS] at HH
  have HSQ := hide hS
  clear hS
  refine wp_region_quiet_below (by kernel_rfl) (by kernel_rfl) ?_
  repeat (go_big_quiet_step (first | (go_at_call 167; exact Calls.regrown_of ((unhide HH) _))))
  refine wpQuiet_nil ?_
  intro _ hw'
  obtain ⟨⟨dq, osq⟩, hw''⟩ := hw'
  subst hw''
  have hS := (unhide HSQ).call (below_regrown u dq osq)
  clear HH HSQ k1 k2 k3
  generalize grow (redrawn u dq) osq = u9 at *
  go_wp2_with (first | (refine ybox hS (h := ?_); clear hS; intro _ _ hS) | (refine yall hS (h := ?_); clear hS; intro _ _ hS) | refine yld hS (h := ?_) | (refine yst hS (h := ?_); clear hS; intro _ hS))
  obtain ⟨u, rfl⟩ := nameW hS
  have k3 := cell_regrown ((hS.get 0 rfl).cell 3 _ rfl)
  have HT := hide (fun d os => Calls.regrown_of (jState_b ((hS.call (below_regrown u d os)).get 0 rfl) (unhide HW)))
  have HP := hide (fun d os => Calls.regrown_of (same_below (jOpp_b ((hS.call (below_regrown u d os)).get 0 rfl) (unhide HDD).1 (unhide HDD).2)))
  have HY := hide (fun w => drew_below (any_any s (1 - sd) w (unhide HW)))
  rw [unhide HAN] at HY
  have HSQ := hide hS
  clear hS
  refine wp_region_quiet_below (by kernel_rfl) (by kernel_rfl) ?_
  repeat (go_big_quiet_step (first | (go_at_call 157; exact (unhide HT) _ _) | (go_at_call 169; exact (unhide HP) _ _) | (go_at_call 168; exact Calls.regrown_of ((unhide HY) _))))
  refine wpQuiet_nil ?_
  intro _ hw'
  obtain ⟨⟨dq, osq⟩, hw''⟩ := hw'
  subst hw''
  have hS := (unhide HSQ).call (below_regrown u dq osq)
  clear HT HP HY HSQ k3
  generalize grow (redrawn u dq) osq = u8 at *
  go_wp2_with (first | (refine ybox hS (h := ?_); clear hS; intro _ _ hS) | (refine yall hS (h := ?_); clear hS; intro _ _ hS) | refine yld hS (h := ?_) | (refine yst hS (h := ?_); clear hS; intro _ hS))
  first | go_end0 | ((try simp only [Exit.inBlock, Exit.then]); refine bodyPost_ret (results_none rfl _ _ _) rfl ?_)
  exact ⟨rfl, (unhide HS).back1 k (unhide HI) hS⟩
set_option maxHeartbeats 4000000 in
theorem jJudge_f (hS : Sx bs w0 w l e) (k : Nat) (hk : l[k]? = some (P, [.int .i64 sl, .int .i64 sd, .int .i64 b, .int .u64 (s : Nat), .int .u64 (sn : Nat), fn, .int .i64 rr])) (hs : Um.Word s) (hd0 : -1 ≤ sd) (hd1 : sd ≤ 2) (hh : Um.hasN s sd b = false) (h2 : Um.stN s ≠ 2) (ha : Um.anyN s (1 - sd) = true) :
    Calls Tryz.prog 159 #[.pointer (some ⟨P, 0, none⟩)] w fun r w' => r = .returned (.tuple #[]) ∧ Sx bs w0 w' (putL l [(k, P, [.int .i64 sl, .int .i64 sd, .int .i64 b, .int .u64 (s : Nat), .int .u64 (sn : Nat), .nilFunc, .int .i64 3])]) e := by
  have hq : Um.stN s = Um.part s 27 3 := rfl
  have g1 : ¬ ((Um.part s 27 3 : Nat) : Int) = 2 := by omega
  have g2 : (((Um.part s 27 3 : Nat) : Int) != 2) = true := by simpa using g1
  have HAN := hide ha
  clear h2 hq ha
  have HDD := hide (And.intro hd0 hd1)
  have HHS := hide hh
  have HW := hide hs
  clear hs hd0 hd1 hh
  have HS := hide hS
  have HI := hide hk
  have hL := hS.enter1 k hk
  clear hS hk
  have hS := hL
  clear hL
  go_enter Tryz.func159, Tryz.ntmps159
  go_wp2_with fail
  obtain ⟨u, rfl⟩ := nameW hS
  have k1 := cell_regrown ((hS.get 0 rfl).cell 1 _ rfl)
  have k2 := cell_regrown ((hS.get 0 rfl).cell 2 _ rfl)
  have k3 := cell_regrown ((hS.get 0 rfl).cell 3 _ rfl)
  have HH := hide (fun w => same_below (has_any s sd b w (unhide HW)))
  rw [unhide HHS] at HH
  have HSQ := hide hS
  clear hS
  refine wp_region_quiet_below (by kernel_rfl) (by kernel_rfl) ?_
  repeat (go_big_quiet_step (first | (go_at_call 167; exact Calls.regrown_of ((unhide HH) _))))
  refine wpQuiet_nil ?_
  intro _ hw'
  obtain ⟨⟨dq, osq⟩, hw''⟩ := hw'
  subst hw''
  have hS := (unhide HSQ).call (below_regrown u dq osq)
  clear HH HSQ k1 k2 k3
  generalize grow (redrawn u dq) osq = u9 at *
  go_wp2_with (first | (refine ybox hS (h := ?_); clear hS; intro _ _ hS) | (refine yall hS (h := ?_); clear hS; intro _ _ hS) | refine yld hS (h := ?_) | (refine yst hS (h := ?_); clear hS; intro _ hS))
  obtain ⟨u, rfl⟩ := nameW hS
  have k3 := cell_regrown ((hS.get 0 rfl).cell 3 _ rfl)
  have HT := hide (fun d os => Calls.regrown_of (jState_b ((hS.call (below_regrown u d os)).get 0 rfl) (unhide HW)))
  have HP := hide (fun d os => Calls.regrown_of (same_below (jOpp_b ((hS.call (below_regrown u d os)).get 0 rfl) (unhide HDD).1 (unhide HDD).2)))
  have HY := hide (fun w => drew_below (any_any s (1 - sd) w (unhide HW)))
  rw [unhide HAN] at HY
  have HSQ := hide hS
  clear hS
  refine wp_region_quiet_below (by kernel_rfl) (by kernel_rfl) ?_
  repeat (go_big_quiet_step (first | (go_at_call 157; exact (unhide HT) _ _) | (go_at_call 169; exact (unhide HP) _ _) | (go_at_call 168; exact Calls.regrown_of ((unhide HY) _))))
  refine wpQuiet_nil ?_
  intro _ hw'
  obtain ⟨⟨dq, osq⟩, hw''⟩ := hw'
  subst hw''
  have hS := (unhide HSQ).call (below_regrown u dq osq)
  clear HT HP HY HSQ k3
  generalize grow (redrawn u dq) osq = u8 at *
  go_wp2_with (first | (refine ybox hS (h := ?_); clear hS; intro _ _ hS) | (refine yall hS (h := ?_); clear hS; intro _ _ hS) | refine yld hS (h := ?_) | (refine yst hS (h := ?_); clear hS; intro _ hS))
  refine (jSay_x hS 0 rfl 3).mono ?_
  rintro r u ⟨rfl, hSn⟩
  clear hS
  have hS := hSn
  clear hSn
  dsimp only [putL, List.set, List.cons_append, List.nil_append] at hS
  go_wp2_with (first | (refine ybox hS (h := ?_); clear hS; intro _ _ hS) | (refine yall hS (h := ?_); clear hS; intro _ _ hS) | refine yld hS (h := ?_) | (refine yst hS (h := ?_); clear hS; intro _ hS))
  first | go_end0 | ((try simp only [Exit.inBlock, Exit.then]); refine bodyPost_ret (results_none rfl _ _ _) rfl ?_)
  exact ⟨rfl, (unhide HS).back1 k (unhide HI) hS⟩
end
end
end Go.Proofs.YtapgghciieloaaaGreat
