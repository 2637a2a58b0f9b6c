/-
  Texts that the laws stand on, merged (GateRA, GateB, GateX, HelpN, GateAlive, GateXR, OpenCfg, OpenG).
-/
import Derived.Test.YticaieghapjpkaaM1
import Derived.Test.YticaieghapjpkaaM13
import Derived.Test.YticaieghapjpkaaM14
import Derived.Test.YticaieghapjpkaaM15
import Derived.Test.YticaieghapjpkaaM16
import Derived.Test.YticaieghapjpkaaM5
import Derived.Test.YticaieghapjpkaaM6
import Derived.Deep.Slices
import Derived.LoopTactic
import Derived.OpenShut
import Derived.ProofKit
import Derived.ShutString
import Derived.SizedLaws
import Derived.WalkKit

/-
  The document's entering and leaving: a step, of whatever step.
-/
namespace Go.Proofs.Yticaieghapjpkaa
set_option maxRecDepth 100000
open Go.RowKit Go.Sort

/-- the document's entering, as a value -/
def entV (h : Nat) (la : Option Addr) (nl cl : Nat) (o : Um.Es) : Value := .agg #[.int .u64 (h : Nat), .slice la nl cl, .bool o.tk, .int .u64 (o.s : Nat), .int .u64 (o.w : Nat), .int .i64 o.e, .bool o.en]

/-- the document's leaving, as a value -/
def leaV (sl st : Int) (o : Um.Ls) : Value := .agg #[.int .i64 sl, .int .i64 st, .bool o.lk, .int .u64 (o.s : Nat), .bool o.dn]

theorem rStep10_any (w : World) (c : Um.Cf) (h : Nat) (la : Option Addr) (nl cl : Nat) (Z : Nat → Int) (o O2 : Um.Es) (hO : O2 = Um.estep c h (fun k => inZ Z nl ((k : Nat) : Int)) o) (g cg : Nat) (hh : Um.Word h) (ho : Um.Eok c o) (hnl : nl ≤ 50) (hZ : RowOf w la nl (fun i => .int .i64 (Z i))) (hB : BlkAt w g (rowW o.m.ws c.n)) (hr : c.r = true) (h1 : c.n ≤ cg) (h2 : cg ≤ maxLen) :
    Calls Try.prog 21 #[entV h la nl cl o, (.agg #[.int .i64 c.t, .int .i64 c.s, .int .i64 c.k, .int .i64 c.g, .int .u64 c.q, (.slice (some ⟨g, 0, none⟩) c.n cg), .int .i64 o.m.cnt, .int .i64 o.m.l.kind, .int .i64 o.m.l.a, .int .i64 o.m.l.b, .int .u64 (o.m.l.old : Nat), .int .u64 (o.m.l.new : Nat), .bool o.m.l.done])] w fun r w' => ∃ g' cg', r = .returned (.tuple #[entV h la nl cl O2, (.agg #[.int .i64 c.t, .int .i64 c.s, .int .i64 c.k, .int .i64 c.g, .int .u64 c.q, (.slice (some ⟨g', 0, none⟩) c.n cg'), .int .i64 O2.m.cnt, .int .i64 O2.m.l.kind, .int .i64 O2.m.l.a, .int .i64 O2.m.l.b, .int .u64 (O2.m.l.old : Nat), .int .u64 (O2.m.l.new : Nat), .bool O2.m.l.done])]) ∧ c.n ≤ cg' ∧ cg' ≤ maxLen ∧ Fr w g g' ∧ BlkAt w' g' (rowW O2.m.ws c.n) ∧ Below w.heap.size w w' := by
  obtain ⟨m, tk, s, wd, er, en⟩ := o
  obtain ⟨i1, i2, i3, i4⟩ := ho
  dsimp only at *
  by_cases hd : (en || !Um.ook h c.s) = true
  · have eO : O2 = ⟨m, tk, s, wd, er, en⟩ := by rw [hO]; exact Um.estep_done hd
    subst eO
    refine (rStep10_done w c m g cg h s wd la nl cl er tk en hh i2 hd hB hr i1 h1 h2).mono ?_
    rintro r w' ⟨g', cg', e1, q1, q2, hFr, _, hG, hb⟩
    exact ⟨g', cg', e1, q1, q2, hFr, hG, hb⟩
  · obtain ⟨rfl, hn⟩ : en = false ∧ Um.ook h c.s = true := by
      cases en <;> cases hq : Um.ook h c.s <;> rw [hq] at hd <;> first | exact ⟨rfl, rfl⟩ | exact absurd rfl hd
    cases tk with
    | false =>
      obtain ⟨M, hM⟩ : ∃ M, M = Um.mtouch c m 1 4 (Um.svN h) 0 0 := ⟨_, rfl⟩
      have eO : O2 = ⟨M, decide (Um.flN h (fun k => inZ Z nl ((k : Nat) : Int)) M.l.old = 0), M.l.old, wd, Um.flN h (fun k => inZ Z nl ((k : Nat) : Int)) M.l.old, !decide (Um.flN h (fun k => inZ Z nl ((k : Nat) : Int)) M.l.old = 0)⟩ := by
        rw [hO, hM]
        unfold Um.estep
        rw [if_neg (show ¬ Um.edn c h ⟨m, false, s, wd, er, false⟩ = true from hd), if_neg (show ¬ (false = true) by decide)]
      by_cases hf : Um.flN h (fun k => inZ Z nl ((k : Nat) : Int)) M.l.old = 0
      · rw [hf] at eO
        subst eO
        refine (rStep10_look0 w c m M g cg h s wd la nl cl er hh i2 Z hn hnl hZ hf hB hr i1 h1 h2 hM).mono ?_
        rintro r w' ⟨g', cg', e1, q1, q2, hFr, _, hG, hb⟩
        exact ⟨g', cg', e1, q1, q2, hFr, hG, hb⟩
      · rw [decide_eq_false hf] at eO
        subst eO
        refine (rStep10_lookn w c m M g cg h s wd la nl cl er hh i2 Z hn hnl hZ _ rfl hf hB hr i1 h1 h2 hM).mono ?_
        rintro r w' ⟨g', cg', e1, q1, q2, hFr, _, hG, hb⟩
        exact ⟨g', cg', e1, q1, q2, hFr, hG, hb⟩
    | true =>
      obtain ⟨M, hM⟩ : ∃ M, M = Um.mtouch c m 3 4 (Um.svN h) s (Um.bzN s) := ⟨_, rfl⟩
      have eO : O2 = ⟨M, false, s, if M.l.done then Um.bzN s else wd, er, M.l.done⟩ := by
        rw [hO, hM]
        unfold Um.estep
        rw [if_neg (show ¬ Um.edn c h ⟨m, true, s, wd, er, false⟩ = true from hd), if_pos rfl]
      cases hdn : M.l.done with
      | true =>
        rw [hdn, if_pos rfl] at eO
        subst eO
        refine (rStep10_take_t w c m M g cg h s wd la nl cl er hh i2 hn hdn hB hr i1 h1 h2 hM).mono ?_
        rintro r w' ⟨g', cg', e1, q1, q2, hFr, _, hG, hb⟩
        exact ⟨g', cg', e1, q1, q2, hFr, hG, hb⟩
      | false =>
        rw [hdn, if_neg (by decide)] at eO
        subst eO
        refine (rStep10_take_f w c m M g cg h s wd la nl cl er hh i2 hn hdn hB hr i1 h1 h2 hM).mono ?_
        rintro r w' ⟨g', cg', e1, q1, q2, hFr, _, hG, hb⟩
        exact ⟨g', cg', e1, q1, q2, hFr, hG, hb⟩

theorem rGo10_any (w : World) (c : Um.Cf) (sl st : Int) (o O2 : Um.Ls) (hO : O2 = Um.lstep c sl st o) (g cg : Nat) (ho : Um.Lok c o) (hB : BlkAt w g (rowW o.m.ws c.n)) (hr : c.r = true) (h1 : c.n ≤ cg) (h2 : cg ≤ maxLen) :
    Calls Try.prog 27 #[leaV sl st o, (.agg #[.int .i64 c.t, .int .i64 c.s, .int .i64 c.k, .int .i64 c.g, .int .u64 c.q, (.slice (some ⟨g, 0, none⟩) c.n cg), .int .i64 o.m.cnt, .int .i64 o.m.l.kind, .int .i64 o.m.l.a, .int .i64 o.m.l.b, .int .u64 (o.m.l.old : Nat), .int .u64 (o.m.l.new : Nat), .bool o.m.l.done])] w fun r w' => ∃ g' cg', r = .returned (.tuple #[leaV sl st O2, (.agg #[.int .i64 c.t, .int .i64 c.s, .int .i64 c.k, .int .i64 c.g, .int .u64 c.q, (.slice (some ⟨g', 0, none⟩) c.n cg'), .int .i64 O2.m.cnt, .int .i64 O2.m.l.kind, .int .i64 O2.m.l.a, .int .i64 O2.m.l.b, .int .u64 (O2.m.l.old : Nat), .int .u64 (O2.m.l.new : Nat), .bool O2.m.l.done])]) ∧ c.n ≤ cg' ∧ cg' ≤ maxLen ∧ Fr w g g' ∧ BlkAt w' g' (rowW O2.m.ws c.n) ∧ Below w.heap.size w w' := by
  obtain ⟨m, lk, s, dn⟩ := o
  obtain ⟨i1, i2⟩ := ho
  dsimp only at *
  cases dn with
  | true =>
    have eO : O2 = ⟨m, lk, s, true⟩ := by rw [hO]; exact Um.lstep_done rfl
    subst eO
    refine (rGo10_done w c m g cg sl st s lk hB hr i1 h1 h2).mono ?_
    rintro r w' ⟨g', cg', e1, q1, q2, hFr, _, hG, hb⟩
    exact ⟨g', cg', e1, q1, q2, hFr, hG, hb⟩
  | false =>
    cases lk with
    | false =>
      have eO : O2 = ⟨Um.mtouch c m 1 4 sl 0 0, true, (Um.mtouch c m 1 4 sl 0 0).l.old, false⟩ := hO
      subst eO
      refine (rGo10_look w c m _ g cg sl st s hB hr i1 h1 h2 rfl).mono ?_
      rintro r w' ⟨g', cg', e1, q1, q2, hFr, _, hG, hb⟩
      exact ⟨g', cg', e1, q1, q2, hFr, hG, hb⟩
    | true =>
      have eO : O2 = ⟨Um.mtouch c m 3 4 sl s (Um.moveN s (Um.lst st s) false), false, s, (Um.mtouch c m 3 4 sl s (Um.moveN s (Um.lst st s) false)).l.done⟩ := hO
      have h8 := Um.lst_lt st s
      by_cases hs0 : st < 0
      · have e0 : Um.lst st s = Um.stN s := by unfold Um.lst; rw [if_pos (.inl hs0)]
        subst eO
        refine (rGo10_neg w c m _ g cg sl st s _ e0.symm h8 i2 hs0 hB hr i1 h1 h2 rfl).mono ?_
        rintro r w' ⟨g', cg', e1, q1, q2, hFr, _, hG, hb⟩
        exact ⟨g', cg', e1, q1, q2, hFr, hG, hb⟩
      by_cases hs7 : 7 < st
      · have e0 : Um.lst st s = Um.stN s := by unfold Um.lst; rw [if_pos (.inr hs7)]
        subst eO
        refine (rGo10_big w c m _ g cg sl st s _ e0.symm h8 i2 hs7 hB hr i1 h1 h2 rfl).mono ?_
        rintro r w' ⟨g', cg', e1, q1, q2, hFr, _, hG, hb⟩
        exact ⟨g', cg', e1, q1, q2, hFr, hG, hb⟩
      · obtain ⟨k, rfl⟩ : ∃ k : Nat, st = k := ⟨st.toNat, by omega⟩
        have e0 : Um.lst (k : Int) s = k := by unfold Um.lst; rw [if_neg (by omega)]; omega
        rw [e0] at eO h8
        subst eO
        refine (rGo10_own w c m _ g cg sl k s h8 i2 hB hr i1 h1 h2 rfl).mono ?_
        rintro r w' ⟨g', cg', e1, q1, q2, hFr, _, hG, hb⟩
        exact ⟨g', cg', e1, q1, q2, hFr, hG, hb⟩

end Go.Proofs.Yticaieghapjpkaa

/-
  The walks of the program's gate: the steps of an entering and of a leaving, new ones.
-/
namespace Go.Proofs.Yticaieghapjpkaa
set_option maxRecDepth 100000
open Go.RowKit Go.Sort
set_option linter.unusedVariables false
set_option linter.unusedSimpArgs false

/-- what a callee has made, beside what the caller has -/
theorem Sx.plus {bs : List Nat} {w0 w w' : World} {l e n f : List (Nat × List Value)} (h : Sx bs w0 w l e) (b : Below w.heap.size w w') (h2 : Sx [] w w' n f) (hf : ∀ p ∈ f, w.heap.size ≤ p.1) : Sx bs w0 w' (l ++ n) (e ++ f) := by
  have h' := h.adds b n h2.blk (fun p hp => (h2.low p hp).resolve_left (by simp)) h2.nd
  refine ⟨h'.off, h'.low, h'.blk, h'.nd, fun p hp => ?_, fun p hp q hq => ?_⟩
  · rcases List.mem_append.1 hp with q | q
    · exact h'.eb p q
    · exact h2.eb p q
  · rcases List.mem_append.1 hp with q1 | q1
    · exact h'.ed p q1 q hq
    · rcases List.mem_append.1 hq with q2 | q2
      · have h3 := (h.blk q q2).lt
        have h4 := hf p q1
        omega
      · exact h2.ed p q1 q q2

theorem field_stat1g (a b c d e f g : Value) (w : World) : (Instr.field 137 (.agg #[a, b, c, d, e, f, g]) 1).run Try.prog w = .ok b w := by simp [Instr.field, go_sem, asAgg]

section
variable {bs : List Nat} {w0 w : World} {l e : List (Nat × List Value)} {B C P : Nat} {c : Um.Cf} {m : Um.Mm} {sl st fe : Int} {h s wd : Nat} {la : Option Addr} {nl cl : Nat} {fn : Value}

set_option maxHeartbeats 4000000 in
theorem gJudge_0 (hS : Sx bs w0 w l e) (i j k : Nat) (hi : l[i]? = some (B, memL c C m)) (hj : l[j]? = some (C, rowW m.ws c.n)) (hk : l[k]? = some (P, [.int .i64 sl, .int .u64 (s : Nat), .int .u64 (h : Nat), .slice la nl cl, fn, .int .i64 fe, .int .u64 (wd : Nat)])) (hij : i ≠ j) (hik : i ≠ k) (hjk : j ≠ k) (hr : c.r = true) (hw : WordsOk c m) (hb0 : -9223372036854775808 ≤ sl) (hb1 : sl ≤ 9223372036854775807) (M : Um.Mm) (hM : M = Um.mtouch c m 1 4 sl 0 0) (Z : Nat → Int) (hh : Um.Word h) (hnl : nl ≤ 50) (hSt : StB la nl Z e) (hf : Um.flN h (fun k => inZ Z nl ((k : Nat) : Int)) M.l.old = 0) :
    Calls Try.prog 49 #[.pointer (some ⟨P, 0, none⟩), .pointer (some ⟨B, 0, none⟩)] w fun r w' => r = .returned (.tuple #[]) ∧ WordsOk c M ∧ Sx bs w0 w' (putL l [(i, B, memL c C M), (j, C, rowW M.ws c.n), (k, P, [.int .i64 sl, .int .u64 (M.l.old : Nat), .int .u64 (h : Nat), .slice la nl cl, .func (.func 79) #[.pointer (some ⟨P, 0, none⟩)] #[], .int .i64 0, .int .u64 (wd : Nat)])]) e := by
  have HS := hide hS
  have HI := hide (And.intro hi (And.intro hj hk))
  have hL := hS.enter3e i j k hi hj hk hij hik hjk
  have HR := hide hr
  have HW := hide hw
  have HM := hide hM
  have HBD := hide (And.intro hb0 hb1)
  have HF := hide hf
  have HH := hide hh
  clear hS hi hj hk hr hw hM hb0 hb1 hf hh
  have hS := hL
  clear hL
  go_enter Try.func49, Try.ntmps49
  go_wp2_with fail
  refine (gLookE_x hS 0 1 2 rfl rfl rfl (by decide) (by decide) (by decide) (unhide HR) (unhide HW) (unhide HBD).1 (unhide HBD).2 M (unhide HM)).mono ?_
  rintro r u ⟨rfl, hWn, hSn⟩
  clear hS
  have hS := hSn
  clear hSn
  dsimp only [putL, List.set, List.cons_append, List.nil_append] at hS
  have HW6 := hide hWn
  clear hWn
  go_wp2_with fail
  refine (gAgainst_any (hS.get 2 rfl) M.l.old Z (unhide HH) hnl (hSt.row hS)).mono ?_
  rintro r u ⟨rfl, hb⟩
  replace hS := hS.call hb
  clear hb
  rw [unhide HF]
  go_wp2_with (first | (refine wpx_box hS rfl _ _ rfl _ rfl _ (by intro _; simp only [Act.put, List.setIfInBounds_toArray, List.set_cons_zero, List.set_cons_succ]; first | done | exact rfl) ?_; clear hS; intro _ _ hS; dsimp only [blit, List.set, List.cons_append, List.nil_append, Value.cells, List.toList_toArray] at hS) | (refine wpx_alloc hS rfl _ rfl _ (zer_any2 rfl) _ (by intro _; simp only [Act.put, List.setIfInBounds_toArray, List.set_cons_zero, List.set_cons_succ]; first | done | exact rfl) ?_; clear hS; intro _ _ hS; dsimp only [blit, List.set, List.cons_append, List.nil_append, Value.cells, List.toList_toArray] at hS) | (refine wpx_ld hS rfl _ _ rfl _ _ rfl ?_; (first | refine ⟨0, _, rfl, ?_⟩ | refine ⟨1, _, rfl, ?_⟩ | refine ⟨2, _, rfl, ?_⟩ | refine ⟨3, _, rfl, ?_⟩ | refine ⟨4, _, rfl, ?_⟩ | refine ⟨5, _, rfl, ?_⟩ | refine ⟨6, _, rfl, ?_⟩ | refine ⟨7, _, rfl, ?_⟩ | refine ⟨8, _, rfl, ?_⟩ | refine ⟨9, _, rfl, ?_⟩); first | refine .inl ⟨_, one_any2 rfl, rfl, _, (by simp only [Act.put, List.setIfInBounds_toArray, List.set_cons_zero, List.set_cons_succ]; first | done | exact rfl), ?_⟩ | refine .inr ⟨_, _, row_any2 rfl, rfl, (by dsimp only [cutL, List.drop, List.take]; first | done | exact rfl), _, (by simp only [Act.put, List.setIfInBounds_toArray, List.set_cons_zero, List.set_cons_succ]; first | done | exact rfl), ?_⟩) | (refine wpx_st hS rfl _ _ _ rfl rfl _ _ rfl ?_; (first | refine ⟨0, _, rfl, ?_⟩ | refine ⟨1, _, rfl, ?_⟩ | refine ⟨2, _, rfl, ?_⟩ | refine ⟨3, _, rfl, ?_⟩ | refine ⟨4, _, rfl, ?_⟩ | refine ⟨5, _, rfl, ?_⟩ | refine ⟨6, _, rfl, ?_⟩ | refine ⟨7, _, rfl, ?_⟩ | refine ⟨8, _, rfl, ?_⟩ | refine ⟨9, _, rfl, ?_⟩); refine ⟨_, (by first | exact shA rfl | exact shI rfl | exact shB rfl | exact shS rfl | exact shP rfl | exact shF rfl | exact shN rfl), _, siz_any2 rfl, (by exact rfl), (by exact rfl), (by exact rfl), ?_⟩; clear hS; intro _ hS; dsimp only [blit, List.set, List.cons_append, List.nil_append, Value.cells, List.toList_toArray] at hS))
  first | go_end0 | ((try simp only [Exit.inBlock, Exit.then]); refine bodyPost_ret (results_none rfl _ _ _) rfl ?_)
  exact ⟨rfl, unhide HW6, (unhide HS).back3 i j k (unhide HI).1 (unhide HI).2.1 (unhide HI).2.2 hS⟩

set_option maxHeartbeats 4000000 in
theorem gJudge_n (hS : Sx bs w0 w l e) (i j k : Nat) (hi : l[i]? = some (B, memL c C m)) (hj : l[j]? = some (C, rowW m.ws c.n)) (hk : l[k]? = some (P, [.int .i64 sl, .int .u64 (s : Nat), .int .u64 (h : Nat), .slice la nl cl, fn, .int .i64 fe, .int .u64 (wd : Nat)])) (hij : i ≠ j) (hik : i ≠ k) (hjk : j ≠ k) (hr : c.r = true) (hw : WordsOk c m) (hb0 : -9223372036854775808 ≤ sl) (hb1 : sl ≤ 9223372036854775807) (M : Um.Mm) (hM : M = Um.mtouch c m 1 4 sl 0 0) (Z : Nat → Int) (hh : Um.Word h) (hnl : nl ≤ 50) (hSt : StB la nl Z e) (fe2 : Int) (hf : Um.flN h (fun k => inZ Z nl ((k : Nat) : Int)) M.l.old = fe2) (hf0 : fe2 ≠ 0) :
    Calls Try.prog 49 #[.pointer (some ⟨P, 0, none⟩), .pointer (some ⟨B, 0, none⟩)] w fun r w' => r = .returned (.tuple #[]) ∧ WordsOk c M ∧ Sx bs w0 w' (putL l [(i, B, memL c C M), (j, C, rowW M.ws c.n), (k, P, [.int .i64 sl, .int .u64 (M.l.old : Nat), .int .u64 (h : Nat), .slice la nl cl, .nilFunc, .int .i64 fe2, .int .u64 (wd : Nat)])]) e := by
  have f1 : ¬ fe2 = 0 := hf0
  have f2 : (fe2 != 0) = true := by simpa using f1
  clear hf0
  have HS := hide hS
  have HI := hide (And.intro hi (And.intro hj hk))
  have hL := hS.enter3e i j k hi hj hk hij hik hjk
  have HR := hide hr
  have HW := hide hw
  have HM := hide hM
  have HBD := hide (And.intro hb0 hb1)
  have HF := hide hf
  have HH := hide hh
  clear hS hi hj hk hr hw hM hb0 hb1 hf hh
  have hS := hL
  clear hL
  go_enter Try.func49, Try.ntmps49
  go_wp2_with fail
  refine (gLookE_x hS 0 1 2 rfl rfl rfl (by decide) (by decide) (by decide) (unhide HR) (unhide HW) (unhide HBD).1 (unhide HBD).2 M (unhide HM)).mono ?_
  rintro r u ⟨rfl, hWn, hSn⟩
  clear hS
  have hS := hSn
  clear hSn
  dsimp only [putL, List.set, List.cons_append, List.nil_append] at hS
  have HW6 := hide hWn
  clear hWn
  go_wp2_with fail
  refine (gAgainst_any (hS.get 2 rfl) M.l.old Z (unhide HH) hnl (hSt.row hS)).mono ?_
  rintro r u ⟨rfl, hb⟩
  replace hS := hS.call hb
  clear hb
  rw [unhide HF]
  go_wp2_with (first | (refine wpx_box hS rfl _ _ rfl _ rfl _ (by intro _; simp only [Act.put, List.setIfInBounds_toArray, List.set_cons_zero, List.set_cons_succ]; first | done | exact rfl) ?_; clear hS; intro _ _ hS; dsimp only [blit, List.set, List.cons_append, List.nil_append, Value.cells, List.toList_toArray] at hS) | (refine wpx_alloc hS rfl _ rfl _ (zer_any2 rfl) _ (by intro _; simp only [Act.put, List.setIfInBounds_toArray, List.set_cons_zero, List.set_cons_succ]; first | done | exact rfl) ?_; clear hS; intro _ _ hS; dsimp only [blit, List.set, List.cons_append, List.nil_append, Value.cells, List.toList_toArray] at hS) | (refine wpx_ld hS rfl _ _ rfl _ _ rfl ?_; (first | refine ⟨0, _, rfl, ?_⟩ | refine ⟨1, _, rfl, ?_⟩ | refine ⟨2, _, rfl, ?_⟩ | refine ⟨3, _, rfl, ?_⟩ | refine ⟨4, _, rfl, ?_⟩ | refine ⟨5, _, rfl, ?_⟩ | refine ⟨6, _, rfl, ?_⟩ | refine ⟨7, _, rfl, ?_⟩ | refine ⟨8, _, rfl, ?_⟩ | refine ⟨9, _, rfl, ?_⟩); first | refine .inl ⟨_, one_any2 rfl, rfl, _, (by simp only [Act.put, List.setIfInBounds_toArray, List.set_cons_zero, List.set_cons_succ]; first | done | exact rfl), ?_⟩ | refine .inr ⟨_, _, row_any2 rfl, rfl, (by dsimp only [cutL, List.drop, List.take]; first | done | exact rfl), _, (by simp only [Act.put, List.setIfInBounds_toArray, List.set_cons_zero, List.set_cons_succ]; first | done | exact rfl), ?_⟩) | (refine wpx_st hS rfl _ _ _ rfl rfl _ _ rfl ?_; (first | refine ⟨0, _, rfl, ?_⟩ | refine ⟨1, _, rfl, ?_⟩ | refine ⟨2, _, rfl, ?_⟩ | refine ⟨3, _, rfl, ?_⟩ | refine ⟨4, _, rfl, ?_⟩ | refine ⟨5, _, rfl, ?_⟩ | refine ⟨6, _, rfl, ?_⟩ | refine ⟨7, _, rfl, ?_⟩ | refine ⟨8, _, rfl, ?_⟩ | refine ⟨9, _, rfl, ?_⟩); refine ⟨_, (by first | exact shA rfl | exact shI rfl | exact shB rfl | exact shS rfl | exact shP rfl | exact shF rfl | exact shN rfl), _, siz_any2 rfl, (by exact rfl), (by exact rfl), (by exact rfl), ?_⟩; clear hS; intro _ hS; dsimp only [blit, List.set, List.cons_append, List.nil_append, Value.cells, List.toList_toArray] at hS))
  first | go_end0 | ((try simp only [Exit.inBlock, Exit.then]); refine bodyPost_ret (results_none rfl _ _ _) rfl ?_)
  exact ⟨rfl, unhide HW6, (unhide HS).back3 i j k (unhide HI).1 (unhide HI).2.1 (unhide HI).2.2 hS⟩

set_option maxHeartbeats 4000000 in
theorem gTake_t (hS : Sx bs w0 w l e) (i j k : Nat) (hi : l[i]? = some (B, memL c C m)) (hj : l[j]? = some (C, rowW m.ws c.n)) (hk : l[k]? = some (P, [.int .i64 sl, .int .u64 (s : Nat), .int .u64 (h : Nat), .slice la nl cl, fn, .int .i64 fe, .int .u64 (wd : Nat)])) (hij : i ≠ j) (hik : i ≠ k) (hjk : j ≠ k) (hr : c.r = true) (hw : WordsOk c m) (hb0 : -9223372036854775808 ≤ sl) (hb1 : sl ≤ 9223372036854775807) (M : Um.Mm) (hM : M = Um.mtouch c m 3 4 sl s (Um.bzN s)) (hs : Um.Word s) (hd : M.l.done = true) :
    Calls Try.prog 79 #[.pointer (some ⟨P, 0, none⟩), .pointer (some ⟨B, 0, none⟩)] w fun r w' => r = .returned (.tuple #[]) ∧ WordsOk c M ∧ Sx bs w0 w' (putL l [(i, B, memL c C M), (j, C, rowW M.ws c.n), (k, P, [.int .i64 sl, .int .u64 (s : Nat), .int .u64 (h : Nat), .slice la nl cl, .nilFunc, .int .i64 fe, .int .u64 ((Um.bzN s : Nat) : Int)])]) e := by
  have HS := hide hS
  have HI := hide (And.intro hi (And.intro hj hk))
  have hL := hS.enter3 i j k hi hj hk hij hik hjk
  have HR := hide hr
  have HW := hide hw
  have HM := hide hM
  have HBD := hide (And.intro hb0 hb1)
  have HSW := hide hs
  have HD := hide hd
  clear hS hi hj hk hr hw hM hb0 hb1 hs hd
  have hS := hL
  clear hL
  have hf1 := field_stat1g
  go_enter Try.func79, Try.ntmps79
  go_wp2_with fail
  obtain ⟨u, rfl⟩ := nameW hS
  have kP := cell_regrown ((hS.get 2 rfl).cell 1 _ rfl)
  have HMV := hide (fun d os => Calls.regrown_of (gMovedE_b ((hS.call (below_regrown u d os)).get 2 rfl) ((Um.part s 27 3 : Nat) : Int) true (unhide HSW)))
  rw [show Um.moveN s (((Um.part s 27 3 : Nat) : Int) % 8).toNat true = Um.bzN s by rw [st_mod]; exact Um.move_bz s] at HMV
  have HSQ := hide hS
  clear hS
  refine wp_region_quiet_below (by kernel_rfl) (by kernel_rfl) ?_
  repeat (go_big_quiet_step (first | (go_at_call 95; exact Calls.regrown_of (unpack_any s _ (unhide HSW))) | (go_at_call 96; exact (unhide HMV) _ _)))
  refine wpQuiet_nil ?_
  intro _ hw'
  obtain ⟨⟨dq, osq⟩, hw''⟩ := hw'
  subst hw''
  have hS := (unhide HSQ).call (below_regrown u dq osq)
  clear HMV HSQ kP
  generalize grow (redrawn u dq) osq = u9 at *
  go_wp2_with (first | (refine wpx_box hS rfl _ _ rfl _ rfl _ (by intro _; simp only [Act.put, List.setIfInBounds_toArray, List.set_cons_zero, List.set_cons_succ]; first | done | exact rfl) ?_; clear hS; intro _ _ hS; dsimp only [blit, List.set, List.cons_append, List.nil_append, Value.cells, List.toList_toArray] at hS) | (refine wpx_alloc hS rfl _ rfl _ (zer_any2 rfl) _ (by intro _; simp only [Act.put, List.setIfInBounds_toArray, List.set_cons_zero, List.set_cons_succ]; first | done | exact rfl) ?_; clear hS; intro _ _ hS; dsimp only [blit, List.set, List.cons_append, List.nil_append, Value.cells, List.toList_toArray] at hS) | (refine wpx_ld hS rfl _ _ rfl _ _ rfl ?_; (first | refine ⟨0, _, rfl, ?_⟩ | refine ⟨1, _, rfl, ?_⟩ | refine ⟨2, _, rfl, ?_⟩ | refine ⟨3, _, rfl, ?_⟩ | refine ⟨4, _, rfl, ?_⟩ | refine ⟨5, _, rfl, ?_⟩ | refine ⟨6, _, rfl, ?_⟩ | refine ⟨7, _, rfl, ?_⟩ | refine ⟨8, _, rfl, ?_⟩ | refine ⟨9, _, rfl, ?_⟩); first | refine .inl ⟨_, one_any2 rfl, rfl, _, (by simp only [Act.put, List.setIfInBounds_toArray, List.set_cons_zero, List.set_cons_succ]; first | done | exact rfl), ?_⟩ | refine .inr ⟨_, _, row_any2 rfl, rfl, (by dsimp only [cutL, List.drop, List.take]; first | done | exact rfl), _, (by simp only [Act.put, List.setIfInBounds_toArray, List.set_cons_zero, List.set_cons_succ]; first | done | exact rfl), ?_⟩) | (refine wpx_st hS rfl _ _ _ rfl rfl _ _ rfl ?_; (first | refine ⟨0, _, rfl, ?_⟩ | refine ⟨1, _, rfl, ?_⟩ | refine ⟨2, _, rfl, ?_⟩ | refine ⟨3, _, rfl, ?_⟩ | refine ⟨4, _, rfl, ?_⟩ | refine ⟨5, _, rfl, ?_⟩ | refine ⟨6, _, rfl, ?_⟩ | refine ⟨7, _, rfl, ?_⟩ | refine ⟨8, _, rfl, ?_⟩ | refine ⟨9, _, rfl, ?_⟩); refine ⟨_, (by first | exact shA rfl | exact shI rfl | exact shB rfl | exact shS rfl | exact shP rfl | exact shF rfl | exact shN rfl), _, siz_any2 rfl, (by exact rfl), (by exact rfl), (by exact rfl), ?_⟩; clear hS; intro _ hS; dsimp only [blit, List.set, List.cons_append, List.nil_append, Value.cells, List.toList_toArray] at hS))
  refine (gSwapE_x hS 0 1 2 rfl rfl rfl (by decide) (by decide) (by decide) (unhide HR) (unhide HW) (unhide HBD).1 (unhide HBD).2 (Um.bzN s) (Um.bz_word (unhide HSW)) M (unhide HM)).mono ?_
  rintro r u ⟨rfl, hWn, hSn⟩
  clear hS
  have hS := hSn
  clear hSn
  dsimp only [putL, List.set, List.cons_append, List.nil_append] at hS
  have HW6 := hide hWn
  clear hWn
  rw [unhide HD]
  go_wp2_with (first | (refine wpx_box hS rfl _ _ rfl _ rfl _ (by intro _; simp only [Act.put, List.setIfInBounds_toArray, List.set_cons_zero, List.set_cons_succ]; first | done | exact rfl) ?_; clear hS; intro _ _ hS; dsimp only [blit, List.set, List.cons_append, List.nil_append, Value.cells, List.toList_toArray] at hS) | (refine wpx_alloc hS rfl _ rfl _ (zer_any2 rfl) _ (by intro _; simp only [Act.put, List.setIfInBounds_toArray, List.set_cons_zero, List.set_cons_succ]; first | done | exact rfl) ?_; clear hS; intro _ _ hS; dsimp only [blit, List.set, List.cons_append, List.nil_append, Value.cells, List.toList_toArray] at hS) | (refine wpx_ld hS rfl _ _ rfl _ _ rfl ?_; (first | refine ⟨0, _, rfl, ?_⟩ | refine ⟨1, _, rfl, ?_⟩ | refine ⟨2, _, rfl, ?_⟩ | refine ⟨3, _, rfl, ?_⟩ | refine ⟨4, _, rfl, ?_⟩ | refine ⟨5, _, rfl, ?_⟩ | refine ⟨6, _, rfl, ?_⟩ | refine ⟨7, _, rfl, ?_⟩ | refine ⟨8, _, rfl, ?_⟩ | refine ⟨9, _, rfl, ?_⟩); first | refine .inl ⟨_, one_any2 rfl, rfl, _, (by simp only [Act.put, List.setIfInBounds_toArray, List.set_cons_zero, List.set_cons_succ]; first | done | exact rfl), ?_⟩ | refine .inr ⟨_, _, row_any2 rfl, rfl, (by dsimp only [cutL, List.drop, List.take]; first | done | exact rfl), _, (by simp only [Act.put, List.setIfInBounds_toArray, List.set_cons_zero, List.set_cons_succ]; first | done | exact rfl), ?_⟩) | (refine wpx_st hS rfl _ _ _ rfl rfl _ _ rfl ?_; (first | refine ⟨0, _, rfl, ?_⟩ | refine ⟨1, _, rfl, ?_⟩ | refine ⟨2, _, rfl, ?_⟩ | refine ⟨3, _, rfl, ?_⟩ | refine ⟨4, _, rfl, ?_⟩ | refine ⟨5, _, rfl, ?_⟩ | refine ⟨6, _, rfl, ?_⟩ | refine ⟨7, _, rfl, ?_⟩ | refine ⟨8, _, rfl, ?_⟩ | refine ⟨9, _, rfl, ?_⟩); refine ⟨_, (by first | exact shA rfl | exact shI rfl | exact shB rfl | exact shS rfl | exact shP rfl | exact shF rfl | exact shN rfl), _, siz_any2 rfl, (by exact rfl), (by exact rfl), (by exact rfl), ?_⟩; clear hS; intro _ hS; dsimp only [blit, List.set, List.cons_append, List.nil_append, Value.cells, List.toList_toArray] at hS))
  first | go_end0 | ((try simp only [Exit.inBlock, Exit.then]); refine bodyPost_ret (results_none rfl _ _ _) rfl ?_)
  exact ⟨rfl, unhide HW6, (unhide HS).back3 i j k (unhide HI).1 (unhide HI).2.1 (unhide HI).2.2 hS⟩

set_option maxHeartbeats 4000000 in
theorem gTake_f (hS : Sx bs w0 w l e) (i j k : Nat) (hi : l[i]? = some (B, memL c C m)) (hj : l[j]? = some (C, rowW m.ws c.n)) (hk : l[k]? = some (P, [.int .i64 sl, .int .u64 (s : Nat), .int .u64 (h : Nat), .slice la nl cl, fn, .int .i64 fe, .int .u64 (wd : Nat)])) (hij : i ≠ j) (hik : i ≠ k) (hjk : j ≠ k) (hr : c.r = true) (hw : WordsOk c m) (hb0 : -9223372036854775808 ≤ sl) (hb1 : sl ≤ 9223372036854775807) (M : Um.Mm) (hM : M = Um.mtouch c m 3 4 sl s (Um.bzN s)) (hs : Um.Word s) (hd : M.l.done = false) :
    Calls Try.prog 79 #[.pointer (some ⟨P, 0, none⟩), .pointer (some ⟨B, 0, none⟩)] w fun r w' => r = .returned (.tuple #[]) ∧ WordsOk c M ∧ Sx bs w0 w' (putL l [(i, B, memL c C M), (j, C, rowW M.ws c.n), (k, P, [.int .i64 sl, .int .u64 (s : Nat), .int .u64 (h : Nat), .slice la nl cl, .func (.func 49) #[.pointer (some ⟨P, 0, none⟩)] #[], .int .i64 fe, .int .u64 (wd : Nat)])]) e := by
  have HS := hide hS
  have HI := hide (And.intro hi (And.intro hj hk))
  have hL := hS.enter3 i j k hi hj hk hij hik hjk
  have HR := hide hr
  have HW := hide hw
  have HM := hide hM
  have HBD := hide (And.intro hb0 hb1)
  have HSW := hide hs
  have HD := hide hd
  clear hS hi hj hk hr hw hM hb0 hb1 hs hd
  have hS := hL
  clear hL
  have hf1 := field_stat1g
  go_enter Try.func79, Try.ntmps79
  go_wp2_with fail
  obtain ⟨u, rfl⟩ := nameW hS
  have kP := cell_regrown ((hS.get 2 rfl).cell 1 _ rfl)
  have HMV := hide (fun d os => Calls.regrown_of (gMovedE_b ((hS.call (below_regrown u d os)).get 2 rfl) ((Um.part s 27 3 : Nat) : Int) true (unhide HSW)))
  rw [show Um.moveN s (((Um.part s 27 3 : Nat) : Int) % 8).toNat true = Um.bzN s by rw [st_mod]; exact Um.move_bz s] at HMV
  have HSQ := hide hS
  clear hS
  refine wp_region_quiet_below (by kernel_rfl) (by kernel_rfl) ?_
  repeat (go_big_quiet_step (first | (go_at_call 95; exact Calls.regrown_of (unpack_any s _ (unhide HSW))) | (go_at_call 96; exact (unhide HMV) _ _)))
  refine wpQuiet_nil ?_
  intro _ hw'
  obtain ⟨⟨dq, osq⟩, hw''⟩ := hw'
  subst hw''
  have hS := (unhide HSQ).call (below_regrown u dq osq)
  clear HMV HSQ kP
  generalize grow (redrawn u dq) osq = u9 at *
  go_wp2_with (first | (refine wpx_box hS rfl _ _ rfl _ rfl _ (by intro _; simp only [Act.put, List.setIfInBounds_toArray, List.set_cons_zero, List.set_cons_succ]; first | done | exact rfl) ?_; clear hS; intro _ _ hS; dsimp only [blit, List.set, List.cons_append, List.nil_append, Value.cells, List.toList_toArray] at hS) | (refine wpx_alloc hS rfl _ rfl _ (zer_any2 rfl) _ (by intro _; simp only [Act.put, List.setIfInBounds_toArray, List.set_cons_zero, List.set_cons_succ]; first | done | exact rfl) ?_; clear hS; intro _ _ hS; dsimp only [blit, List.set, List.cons_append, List.nil_append, Value.cells, List.toList_toArray] at hS) | (refine wpx_ld hS rfl _ _ rfl _ _ rfl ?_; (first | refine ⟨0, _, rfl, ?_⟩ | refine ⟨1, _, rfl, ?_⟩ | refine ⟨2, _, rfl, ?_⟩ | refine ⟨3, _, rfl, ?_⟩ | refine ⟨4, _, rfl, ?_⟩ | refine ⟨5, _, rfl, ?_⟩ | refine ⟨6, _, rfl, ?_⟩ | refine ⟨7, _, rfl, ?_⟩ | refine ⟨8, _, rfl, ?_⟩ | refine ⟨9, _, rfl, ?_⟩); first | refine .inl ⟨_, one_any2 rfl, rfl, _, (by simp only [Act.put, List.setIfInBounds_toArray, List.set_cons_zero, List.set_cons_succ]; first | done | exact rfl), ?_⟩ | refine .inr ⟨_, _, row_any2 rfl, rfl, (by dsimp only [cutL, List.drop, List.take]; first | done | exact rfl), _, (by simp only [Act.put, List.setIfInBounds_toArray, List.set_cons_zero, List.set_cons_succ]; first | done | exact rfl), ?_⟩) | (refine wpx_st hS rfl _ _ _ rfl rfl _ _ rfl ?_; (first | refine ⟨0, _, rfl, ?_⟩ | refine ⟨1, _, rfl, ?_⟩ | refine ⟨2, _, rfl, ?_⟩ | refine ⟨3, _, rfl, ?_⟩ | refine ⟨4, _, rfl, ?_⟩ | refine ⟨5, _, rfl, ?_⟩ | refine ⟨6, _, rfl, ?_⟩ | refine ⟨7, _, rfl, ?_⟩ | refine ⟨8, _, rfl, ?_⟩ | refine ⟨9, _, rfl, ?_⟩); refine ⟨_, (by first | exact shA rfl | exact shI rfl | exact shB rfl | exact shS rfl | exact shP rfl | exact shF rfl | exact shN rfl), _, siz_any2 rfl, (by exact rfl), (by exact rfl), (by exact rfl), ?_⟩; clear hS; intro _ hS; dsimp only [blit, List.set, List.cons_append, List.nil_append, Value.cells, List.toList_toArray] at hS))
  refine (gSwapE_x hS 0 1 2 rfl rfl rfl (by decide) (by decide) (by decide) (unhide HR) (unhide HW) (unhide HBD).1 (unhide HBD).2 (Um.bzN s) (Um.bz_word (unhide HSW)) M (unhide HM)).mono ?_
  rintro r u ⟨rfl, hWn, hSn⟩
  clear hS
  have hS := hSn
  clear hSn
  dsimp only [putL, List.set, List.cons_append, List.nil_append] at hS
  have HW6 := hide hWn
  clear hWn
  rw [unhide HD]
  go_wp2_with (first | (refine wpx_box hS rfl _ _ rfl _ rfl _ (by intro _; simp only [Act.put, List.setIfInBounds_toArray, List.set_cons_zero, List.set_cons_succ]; first | done | exact rfl) ?_; clear hS; intro _ _ hS; dsimp only [blit, List.set, List.cons_append, List.nil_append, Value.cells, List.toList_toArray] at hS) | (refine wpx_alloc hS rfl _ rfl _ (zer_any2 rfl) _ (by intro _; simp only [Act.put, List.setIfInBounds_toArray, List.set_cons_zero, List.set_cons_succ]; first | done | exact rfl) ?_; clear hS; intro _ _ hS; dsimp only [blit, List.set, List.cons_append, List.nil_append, Value.cells, List.toList_toArray] at hS) | (refine wpx_ld hS rfl _ _ rfl _ _ rfl ?_; (first | refine ⟨0, _, rfl, ?_⟩ | refine ⟨1, _, rfl, ?_⟩ | refine ⟨2, _, rfl, ?_⟩ | refine ⟨3, _, rfl, ?_⟩ | refine ⟨4, _, rfl, ?_⟩ | refine ⟨5, _, rfl, ?_⟩ | refine ⟨6, _, rfl, ?_⟩ | refine ⟨7, _, rfl, ?_⟩ | refine ⟨8, _, rfl, ?_⟩ | refine ⟨9, _, rfl, ?_⟩); first | refine .inl ⟨_, one_any2 rfl, rfl, _, (by simp only [Act.put, List.setIfInBounds_toArray, List.set_cons_zero, List.set_cons_succ]; first | done | exact rfl), ?_⟩ | refine .inr ⟨_, _, row_any2 rfl, rfl, (by dsimp only [cutL, List.drop, List.take]; first | done | exact rfl), _, (by simp only [Act.put, List.setIfInBounds_toArray, List.set_cons_zero, List.set_cons_succ]; first | done | exact rfl), ?_⟩) | (refine wpx_st hS rfl _ _ _ rfl rfl _ _ rfl ?_; (first | refine ⟨0, _, rfl, ?_⟩ | refine ⟨1, _, rfl, ?_⟩ | refine ⟨2, _, rfl, ?_⟩ | refine ⟨3, _, rfl, ?_⟩ | refine ⟨4, _, rfl, ?_⟩ | refine ⟨5, _, rfl, ?_⟩ | refine ⟨6, _, rfl, ?_⟩ | refine ⟨7, _, rfl, ?_⟩ | refine ⟨8, _, rfl, ?_⟩ | refine ⟨9, _, rfl, ?_⟩); refine ⟨_, (by first | exact shA rfl | exact shI rfl | exact shB rfl | exact shS rfl | exact shP rfl | exact shF rfl | exact shN rfl), _, siz_any2 rfl, (by exact rfl), (by exact rfl), (by exact rfl), ?_⟩; clear hS; intro _ hS; dsimp only [blit, List.set, List.cons_append, List.nil_append, Value.cells, List.toList_toArray] at hS))
  first | go_end0 | ((try simp only [Exit.inBlock, Exit.then]); refine bodyPost_ret (results_none rfl _ _ _) rfl ?_)
  exact ⟨rfl, unhide HW6, (unhide HS).back3 i j k (unhide HI).1 (unhide HI).2.1 (unhide HI).2.2 hS⟩

set_option maxHeartbeats 2000000 in
theorem gStep_judge {Q : World → Prop} (hS : Sx bs w0 w l e) (i j k : Nat) (hi : l[i]? = some (B, memL c C m)) (hj : l[j]? = some (C, rowW m.ws c.n)) (hk : l[k]? = some (P, [.int .i64 sl, .int .u64 (s : Nat), .int .u64 (h : Nat), .slice la nl cl, .func (.func 49) #[.pointer (some ⟨P, 0, none⟩)] #[], .int .i64 fe, .int .u64 (wd : Nat)])) (hij : i ≠ j) (hr : c.r = true) (hw : WordsOk c m) (hh : Um.Word h) (hn : Um.ook h c.s = true) (hC : ∀ w1, Below w.heap.size w w1 → Calls Try.prog 49 #[.pointer (some ⟨P, 0, none⟩), .pointer (some ⟨B, 0, none⟩)] w1 fun r w' => r = .returned (.tuple #[]) ∧ Q w') :
    Calls Try.prog 20 #[.pointer (some ⟨P, 0, none⟩), .pointer (some ⟨B, 0, none⟩)] w fun r w' => r = .returned (.tuple #[]) ∧ Q w' := by
  have HD := hide (gDone_f _ _ _ hS i j k hi hj hk hij hr hw hh)
  rw [hn] at HD
  have HC := hide hC
  have HB := hide (hS.get k hk)
  clear hC hS hi hj hk hij hr hw hh hn
  go_enter Try.func20, Try.ntmps20
  go_wp2_with fail
  refine (unhide HD).mono ?_
  rintro r u ⟨rfl, hb⟩
  have h2 := ((unhide HB).below hb).cell 4 _ rfl
  have HBL := hide hb
  clear HD hb
  go_wp2_with fail
  refine ((unhide HC) _ (unhide HBL)).mono ?_
  rintro r u2 ⟨rfl, hQ⟩
  have H2 := hide hQ
  clear hQ h2 HC HBL
  go_wp2
  go_end0
  exact ⟨rfl, unhide H2⟩

set_option maxHeartbeats 2000000 in
theorem gStep_take {Q : World → Prop} (hS : Sx bs w0 w l e) (i j k : Nat) (hi : l[i]? = some (B, memL c C m)) (hj : l[j]? = some (C, rowW m.ws c.n)) (hk : l[k]? = some (P, [.int .i64 sl, .int .u64 (s : Nat), .int .u64 (h : Nat), .slice la nl cl, .func (.func 79) #[.pointer (some ⟨P, 0, none⟩)] #[], .int .i64 fe, .int .u64 (wd : Nat)])) (hij : i ≠ j) (hr : c.r = true) (hw : WordsOk c m) (hh : Um.Word h) (hn : Um.ook h c.s = true) (hC : ∀ w1, Below w.heap.size w w1 → Calls Try.prog 79 #[.pointer (some ⟨P, 0, none⟩), .pointer (some ⟨B, 0, none⟩)] w1 fun r w' => r = .returned (.tuple #[]) ∧ Q w') :
    Calls Try.prog 20 #[.pointer (some ⟨P, 0, none⟩), .pointer (some ⟨B, 0, none⟩)] w fun r w' => r = .returned (.tuple #[]) ∧ Q w' := by
  have HD := hide (gDone_f _ _ _ hS i j k hi hj hk hij hr hw hh)
  rw [hn] at HD
  have HC := hide hC
  have HB := hide (hS.get k hk)
  clear hC hS hi hj hk hij hr hw hh hn
  go_enter Try.func20, Try.ntmps20
  go_wp2_with fail
  refine (unhide HD).mono ?_
  rintro r u ⟨rfl, hb⟩
  have h2 := ((unhide HB).below hb).cell 4 _ rfl
  have HBL := hide hb
  clear HD hb
  go_wp2_with fail
  refine ((unhide HC) _ (unhide HBL)).mono ?_
  rintro r u2 ⟨rfl, hQ⟩
  have H2 := hide hQ
  clear hQ h2 HC HBL
  go_wp2
  go_end0
  exact ⟨rfl, unhide H2⟩

set_option maxHeartbeats 2000000 in
theorem gStep_done (hS : Sx bs w0 w l e) (i j k : Nat) (hi : l[i]? = some (B, memL c C m)) (hj : l[j]? = some (C, rowW m.ws c.n)) (hk : l[k]? = some (P, [.int .i64 sl, .int .u64 (s : Nat), .int .u64 (h : Nat), .slice la nl cl, fn, .int .i64 fe, .int .u64 (wd : Nat)])) (hij : i ≠ j) (hr : c.r = true) (hw : WordsOk c m) (hh : Um.Word h) (hD : Calls Try.prog 13 #[.pointer (some ⟨P, 0, none⟩), .pointer (some ⟨B, 0, none⟩)] w fun r w' => r = .returned (.bool true) ∧ Below w.heap.size w w') :
    Calls Try.prog 20 #[.pointer (some ⟨P, 0, none⟩), .pointer (some ⟨B, 0, none⟩)] w fun r w' => r = .returned (.tuple #[]) ∧ Below w.heap.size w w' := by
  have HD := hide hD
  clear hD hS hi hj hk hij hr hw hh
  go_enter Try.func20, Try.ntmps20
  go_wp2_with fail
  refine (unhide HD).mono ?_
  rintro r u ⟨rfl, hb⟩
  clear HD
  go_wp2
  go_end0
  exact ⟨rfl, hb⟩

set_option maxHeartbeats 2000000 in
theorem gNew_x (hS : Sx bs w0 w l e) (h : Nat) (hh : Um.Word h) {la : Option Addr} {nl cl : Nat} {Z : Nat → Int} (hT : Told w la nl cl Z) :
    Calls Try.prog 11 #[.int .u64 (h : Nat), .slice la nl cl] w fun r w' => ∃ P la' cl' sb, r = .returned (.pointer (some ⟨P, 0, none⟩)) ∧ StB la' nl Z sb ∧ Sx bs w0 w' (l ++ [(P, [.int .i64 (Um.svN h), .int .u64 (0 : Nat), .int .u64 (h : Nat), .slice la' nl cl', .func (.func 49) #[.pointer (some ⟨P, 0, none⟩)] #[], .int .i64 0, .int .u64 (0 : Nat)])]) (e ++ sb) := by
  have HS := hide hS
  have HT := hide hT
  have HH := hide hh
  clear hS hT hh
  have hS := Sx.new w
  go_enter Try.func11, Try.ntmps11
  go_wp2_with fail
  refine (kSlot_any h _ (unhide HH)).mono ?_
  rintro r u ⟨rfl, hb⟩
  replace hS := hS.call hb
  clear hb
  go_wp2_with (first | (refine wpx_box hS rfl _ _ rfl _ rfl _ (by intro _; simp only [Act.put, List.setIfInBounds_toArray, List.set_cons_zero, List.set_cons_succ]; first | done | exact rfl) ?_; clear hS; intro _ _ hS; dsimp only [blit, List.set, List.cons_append, List.nil_append, Value.cells, List.toList_toArray] at hS) | (refine wpx_alloc hS rfl _ rfl _ (zer_any2 rfl) _ (by intro _; simp only [Act.put, List.setIfInBounds_toArray, List.set_cons_zero, List.set_cons_succ]; first | done | exact rfl) ?_; clear hS; intro _ _ hS; dsimp only [blit, List.set, List.cons_append, List.nil_append, Value.cells, List.toList_toArray] at hS) | (refine wpx_ld hS rfl _ _ rfl _ _ rfl ?_; (first | refine ⟨0, _, rfl, ?_⟩ | refine ⟨1, _, rfl, ?_⟩ | refine ⟨2, _, rfl, ?_⟩ | refine ⟨3, _, rfl, ?_⟩ | refine ⟨4, _, rfl, ?_⟩ | refine ⟨5, _, rfl, ?_⟩ | refine ⟨6, _, rfl, ?_⟩ | refine ⟨7, _, rfl, ?_⟩ | refine ⟨8, _, rfl, ?_⟩ | refine ⟨9, _, rfl, ?_⟩); first | refine .inl ⟨_, one_any2 rfl, rfl, _, (by simp only [Act.put, List.setIfInBounds_toArray, List.set_cons_zero, List.set_cons_succ]; first | done | exact rfl), ?_⟩ | refine .inr ⟨_, _, row_any2 rfl, rfl, (by dsimp only [cutL, List.drop, List.take]; first | done | exact rfl), _, (by simp only [Act.put, List.setIfInBounds_toArray, List.set_cons_zero, List.set_cons_succ]; first | done | exact rfl), ?_⟩) | (refine wpx_st hS rfl _ _ _ rfl rfl _ _ rfl ?_; (first | refine ⟨0, _, rfl, ?_⟩ | refine ⟨1, _, rfl, ?_⟩ | refine ⟨2, _, rfl, ?_⟩ | refine ⟨3, _, rfl, ?_⟩ | refine ⟨4, _, rfl, ?_⟩ | refine ⟨5, _, rfl, ?_⟩ | refine ⟨6, _, rfl, ?_⟩ | refine ⟨7, _, rfl, ?_⟩ | refine ⟨8, _, rfl, ?_⟩ | refine ⟨9, _, rfl, ?_⟩); refine ⟨_, (by first | exact shA rfl | exact shI rfl | exact shB rfl | exact shS rfl | exact shP rfl | exact shF rfl | exact shN rfl), _, siz_any2 rfl, (by exact rfl), (by exact rfl), (by exact rfl), ?_⟩; clear hS; intro _ hS; dsimp only [blit, List.set, List.cons_append, List.nil_append, Value.cells, List.toList_toArray] at hS))
  have HSZ := hS.bel.size
  refine (gClone_x hS ((unhide HT).below hS.bel)).mono ?_
  rintro r u ⟨la', cl', sb, rfl, hSB, hLO, hSn⟩
  clear hS
  have hS := hSn
  clear hSn
  dsimp only [putL, List.set, List.cons_append, List.nil_append] at hS
  have HSB := hide hSB
  have HLO := hide (fun p hp => Nat.le_trans HSZ (hLO p hp))
  clear hSB hLO HSZ
  go_wp2_with (first | (refine wpx_box hS rfl _ _ rfl _ rfl _ (by intro _; simp only [Act.put, List.setIfInBounds_toArray, List.set_cons_zero, List.set_cons_succ]; first | done | exact rfl) ?_; clear hS; intro _ _ hS; dsimp only [blit, List.set, List.cons_append, List.nil_append, Value.cells, List.toList_toArray] at hS) | (refine wpx_alloc hS rfl _ rfl _ (zer_any2 rfl) _ (by intro _; simp only [Act.put, List.setIfInBounds_toArray, List.set_cons_zero, List.set_cons_succ]; first | done | exact rfl) ?_; clear hS; intro _ _ hS; dsimp only [blit, List.set, List.cons_append, List.nil_append, Value.cells, List.toList_toArray] at hS) | (refine wpx_ld hS rfl _ _ rfl _ _ rfl ?_; (first | refine ⟨0, _, rfl, ?_⟩ | refine ⟨1, _, rfl, ?_⟩ | refine ⟨2, _, rfl, ?_⟩ | refine ⟨3, _, rfl, ?_⟩ | refine ⟨4, _, rfl, ?_⟩ | refine ⟨5, _, rfl, ?_⟩ | refine ⟨6, _, rfl, ?_⟩ | refine ⟨7, _, rfl, ?_⟩ | refine ⟨8, _, rfl, ?_⟩ | refine ⟨9, _, rfl, ?_⟩); first | refine .inl ⟨_, one_any2 rfl, rfl, _, (by simp only [Act.put, List.setIfInBounds_toArray, List.set_cons_zero, List.set_cons_succ]; first | done | exact rfl), ?_⟩ | refine .inr ⟨_, _, row_any2 rfl, rfl, (by dsimp only [cutL, List.drop, List.take]; first | done | exact rfl), _, (by simp only [Act.put, List.setIfInBounds_toArray, List.set_cons_zero, List.set_cons_succ]; first | done | exact rfl), ?_⟩) | (refine wpx_st hS rfl _ _ _ rfl rfl _ _ rfl ?_; (first | refine ⟨0, _, rfl, ?_⟩ | refine ⟨1, _, rfl, ?_⟩ | refine ⟨2, _, rfl, ?_⟩ | refine ⟨3, _, rfl, ?_⟩ | refine ⟨4, _, rfl, ?_⟩ | refine ⟨5, _, rfl, ?_⟩ | refine ⟨6, _, rfl, ?_⟩ | refine ⟨7, _, rfl, ?_⟩ | refine ⟨8, _, rfl, ?_⟩ | refine ⟨9, _, rfl, ?_⟩); refine ⟨_, (by first | exact shA rfl | exact shI rfl | exact shB rfl | exact shS rfl | exact shP rfl | exact shF rfl | exact shN rfl), _, siz_any2 rfl, (by exact rfl), (by exact rfl), (by exact rfl), ?_⟩; clear hS; intro _ hS; dsimp only [blit, List.set, List.cons_append, List.nil_append, Value.cells, List.toList_toArray] at hS))
  go_ret
  obtain ⟨P, rfl⟩ := nameB hS 0 rfl
  refine ⟨P, la', cl', sb, rfl, unhide HSB, ?_⟩
  exact (unhide HS).plus hS.bel hS (unhide HLO)

set_option maxHeartbeats 1000000 in
theorem gNewLeave_x (hS : Sx bs w0 w l e) (sl st : Int) :
    Calls Try.prog 25 #[.int .i64 sl, .int .i64 st] w fun r w' => ∃ P, r = .returned (.pointer (some ⟨P, 0, none⟩)) ∧ Sx bs w0 w' (l ++ [(P, [.int .i64 sl, .int .u64 (0 : Nat), .int .i64 st, .func (.func 59) #[.pointer (some ⟨P, 0, none⟩)] #[]])]) e := by
  have HS := hide hS
  clear hS
  have hS := Sx.new w
  go_enter Try.func25, Try.ntmps25
  go_wp2_with (first | (refine wpx_box hS rfl _ _ rfl _ rfl _ (by intro _; simp only [Act.put, List.setIfInBounds_toArray, List.set_cons_zero, List.set_cons_succ]; first | done | exact rfl) ?_; clear hS; intro _ _ hS; dsimp only [blit, List.set, List.cons_append, List.nil_append, Value.cells, List.toList_toArray] at hS) | (refine wpx_alloc hS rfl _ rfl _ (zer_any2 rfl) _ (by intro _; simp only [Act.put, List.setIfInBounds_toArray, List.set_cons_zero, List.set_cons_succ]; first | done | exact rfl) ?_; clear hS; intro _ _ hS; dsimp only [blit, List.set, List.cons_append, List.nil_append, Value.cells, List.toList_toArray] at hS) | (refine wpx_ld hS rfl _ _ rfl _ _ rfl ?_; (first | refine ⟨0, _, rfl, ?_⟩ | refine ⟨1, _, rfl, ?_⟩ | refine ⟨2, _, rfl, ?_⟩ | refine ⟨3, _, rfl, ?_⟩ | refine ⟨4, _, rfl, ?_⟩ | refine ⟨5, _, rfl, ?_⟩ | refine ⟨6, _, rfl, ?_⟩ | refine ⟨7, _, rfl, ?_⟩ | refine ⟨8, _, rfl, ?_⟩ | refine ⟨9, _, rfl, ?_⟩); first | refine .inl ⟨_, one_any2 rfl, rfl, _, (by simp only [Act.put, List.setIfInBounds_toArray, List.set_cons_zero, List.set_cons_succ]; first | done | exact rfl), ?_⟩ | refine .inr ⟨_, _, row_any2 rfl, rfl, (by dsimp only [cutL, List.drop, List.take]; first | done | exact rfl), _, (by simp only [Act.put, List.setIfInBounds_toArray, List.set_cons_zero, List.set_cons_succ]; first | done | exact rfl), ?_⟩) | (refine wpx_st hS rfl _ _ _ rfl rfl _ _ rfl ?_; (first | refine ⟨0, _, rfl, ?_⟩ | refine ⟨1, _, rfl, ?_⟩ | refine ⟨2, _, rfl, ?_⟩ | refine ⟨3, _, rfl, ?_⟩ | refine ⟨4, _, rfl, ?_⟩ | refine ⟨5, _, rfl, ?_⟩ | refine ⟨6, _, rfl, ?_⟩ | refine ⟨7, _, rfl, ?_⟩ | refine ⟨8, _, rfl, ?_⟩ | refine ⟨9, _, rfl, ?_⟩); refine ⟨_, (by first | exact shA rfl | exact shI rfl | exact shB rfl | exact shS rfl | exact shP rfl | exact shF rfl | exact shN rfl), _, siz_any2 rfl, (by exact rfl), (by exact rfl), (by exact rfl), ?_⟩; clear hS; intro _ hS; dsimp only [blit, List.set, List.cons_append, List.nil_append, Value.cells, List.toList_toArray] at hS))
  go_ret
  obtain ⟨P, rfl⟩ := nameB hS 0 rfl
  exact ⟨P, rfl, (unhide HS).add hS.bel (hS.get 0 rfl) ((hS.low _ (List.mem_of_getElem? (i := 0) rfl)).resolve_left (by simp))⟩

set_option maxHeartbeats 1000000 in
theorem gTarget_in (hB : BlkAt w P [.int .i64 sl, .int .u64 (s : Nat), .int .i64 st, fn]) (h0 : 0 ≤ st) (h1 : st ≤ 7) : Calls Try.prog 99 #[.pointer (some ⟨P, 0, none⟩)] w fun r w' => r = .returned (.int .i64 st) ∧ Below w.heap.size w w' := by
  have k2 := hB.cell 2 _ rfl
  have d1 : decide (st < 0) = false := decide_eq_false (by omega)
  have d2 : decide (7 < st) = false := decide_eq_false (by omega)
  have d3 : ¬ st < 0 := by omega
  have d4 : ¬ 7 < st := by omega
  clear hB h0 h1
  go_enter Try.func99, Try.ntmps99
  go_wp2
  go_ret
  exact ⟨rfl, Below.refl _ _⟩

set_option maxHeartbeats 1000000 in
theorem gTarget_neg (hB : BlkAt w P [.int .i64 sl, .int .u64 (s : Nat), .int .i64 st, fn]) (hs : Um.Word s) (h0 : st < 0) : Calls Try.prog 99 #[.pointer (some ⟨P, 0, none⟩)] w fun r w' => r = .returned (.int .i64 ((Um.part s 27 3 : Nat) : Int)) ∧ Below w.heap.size w w' := by
  have k2 := hB.cell 2 _ rfl
  have k1 := hB.cell 1 _ rfl
  have hf1 := field_stat1g
  have d1 : decide (st < 0) = true := decide_eq_true h0
  have HC := hide (fun w => unpack_any s w hs)
  clear hB hs
  go_enter Try.func99, Try.ntmps99
  go_wp2_with fail
  refine ((unhide HC) _).mono ?_
  rintro r u ⟨rfl, hb⟩
  clear HC
  go_wp2
  go_ret
  exact ⟨rfl, hb⟩

set_option maxHeartbeats 1000000 in
theorem gTarget_big (hB : BlkAt w P [.int .i64 sl, .int .u64 (s : Nat), .int .i64 st, fn]) (hs : Um.Word s) (h0 : 7 < st) : Calls Try.prog 99 #[.pointer (some ⟨P, 0, none⟩)] w fun r w' => r = .returned (.int .i64 ((Um.part s 27 3 : Nat) : Int)) ∧ Below w.heap.size w w' := by
  have k2 := hB.cell 2 _ rfl
  have k1 := hB.cell 1 _ rfl
  have hf1 := field_stat1g
  have d1 : decide (st < 0) = false := decide_eq_false (by omega)
  have d3 : ¬ st < 0 := by omega
  have d2 : decide (7 < st) = true := decide_eq_true h0
  have HC := hide (fun w => unpack_any s w hs)
  clear hB hs
  go_enter Try.func99, Try.ntmps99
  go_wp2_with fail
  refine ((unhide HC) _).mono ?_
  rintro r u ⟨rfl, hb⟩
  clear HC
  go_wp2
  go_ret
  exact ⟨rfl, hb⟩

theorem gTarget_any (hB : BlkAt w P [.int .i64 sl, .int .u64 (s : Nat), .int .i64 st, fn]) (hs : Um.Word s) : Calls Try.prog 99 #[.pointer (some ⟨P, 0, none⟩)] w fun r w' => r = .returned (.int .i64 ((Um.lst st s : Nat) : Int)) ∧ Below w.heap.size w w' := by
  by_cases h0 : st < 0
  · rw [show Um.lst st s = Um.part s 27 3 by unfold Um.lst; rw [if_pos (.inl h0)]; rfl]
    exact gTarget_neg hB hs h0
  by_cases h7 : 7 < st
  · rw [show Um.lst st s = Um.part s 27 3 by unfold Um.lst; rw [if_pos (.inr h7)]; rfl]
    exact gTarget_big hB hs h7
  · rw [show ((Um.lst st s : Nat) : Int) = st by unfold Um.lst; rw [if_neg (by omega)]; omega]
    exact gTarget_in hB (by omega) (by omega)

set_option maxHeartbeats 4000000 in
theorem gAsk_x (hS : Sx bs w0 w l e) (i j k : Nat) (hi : l[i]? = some (B, memL c C m)) (hj : l[j]? = some (C, rowW m.ws c.n)) (hk : l[k]? = some (P, [.int .i64 sl, .int .u64 (s : Nat), .int .i64 st, fn])) (hij : i ≠ j) (hik : i ≠ k) (hjk : j ≠ k) (hr : c.r = true) (hw : WordsOk c m) (hb0 : -9223372036854775808 ≤ sl) (hb1 : sl ≤ 9223372036854775807) (M : Um.Mm) (hM : M = Um.mtouch c m 1 4 sl 0 0) :
    Calls Try.prog 59 #[.pointer (some ⟨P, 0, none⟩), .pointer (some ⟨B, 0, none⟩)] w fun r w' => r = .returned (.tuple #[]) ∧ WordsOk c M ∧ Sx bs w0 w' (putL l [(i, B, memL c C M), (j, C, rowW M.ws c.n), (k, P, [.int .i64 sl, .int .u64 (M.l.old : Nat), .int .i64 st, .func (.func 87) #[.pointer (some ⟨P, 0, none⟩)] #[]])]) e := by
  have HS := hide hS
  have HI := hide (And.intro hi (And.intro hj hk))
  have hL := hS.enter3 i j k hi hj hk hij hik hjk
  have HR := hide hr
  have HW := hide hw
  have HM := hide hM
  have HBD := hide (And.intro hb0 hb1)
  clear hS hi hj hk hr hw hM hb0 hb1 
  have hS := hL
  clear hL
  go_enter Try.func59, Try.ntmps59
  go_wp2_with fail
  refine (gLookL_x hS 0 1 2 rfl rfl rfl (by decide) (by decide) (by decide) (unhide HR) (unhide HW) (unhide HBD).1 (unhide HBD).2 M (unhide HM)).mono ?_
  rintro r u ⟨rfl, hWn, hSn⟩
  clear hS
  have hS := hSn
  clear hSn
  dsimp only [putL, List.set, List.cons_append, List.nil_append] at hS
  have HW6 := hide hWn
  clear hWn
  go_wp2_with (first | (refine wpx_box hS rfl _ _ rfl _ rfl _ (by intro _; simp only [Act.put, List.setIfInBounds_toArray, List.set_cons_zero, List.set_cons_succ]; first | done | exact rfl) ?_; clear hS; intro _ _ hS; dsimp only [blit, List.set, List.cons_append, List.nil_append, Value.cells, List.toList_toArray] at hS) | (refine wpx_alloc hS rfl _ rfl _ (zer_any2 rfl) _ (by intro _; simp only [Act.put, List.setIfInBounds_toArray, List.set_cons_zero, List.set_cons_succ]; first | done | exact rfl) ?_; clear hS; intro _ _ hS; dsimp only [blit, List.set, List.cons_append, List.nil_append, Value.cells, List.toList_toArray] at hS) | (refine wpx_ld hS rfl _ _ rfl _ _ rfl ?_; (first | refine ⟨0, _, rfl, ?_⟩ | refine ⟨1, _, rfl, ?_⟩ | refine ⟨2, _, rfl, ?_⟩ | refine ⟨3, _, rfl, ?_⟩ | refine ⟨4, _, rfl, ?_⟩ | refine ⟨5, _, rfl, ?_⟩ | refine ⟨6, _, rfl, ?_⟩ | refine ⟨7, _, rfl, ?_⟩ | refine ⟨8, _, rfl, ?_⟩ | refine ⟨9, _, rfl, ?_⟩); first | refine .inl ⟨_, one_any2 rfl, rfl, _, (by simp only [Act.put, List.setIfInBounds_toArray, List.set_cons_zero, List.set_cons_succ]; first | done | exact rfl), ?_⟩ | refine .inr ⟨_, _, row_any2 rfl, rfl, (by dsimp only [cutL, List.drop, List.take]; first | done | exact rfl), _, (by simp only [Act.put, List.setIfInBounds_toArray, List.set_cons_zero, List.set_cons_succ]; first | done | exact rfl), ?_⟩) | (refine wpx_st hS rfl _ _ _ rfl rfl _ _ rfl ?_; (first | refine ⟨0, _, rfl, ?_⟩ | refine ⟨1, _, rfl, ?_⟩ | refine ⟨2, _, rfl, ?_⟩ | refine ⟨3, _, rfl, ?_⟩ | refine ⟨4, _, rfl, ?_⟩ | refine ⟨5, _, rfl, ?_⟩ | refine ⟨6, _, rfl, ?_⟩ | refine ⟨7, _, rfl, ?_⟩ | refine ⟨8, _, rfl, ?_⟩ | refine ⟨9, _, rfl, ?_⟩); refine ⟨_, (by first | exact shA rfl | exact shI rfl | exact shB rfl | exact shS rfl | exact shP rfl | exact shF rfl | exact shN rfl), _, siz_any2 rfl, (by exact rfl), (by exact rfl), (by exact rfl), ?_⟩; clear hS; intro _ hS; dsimp only [blit, List.set, List.cons_append, List.nil_append, Value.cells, List.toList_toArray] at hS))
  first | go_end0 | ((try simp only [Exit.inBlock, Exit.then]); refine bodyPost_ret (results_none rfl _ _ _) rfl ?_)
  exact ⟨rfl, unhide HW6, (unhide HS).back3 i j k (unhide HI).1 (unhide HI).2.1 (unhide HI).2.2 hS⟩

set_option maxHeartbeats 4000000 in
theorem gLay_t (hS : Sx bs w0 w l e) (i j k : Nat) (hi : l[i]? = some (B, memL c C m)) (hj : l[j]? = some (C, rowW m.ws c.n)) (hk : l[k]? = some (P, [.int .i64 sl, .int .u64 (s : Nat), .int .i64 st, fn])) (hij : i ≠ j) (hik : i ≠ k) (hjk : j ≠ k) (hr : c.r = true) (hw : WordsOk c m) (hb0 : -9223372036854775808 ≤ sl) (hb1 : sl ≤ 9223372036854775807) (M : Um.Mm) (hM : M = Um.mtouch c m 3 4 sl s (Um.moveN s (Um.lst st s) false)) (hs : Um.Word s) (hd : M.l.done = true) :
    Calls Try.prog 87 #[.pointer (some ⟨P, 0, none⟩), .pointer (some ⟨B, 0, none⟩)] w fun r w' => r = .returned (.tuple #[]) ∧ WordsOk c M ∧ Sx bs w0 w' (putL l [(i, B, memL c C M), (j, C, rowW M.ws c.n), (k, P, [.int .i64 sl, .int .u64 (s : Nat), .int .i64 st, .nilFunc])]) e := by
  have HS := hide hS
  have HI := hide (And.intro hi (And.intro hj hk))
  have hL := hS.enter3 i j k hi hj hk hij hik hjk
  have HR := hide hr
  have HW := hide hw
  have HM := hide hM
  have HBD := hide (And.intro hb0 hb1)
  have HSW := hide hs
  have HD := hide hd
  clear hS hi hj hk hr hw hM hb0 hb1 hs hd
  have hS := hL
  clear hL
  have HP := hide (hS.get 2 rfl)
  go_enter Try.func87, Try.ntmps87
  go_wp2_with fail
  have HS3 := hide hS
  clear hS
  go_region_held3 (fun w' => BlkAt w' P [.int .i64 sl, .int .u64 (s : Nat), .int .i64 st, fn]) (first | exact (unhide HP).drew | exact BlkAt.below (by assumption) (by assumption) | assumption) (first | (go_at_call 99; refine (gTarget_any (by assumption) (unhide HSW)).mono ?_; rintro e u5 ⟨rfl, hb5⟩) | (go_at_call 96; refine (gMovedL_b (by assumption) ((Um.lst st s : Nat) : Int) false (unhide HSW)).mono ?_; rintro e u6 ⟨rfl, hb6⟩) | (go_at_call 97; rw [lst_mod]; refine (gSwapL_x (((unhide HS3).undrew hb5).call hb6) 0 1 2 rfl rfl rfl (by decide) (by decide) (by decide) (unhide HR) (unhide HW) (unhide HBD).1 (unhide HBD).2 (Um.moveN s (Um.lst st s) false) (Um.move_word (unhide HSW) (Um.lst_lt _ _)) M (unhide HM)).mono ?_; rintro e u7 ⟨rfl, hW6, hS6⟩; have hP6 := hS6.get 2 rfl))
  have hS := hS6
  have HW6 := hide hW6
  clear hS6 hP6 hW6 HS3 HP
  dsimp only [putL, List.set] at hS
  simp only [unhide HD]
  go_wp2_with (first | (refine wpx_box hS rfl _ _ rfl _ rfl _ (by intro _; simp only [Act.put, List.setIfInBounds_toArray, List.set_cons_zero, List.set_cons_succ]; first | done | exact rfl) ?_; clear hS; intro _ _ hS; dsimp only [blit, List.set, List.cons_append, List.nil_append, Value.cells, List.toList_toArray] at hS) | (refine wpx_alloc hS rfl _ rfl _ (zer_any2 rfl) _ (by intro _; simp only [Act.put, List.setIfInBounds_toArray, List.set_cons_zero, List.set_cons_succ]; first | done | exact rfl) ?_; clear hS; intro _ _ hS; dsimp only [blit, List.set, List.cons_append, List.nil_append, Value.cells, List.toList_toArray] at hS) | (refine wpx_ld hS rfl _ _ rfl _ _ rfl ?_; (first | refine ⟨0, _, rfl, ?_⟩ | refine ⟨1, _, rfl, ?_⟩ | refine ⟨2, _, rfl, ?_⟩ | refine ⟨3, _, rfl, ?_⟩ | refine ⟨4, _, rfl, ?_⟩ | refine ⟨5, _, rfl, ?_⟩ | refine ⟨6, _, rfl, ?_⟩ | refine ⟨7, _, rfl, ?_⟩ | refine ⟨8, _, rfl, ?_⟩ | refine ⟨9, _, rfl, ?_⟩); first | refine .inl ⟨_, one_any2 rfl, rfl, _, (by simp only [Act.put, List.setIfInBounds_toArray, List.set_cons_zero, List.set_cons_succ]; first | done | exact rfl), ?_⟩ | refine .inr ⟨_, _, row_any2 rfl, rfl, (by dsimp only [cutL, List.drop, List.take]; first | done | exact rfl), _, (by simp only [Act.put, List.setIfInBounds_toArray, List.set_cons_zero, List.set_cons_succ]; first | done | exact rfl), ?_⟩) | (refine wpx_st hS rfl _ _ _ rfl rfl _ _ rfl ?_; (first | refine ⟨0, _, rfl, ?_⟩ | refine ⟨1, _, rfl, ?_⟩ | refine ⟨2, _, rfl, ?_⟩ | refine ⟨3, _, rfl, ?_⟩ | refine ⟨4, _, rfl, ?_⟩ | refine ⟨5, _, rfl, ?_⟩ | refine ⟨6, _, rfl, ?_⟩ | refine ⟨7, _, rfl, ?_⟩ | refine ⟨8, _, rfl, ?_⟩ | refine ⟨9, _, rfl, ?_⟩); refine ⟨_, (by first | exact shA rfl | exact shI rfl | exact shB rfl | exact shS rfl | exact shP rfl | exact shF rfl | exact shN rfl), _, siz_any2 rfl, (by exact rfl), (by exact rfl), (by exact rfl), ?_⟩; clear hS; intro _ hS; dsimp only [blit, List.set, List.cons_append, List.nil_append, Value.cells, List.toList_toArray] at hS))
  first | go_end0 | ((try simp only [Exit.inBlock, Exit.then]); refine bodyPost_ret (results_none rfl _ _ _) rfl ?_)
  exact ⟨rfl, unhide HW6, (unhide HS).back3 i j k (unhide HI).1 (unhide HI).2.1 (unhide HI).2.2 hS⟩

set_option maxHeartbeats 4000000 in
theorem gLay_f (hS : Sx bs w0 w l e) (i j k : Nat) (hi : l[i]? = some (B, memL c C m)) (hj : l[j]? = some (C, rowW m.ws c.n)) (hk : l[k]? = some (P, [.int .i64 sl, .int .u64 (s : Nat), .int .i64 st, fn])) (hij : i ≠ j) (hik : i ≠ k) (hjk : j ≠ k) (hr : c.r = true) (hw : WordsOk c m) (hb0 : -9223372036854775808 ≤ sl) (hb1 : sl ≤ 9223372036854775807) (M : Um.Mm) (hM : M = Um.mtouch c m 3 4 sl s (Um.moveN s (Um.lst st s) false)) (hs : Um.Word s) (hd : M.l.done = false) :
    Calls Try.prog 87 #[.pointer (some ⟨P, 0, none⟩), .pointer (some ⟨B, 0, none⟩)] w fun r w' => r = .returned (.tuple #[]) ∧ WordsOk c M ∧ Sx bs w0 w' (putL l [(i, B, memL c C M), (j, C, rowW M.ws c.n), (k, P, [.int .i64 sl, .int .u64 (s : Nat), .int .i64 st, .func (.func 59) #[.pointer (some ⟨P, 0, none⟩)] #[]])]) e := by
  have HS := hide hS
  have HI := hide (And.intro hi (And.intro hj hk))
  have hL := hS.enter3 i j k hi hj hk hij hik hjk
  have HR := hide hr
  have HW := hide hw
  have HM := hide hM
  have HBD := hide (And.intro hb0 hb1)
  have HSW := hide hs
  have HD := hide hd
  clear hS hi hj hk hr hw hM hb0 hb1 hs hd
  have hS := hL
  clear hL
  have HP := hide (hS.get 2 rfl)
  go_enter Try.func87, Try.ntmps87
  go_wp2_with fail
  have HS3 := hide hS
  clear hS
  go_region_held3 (fun w' => BlkAt w' P [.int .i64 sl, .int .u64 (s : Nat), .int .i64 st, fn]) (first | exact (unhide HP).drew | exact BlkAt.below (by assumption) (by assumption) | assumption) (first | (go_at_call 99; refine (gTarget_any (by assumption) (unhide HSW)).mono ?_; rintro e u5 ⟨rfl, hb5⟩) | (go_at_call 96; refine (gMovedL_b (by assumption) ((Um.lst st s : Nat) : Int) false (unhide HSW)).mono ?_; rintro e u6 ⟨rfl, hb6⟩) | (go_at_call 97; rw [lst_mod]; refine (gSwapL_x (((unhide HS3).undrew hb5).call hb6) 0 1 2 rfl rfl rfl (by decide) (by decide) (by decide) (unhide HR) (unhide HW) (unhide HBD).1 (unhide HBD).2 (Um.moveN s (Um.lst st s) false) (Um.move_word (unhide HSW) (Um.lst_lt _ _)) M (unhide HM)).mono ?_; rintro e u7 ⟨rfl, hW6, hS6⟩; have hP6 := hS6.get 2 rfl))
  have hS := hS6
  have HW6 := hide hW6
  clear hS6 hP6 hW6 HS3 HP
  dsimp only [putL, List.set] at hS
  simp only [unhide HD]
  go_wp2_with (first | (refine wpx_box hS rfl _ _ rfl _ rfl _ (by intro _; simp only [Act.put, List.setIfInBounds_toArray, List.set_cons_zero, List.set_cons_succ]; first | done | exact rfl) ?_; clear hS; intro _ _ hS; dsimp only [blit, List.set, List.cons_append, List.nil_append, Value.cells, List.toList_toArray] at hS) | (refine wpx_alloc hS rfl _ rfl _ (zer_any2 rfl) _ (by intro _; simp only [Act.put, List.setIfInBounds_toArray, List.set_cons_zero, List.set_cons_succ]; first | done | exact rfl) ?_; clear hS; intro _ _ hS; dsimp only [blit, List.set, List.cons_append, List.nil_append, Value.cells, List.toList_toArray] at hS) | (refine wpx_ld hS rfl _ _ rfl _ _ rfl ?_; (first | refine ⟨0, _, rfl, ?_⟩ | refine ⟨1, _, rfl, ?_⟩ | refine ⟨2, _, rfl, ?_⟩ | refine ⟨3, _, rfl, ?_⟩ | refine ⟨4, _, rfl, ?_⟩ | refine ⟨5, _, rfl, ?_⟩ | refine ⟨6, _, rfl, ?_⟩ | refine ⟨7, _, rfl, ?_⟩ | refine ⟨8, _, rfl, ?_⟩ | refine ⟨9, _, rfl, ?_⟩); first | refine .inl ⟨_, one_any2 rfl, rfl, _, (by simp only [Act.put, List.setIfInBounds_toArray, List.set_cons_zero, List.set_cons_succ]; first | done | exact rfl), ?_⟩ | refine .inr ⟨_, _, row_any2 rfl, rfl, (by dsimp only [cutL, List.drop, List.take]; first | done | exact rfl), _, (by simp only [Act.put, List.setIfInBounds_toArray, List.set_cons_zero, List.set_cons_succ]; first | done | exact rfl), ?_⟩) | (refine wpx_st hS rfl _ _ _ rfl rfl _ _ rfl ?_; (first | refine ⟨0, _, rfl, ?_⟩ | refine ⟨1, _, rfl, ?_⟩ | refine ⟨2, _, rfl, ?_⟩ | refine ⟨3, _, rfl, ?_⟩ | refine ⟨4, _, rfl, ?_⟩ | refine ⟨5, _, rfl, ?_⟩ | refine ⟨6, _, rfl, ?_⟩ | refine ⟨7, _, rfl, ?_⟩ | refine ⟨8, _, rfl, ?_⟩ | refine ⟨9, _, rfl, ?_⟩); refine ⟨_, (by first | exact shA rfl | exact shI rfl | exact shB rfl | exact shS rfl | exact shP rfl | exact shF rfl | exact shN rfl), _, siz_any2 rfl, (by exact rfl), (by exact rfl), (by exact rfl), ?_⟩; clear hS; intro _ hS; dsimp only [blit, List.set, List.cons_append, List.nil_append, Value.cells, List.toList_toArray] at hS))
  first | go_end0 | ((try simp only [Exit.inBlock, Exit.then]); refine bodyPost_ret (results_none rfl _ _ _) rfl ?_)
  exact ⟨rfl, unhide HW6, (unhide HS).back3 i j k (unhide HI).1 (unhide HI).2.1 (unhide HI).2.2 hS⟩

set_option maxHeartbeats 1000000 in
theorem lDone_f (f : Fn) (a1 a2 : Array Value) (hB : BlkAt w P [.int .i64 sl, .int .u64 (s : Nat), .int .i64 st, .func f a1 a2]) : Calls Try.prog 28 #[.pointer (some ⟨P, 0, none⟩)] w fun r w' => r = .returned (.bool false) ∧ w' = w := by
  have h2 := hB.cell 3 _ rfl
  have hE := eqGFn
  have hE0 := eqGNo
  clear hB
  go_enter Try.func28, Try.ntmps28
  go_wp2
  go_ret
  exact ⟨rfl, rfl⟩

set_option maxHeartbeats 1000000 in
theorem lDone_n (hB : BlkAt w P [.int .i64 sl, .int .u64 (s : Nat), .int .i64 st, .nilFunc]) : Calls Try.prog 28 #[.pointer (some ⟨P, 0, none⟩)] w fun r w' => r = .returned (.bool true) ∧ w' = w := by
  have h2 := hB.cell 3 _ rfl
  have hE := eqGFn
  have hE0 := eqGNo
  clear hB
  go_enter Try.func28, Try.ntmps28
  go_wp2
  go_ret
  exact ⟨rfl, rfl⟩

set_option maxHeartbeats 2000000 in
theorem lStep_ask {Q : World → Prop} (hB : BlkAt w P [.int .i64 sl, .int .u64 (s : Nat), .int .i64 st, .func (.func 59) #[.pointer (some ⟨P, 0, none⟩)] #[]]) (hC : Calls Try.prog 59 #[.pointer (some ⟨P, 0, none⟩), .pointer (some ⟨B, 0, none⟩)] w fun r w' => r = .returned (.tuple #[]) ∧ Q w') :
    Calls Try.prog 26 #[.pointer (some ⟨P, 0, none⟩), .pointer (some ⟨B, 0, none⟩)] w fun r w' => r = .returned (.tuple #[]) ∧ Q w' := by
  have HD := hide (lDone_f _ _ _ hB)
  have HC := hide hC
  have h2 := hB.cell 3 _ rfl
  clear hB hC
  go_enter Try.func26, Try.ntmps26
  go_wp2_with fail
  refine (unhide HD).mono ?_
  rintro r u ⟨rfl, rfl⟩
  go_wp2_with fail
  refine (unhide HC).mono ?_
  rintro r u2 ⟨rfl, hQ⟩
  have H2 := hide hQ
  clear hQ h2
  go_wp2
  go_end0
  exact ⟨rfl, unhide H2⟩

set_option maxHeartbeats 2000000 in
theorem lStep_lay {Q : World → Prop} (hB : BlkAt w P [.int .i64 sl, .int .u64 (s : Nat), .int .i64 st, .func (.func 87) #[.pointer (some ⟨P, 0, none⟩)] #[]]) (hC : Calls Try.prog 87 #[.pointer (some ⟨P, 0, none⟩), .pointer (some ⟨B, 0, none⟩)] w fun r w' => r = .returned (.tuple #[]) ∧ Q w') :
    Calls Try.prog 26 #[.pointer (some ⟨P, 0, none⟩), .pointer (some ⟨B, 0, none⟩)] w fun r w' => r = .returned (.tuple #[]) ∧ Q w' := by
  have HD := hide (lDone_f _ _ _ hB)
  have HC := hide hC
  have h2 := hB.cell 3 _ rfl
  clear hB hC
  go_enter Try.func26, Try.ntmps26
  go_wp2_with fail
  refine (unhide HD).mono ?_
  rintro r u ⟨rfl, rfl⟩
  go_wp2_with fail
  refine (unhide HC).mono ?_
  rintro r u2 ⟨rfl, hQ⟩
  have H2 := hide hQ
  clear hQ h2
  go_wp2
  go_end0
  exact ⟨rfl, unhide H2⟩

set_option maxHeartbeats 2000000 in
theorem lStep_done (hB : BlkAt w P [.int .i64 sl, .int .u64 (s : Nat), .int .i64 st, .nilFunc]) (b : Value) :
    Calls Try.prog 26 #[.pointer (some ⟨P, 0, none⟩), b] w fun r w' => r = .returned (.tuple #[]) ∧ w' = w := by
  have HD := hide (lDone_n hB)
  clear hB
  go_enter Try.func26, Try.ntmps26
  go_wp2_with fail
  refine (unhide HD).mono ?_
  rintro r u ⟨rfl, rfl⟩
  go_wp2
  go_end0
  exact ⟨rfl, rfl⟩

end

end Go.Proofs.Yticaieghapjpkaa

/-
  A step of an entering, of a leaving, of whatever step; to their ends; states that a caller tells.
-/
namespace Go.Proofs.Yticaieghapjpkaa
set_option maxRecDepth 100000
open Go.RowKit Go.Sort
set_option linter.unusedVariables false
set_option linter.unusedSimpArgs false

/-- what comes next -/
def enF (P : Nat) (o : Um.Es) : Value := if o.en = true then .nilFunc else if o.tk = true then .func (.func 79) #[.pointer (some ⟨P, 0, none⟩)] #[] else .func (.func 49) #[.pointer (some ⟨P, 0, none⟩)] #[]

/-- an entering's cells -/
def entL (P h : Nat) (la : Option Addr) (nl cl : Nat) (o : Um.Es) : List Value := [.int .i64 (Um.svN h), .int .u64 (o.s : Nat), .int .u64 (h : Nat), .slice la nl cl, enF P o, .int .i64 o.e, .int .u64 (o.w : Nat)]

def leF (P : Nat) (o : Um.Ls) : Value := if o.dn = true then .nilFunc else if o.lk = true then .func (.func 87) #[.pointer (some ⟨P, 0, none⟩)] #[] else .func (.func 59) #[.pointer (some ⟨P, 0, none⟩)] #[]

/-- a leaving's cells -/
def leaL (P : Nat) (sl st : Int) (o : Um.Ls) : List Value := [.int .i64 sl, .int .u64 (o.s : Nat), .int .i64 st, leF P o]

theorem put_same3 {l : List (Nat × List Value)} {i j k : Nat} {a b d : Nat × List Value} (hi : l[i]? = some a) (hj : l[j]? = some b) (hk : l[k]? = some d) : putL l [(i, a), (j, b), (k, d)] = l := by
  show ((l.set i a).set j b).set k d = l
  rw [set_same hi, set_same hj, set_same hk]

section
variable {bs : List Nat} {w0 w : World} {l e : List (Nat × List Value)} {B C P : Nat} {c : Um.Cf} {sl st : Int} {h : Nat} {la : Option Addr} {nl cl : Nat} {Z : Nat → Int}

theorem gDone_any {o : Um.Es} {m : Um.Mm} (hS : Sx bs w0 w l e) (i j k : Nat) (hi : l[i]? = some (B, memL c C m)) (hj : l[j]? = some (C, rowW m.ws c.n)) (hk : l[k]? = some (P, entL P h la nl cl o)) (hij : i ≠ j) (hr : c.r = true) (hw : WordsOk c m) (hh : Um.Word h) :
    Calls Try.prog 13 #[.pointer (some ⟨P, 0, none⟩), .pointer (some ⟨B, 0, none⟩)] w fun r w' => r = .returned (.bool (Um.edn c h o)) ∧ Below w.heap.size w w' := by
  obtain ⟨mo, tk, s, wd, er, en⟩ := o
  cases en with
  | true => exact gDone_n hS i j k hi hj hk hij hr hw hh
  | false =>
    cases tk with
    | true => exact gDone_f _ _ _ hS i j k hi hj hk hij hr hw hh
    | false => exact gDone_f _ _ _ hS i j k hi hj hk hij hr hw hh

theorem gError_any {o : Um.Es} {m : Um.Mm} (hS : Sx bs w0 w l e) (i j k : Nat) (hi : l[i]? = some (B, memL c C m)) (hj : l[j]? = some (C, rowW m.ws c.n)) (hk : l[k]? = some (P, entL P h la nl cl o)) (hij : i ≠ j) (hr : c.r = true) (hw : WordsOk c m) (hh : Um.Word h) :
    Calls Try.prog 15 #[.pointer (some ⟨P, 0, none⟩), .pointer (some ⟨B, 0, none⟩)] w fun r w' => r = .returned (.int .i64 (Um.eer c h o)) ∧ Below w.heap.size w w' := by
  obtain ⟨mo, tk, s, wd, er, en⟩ := o
  cases hn : Um.ook h c.s with
  | true =>
    rw [show Um.eer c h ⟨mo, tk, s, wd, er, en⟩ = er by unfold Um.eer; rw [hn, if_pos rfl]]
    exact gError_y hS i j k hi hj hk hij hr hw hh hn
  | false =>
    rw [show Um.eer c h ⟨mo, tk, s, wd, er, en⟩ = 2 by unfold Um.eer; rw [hn, if_neg (by decide)]]
    exact gError_n hS i j k hi hj hk hij hr hw hh hn

theorem gSlot_any {o : Um.Es} (hB : BlkAt w P (entL P h la nl cl o)) : Calls Try.prog 17 #[.pointer (some ⟨P, 0, none⟩)] w fun r w' => r = .returned (.int .i64 (Um.svN h)) ∧ w' = w := gSlot_b hB

theorem gWord_any {o : Um.Es} (hB : BlkAt w P (entL P h la nl cl o)) : Calls Try.prog 23 #[.pointer (some ⟨P, 0, none⟩)] w fun r w' => r = .returned (.int .u64 (o.w : Nat)) ∧ w' = w := gWord_b hB

theorem gStep_any (hS : Sx bs w0 w l e) (i j k : Nat) (o O : Um.Es) (hO : O = Um.estep c h (fun k => inZ Z nl ((k : Nat) : Int)) o) (hi : l[i]? = some (B, memL c C o.m)) (hj : l[j]? = some (C, rowW o.m.ws c.n)) (hk : l[k]? = some (P, entL P h la nl cl o)) (hij : i ≠ j) (hik : i ≠ k) (hjk : j ≠ k) (hr : c.r = true) (ho : Um.Eok c o) (hh : Um.Word h) (hnl : nl ≤ 50) (hSt : StB la nl Z e) :
    Calls Try.prog 20 #[.pointer (some ⟨P, 0, none⟩), .pointer (some ⟨B, 0, none⟩)] w fun r w' => r = .returned (.tuple #[]) ∧ Um.Eok c O ∧ Sx bs w0 w' (putL l [(i, B, memL c C O.m), (j, C, rowW O.m.ws c.n), (k, P, entL P h la nl cl O)]) e := by
  have hO' : Um.Eok c O := hO ▸ Um.estep_ok ho
  have hsv := Um.sv_range h
  have hD := gDone_any hS i j k hi hj hk hij hr ho.wd hh
  cases hd : Um.edn c h o with
  | true =>
    rw [hd] at hD
    rw [Um.estep_done hd] at hO
    subst hO
    refine (gStep_done hS i j k hi hj hk hij hr ho.wd hh hD).mono ?_
    rintro r w' ⟨rfl, hb⟩
    exact ⟨rfl, hO', by rw [put_same3 hi hj hk]; exact hS.call hb⟩
  | false =>
    clear hD
    obtain ⟨m, tk, s, wd, er, en⟩ := o
    obtain ⟨i1, i2, i3, i4⟩ := ho
    dsimp only at *
    obtain ⟨rfl, hn⟩ : en = false ∧ Um.ook h c.s = true := by
      have hd' : (en || !Um.ook h c.s) = false := hd
      cases en <;> cases hq : Um.ook h c.s <;> rw [hq] at hd' <;> first | exact ⟨rfl, rfl⟩ | cases hd'
    cases tk with
    | false =>
      obtain ⟨M, hM⟩ : ∃ M, M = Um.mtouch c m 1 4 (Um.svN h) 0 0 := ⟨_, rfl⟩
      have eO : O = ⟨M, decide (Um.flN h (fun k => inZ Z nl ((k : Nat) : Int)) M.l.old = 0), M.l.old, wd, Um.flN h (fun k => inZ Z nl ((k : Nat) : Int)) M.l.old, !decide (Um.flN h (fun k => inZ Z nl ((k : Nat) : Int)) M.l.old = 0)⟩ := by
        rw [hO, hM]
        unfold Um.estep
        rw [if_neg (by rw [hd]; decide), if_neg (show ¬ (false = true) by decide)]
      by_cases hf : Um.flN h (fun k => inZ Z nl ((k : Nat) : Int)) M.l.old = 0
      · rw [hf] at eO
        subst eO
        refine (gStep_judge (Q := fun w' => WordsOk c M ∧ Sx bs w0 w' (putL l [(i, B, memL c C M), (j, C, rowW M.ws c.n), (k, P, entL P h la nl cl ⟨M, true, M.l.old, wd, 0, false⟩)]) e) hS i j k hi hj hk hij hr i1 hh hn (fun w1 hb => gJudge_0 (hS.call hb) i j k hi hj hk hij hik hjk hr i1 (by omega) (by omega) M hM Z hh hnl hSt hf)).mono ?_
        rintro r w' ⟨rfl, _, hSn⟩
        exact ⟨rfl, hO', hSn⟩
      · rw [decide_eq_false hf] at eO
        subst eO
        refine (gStep_judge (Q := fun w' => WordsOk c M ∧ Sx bs w0 w' (putL l [(i, B, memL c C M), (j, C, rowW M.ws c.n), (k, P, entL P h la nl cl ⟨M, false, M.l.old, wd, Um.flN h (fun k => inZ Z nl ((k : Nat) : Int)) M.l.old, true⟩)]) e) hS i j k hi hj hk hij hr i1 hh hn (fun w1 hb => gJudge_n (hS.call hb) i j k hi hj hk hij hik hjk hr i1 (by omega) (by omega) M hM Z hh hnl hSt _ rfl hf)).mono ?_
        rintro r w' ⟨rfl, _, hSn⟩
        exact ⟨rfl, hO', hSn⟩
    | true =>
      obtain ⟨M, hM⟩ : ∃ M, M = Um.mtouch c m 3 4 (Um.svN h) s (Um.bzN s) := ⟨_, rfl⟩
      have eO : O = ⟨M, false, s, if M.l.done then Um.bzN s else wd, er, M.l.done⟩ := by
        rw [hO, hM]
        unfold Um.estep
        rw [if_neg (by rw [hd]; decide), if_pos rfl]
      cases hdn : M.l.done with
      | true =>
        rw [hdn, if_pos rfl] at eO
        subst eO
        refine (gStep_take (Q := fun w' => WordsOk c M ∧ Sx bs w0 w' (putL l [(i, B, memL c C M), (j, C, rowW M.ws c.n), (k, P, entL P h la nl cl ⟨M, false, s, Um.bzN s, er, true⟩)]) e) hS i j k hi hj hk hij hr i1 hh hn (fun w1 hb => gTake_t (hS.call hb) i j k hi hj hk hij hik hjk hr i1 (by omega) (by omega) M hM i2 hdn)).mono ?_
        rintro r w' ⟨rfl, _, hSn⟩
        exact ⟨rfl, hO', hSn⟩
      | false =>
        rw [hdn, if_neg (by decide)] at eO
        subst eO
        refine (gStep_take (Q := fun w' => WordsOk c M ∧ Sx bs w0 w' (putL l [(i, B, memL c C M), (j, C, rowW M.ws c.n), (k, P, entL P h la nl cl ⟨M, false, s, wd, er, false⟩)]) e) hS i j k hi hj hk hij hr i1 hh hn (fun w1 hb => gTake_f (hS.call hb) i j k hi hj hk hij hik hjk hr i1 (by omega) (by omega) M hM i2 hdn)).mono ?_
        rintro r w' ⟨rfl, _, hSn⟩
        exact ⟨rfl, hO', hSn⟩

theorem gnew_any (hS : Sx bs w0 w l e) (m : Um.Mm) (hh : Um.Word h) (hT : Told w la nl cl Z) :
    Calls Try.prog 11 #[.int .u64 (h : Nat), .slice la nl cl] w fun r w' => ∃ P la' cl' sb, r = .returned (.pointer (some ⟨P, 0, none⟩)) ∧ StB la' nl Z sb ∧ Sx bs w0 w' (l ++ [(P, entL P h la' nl cl' (Um.enew m))]) (e ++ sb) := gNew_x hS h hh hT

theorem lDone_any {o : Um.Ls} (hB : BlkAt w P (leaL P sl st o)) : Calls Try.prog 28 #[.pointer (some ⟨P, 0, none⟩)] w fun r w' => r = .returned (.bool o.dn) ∧ w' = w := by
  obtain ⟨m, lk, s, dn⟩ := o
  cases dn with
  | true => exact lDone_n hB
  | false =>
    cases lk with
    | true => exact lDone_f _ _ _ hB
    | false => exact lDone_f _ _ _ hB

theorem lStep_any (hS : Sx bs w0 w l e) (i j k : Nat) (o O : Um.Ls) (hO : O = Um.lstep c sl st o) (hi : l[i]? = some (B, memL c C o.m)) (hj : l[j]? = some (C, rowW o.m.ws c.n)) (hk : l[k]? = some (P, leaL P sl st o)) (hij : i ≠ j) (hik : i ≠ k) (hjk : j ≠ k) (hr : c.r = true) (ho : Um.Lok c o) (h0 : -9223372036854775808 ≤ sl) (h1 : sl ≤ 9223372036854775807) :
    Calls Try.prog 26 #[.pointer (some ⟨P, 0, none⟩), .pointer (some ⟨B, 0, none⟩)] w fun r w' => r = .returned (.tuple #[]) ∧ Um.Lok c O ∧ Sx bs w0 w' (putL l [(i, B, memL c C O.m), (j, C, rowW O.m.ws c.n), (k, P, leaL P sl st O)]) e := by
  have hO' : Um.Lok c O := hO ▸ Um.lstep_ok ho
  obtain ⟨m, lk, s, dn⟩ := o
  obtain ⟨i1, i2⟩ := ho
  dsimp only at *
  cases dn with
  | true =>
    have eO : O = ⟨m, lk, s, true⟩ := by rw [hO]; exact Um.lstep_done rfl
    subst eO
    refine (lStep_done (hS.get k hk) _).mono ?_
    rintro r w' ⟨rfl, rfl⟩
    exact ⟨rfl, hO', by rw [put_same3 hi hj hk]; exact hS⟩
  | false =>
    cases lk with
    | false =>
      have eO : O = ⟨Um.mtouch c m 1 4 sl 0 0, true, (Um.mtouch c m 1 4 sl 0 0).l.old, false⟩ := hO
      subst eO
      refine (lStep_ask (hS.get k hk) (gAsk_x hS i j k hi hj hk hij hik hjk hr i1 h0 h1 _ rfl)).mono ?_
      rintro r w' ⟨rfl, _, hSn⟩
      exact ⟨rfl, hO', hSn⟩
    | true =>
      obtain ⟨M, hM⟩ : ∃ M, M = Um.mtouch c m 3 4 sl s (Um.moveN s (Um.lst st s) false) := ⟨_, rfl⟩
      have eO : O = ⟨M, false, s, M.l.done⟩ := by rw [hM]; exact hO
      cases hdn : M.l.done with
      | true =>
        rw [hdn] at eO
        subst eO
        refine (lStep_lay (hS.get k hk) (gLay_t hS i j k hi hj hk hij hik hjk hr i1 h0 h1 M hM i2 hdn)).mono ?_
        rintro r w' ⟨rfl, _, hSn⟩
        exact ⟨rfl, hO', hSn⟩
      | false =>
        rw [hdn] at eO
        subst eO
        refine (lStep_lay (hS.get k hk) (gLay_f hS i j k hi hj hk hij hik hjk hr i1 h0 h1 M hM i2 hdn)).mono ?_
        rintro r w' ⟨rfl, _, hSn⟩
        exact ⟨rfl, hO', hSn⟩

theorem lnew_any (hS : Sx bs w0 w l e) (sl st : Int) (m : Um.Mm) :
    Calls Try.prog 25 #[.int .i64 sl, .int .i64 st] w fun r w' => ∃ P, r = .returned (.pointer (some ⟨P, 0, none⟩)) ∧ Sx bs w0 w' (l ++ [(P, leaL P sl st (Um.lnew m))]) e := gNewLeave_x hS sl st

set_option maxHeartbeats 4000000 in
theorem enters_x (hS : Sx bs w0 w l e) (i j k : Nat) (o : Um.Es) (hi : l[i]? = some (B, memL c C o.m)) (hj : l[j]? = some (C, rowW o.m.ws c.n)) (hk : l[k]? = some (P, entL P h la nl cl o)) (hij : i ≠ j) (hik : i ≠ k) (hjk : j ≠ k) (hr : c.r = true) (ho : Um.Eok c o) (hh : Um.Word h) (hnl : nl ≤ 50) (hSt : StB la nl Z e) (most : Nat) (hm : most ≤ 100) (H : Um.Es) (hH : H = Um.eit c h (fun k => inZ Z nl ((k : Nat) : Int)) o most) :
    Calls Try.prog 29 #[.pointer (some ⟨P, 0, none⟩), .pointer (some ⟨B, 0, none⟩), .int .i64 (most : Nat)] w fun r w' => ∃ N : Nat, r = .returned (.int .i64 (N : Nat)) ∧ N ≤ most ∧ (N < most → Um.edn c h (Um.eit c h (fun k => inZ Z nl ((k : Nat) : Int)) o N) = true) ∧ (∀ q, q < N → Um.edn c h (Um.eit c h (fun k => inZ Z nl ((k : Nat) : Int)) o q) = false) ∧ Um.Eok c H ∧ Sx bs w0 w' (putL l [(i, B, memL c C H.m), (j, C, rowW H.m.ws c.n), (k, P, entL P h la nl cl H)]) e := by
  have HS := hide hS
  have HI := hide (And.intro hi (And.intro hj hk))
  have hL := hS.enter3e i j k hi hj hk hij hik hjk
  have HR := hide hr
  have HO := hide (show ∀ k, Um.Eok c (Um.eit c h (fun k => inZ Z nl ((k : Nat) : Int)) o k) from fun k => Um.eit_ok ho k)
  have HH := hide hH
  have HHH := hide hh
  have HST := hide hSt
  clear hh hSt
  clear hS hi hj hk hr ho hH
  have hS := hL
  clear hL
  go_enter Try.func29, Try.ntmps29
  go_wp2_with fail
  go_loopw [9] (fun i wr => ∃ q : Nat, q ≤ most ∧ i = .int .i64 q ∧ Hid (∀ k, k < q → Um.edn c h (Um.eit c h (fun k => inZ Z nl ((k : Nat) : Int)) o k) = false) ∧ Hid (Sx [B, C, P] w wr [(B, memL c C (Um.eit c h (fun k => inZ Z nl ((k : Nat) : Int)) o q).m), (C, rowW (Um.eit c h (fun k => inZ Z nl ((k : Nat) : Int)) o q).m.ws c.n), (P, entL P h la nl cl (Um.eit c h (fun k => inZ Z nl ((k : Nat) : Int)) o q))] e)) (fun i _ => most - (intOf i).toNat)
  case atStart => exact ⟨0, Nat.zero_le _, rfl, hide (fun _ h => absurd h (Nat.not_lt_zero _)), hide hS⟩
  case round =>
    clear hS
    rename_i wr
    obtain ⟨q, hq, rfl, HQ, HS3⟩ := hrel
    have hS := unhide HS3
    clear HS3
    by_cases hlt : q < most
    · have hlti : (q : Int) < (most : Int) := by omega
      cases hd : Um.edn c h (Um.eit c h (fun k => inZ Z nl ((k : Nat) : Int)) o q) with
      | true =>
        have HE := hide (show (Um.eit c h (fun k => inZ Z nl ((k : Nat) : Int)) o q) = H by rw [unhide HH]; exact (Um.eit_done hd (by omega)).symm)
        have HD := hide (gDone_any hS 0 1 2 rfl rfl rfl (by decide) (unhide HR) ((unhide HO) q).wd (unhide HHH))
        rw [hd] at HD
        have Hd := hide hd
        clear hd
        go_wp2_with fail
        refine (unhide HD).mono ?_
        rintro r u ⟨rfl, hb⟩
        replace hS := hS.call hb
        clear hb
        clear HD
        have hS' := (unhide HS).back3 i j k (unhide HI).1 (unhide HI).2.1 (unhide HI).2.2 hS
        have HS4 := hide hS'
        clear hS hS'
        go_wp2
        go_ret
        refine ⟨q, rfl, hq, fun _ => unhide Hd, unhide HQ, ?_⟩
        have hS5 := unhide HS4
        have hO5 := (unhide HO) q
        rw [unhide HE] at hS5 hO5
        exact ⟨hO5, hS5⟩
      | false =>
        have HD := hide (gDone_any hS 0 1 2 rfl rfl rfl (by decide) (unhide HR) ((unhide HO) q).wd (unhide HHH))
        rw [hd] at HD
        have Hd := hide hd
        clear hd
        go_wp2_with fail
        refine (unhide HD).mono ?_
        rintro r u ⟨rfl, hb⟩
        replace hS := hS.call hb
        clear hb
        clear HD
        go_wp2_with fail
        refine (gStep_any hS 0 1 2 _ (Um.eit c h (fun k => inZ Z nl ((k : Nat) : Int)) o (q + 1)) rfl rfl rfl rfl (by decide) (by decide) (by decide) (unhide HR) ((unhide HO) q) (unhide HHH) hnl (unhide HST)).mono ?_
        rintro r u3 ⟨rfl, _, hSn⟩
        clear hS
        dsimp only [putL, List.set] at hSn
        have HS6 := hide hSn
        clear hSn
        go_wp2
        refine ⟨⟨q + 1, by omega, by go_num, hide (fun k hk => ?_), HS6⟩, by simp [intOf]; omega⟩
        by_cases e : k = q
        · subst e; exact unhide Hd
        · exact (unhide HQ) k (by omega)
    · have hge : ¬ (q : Int) < (most : Int) := by omega
      obtain rfl : q = most := by omega
      have hS' := (unhide HS).back3 i j k (unhide HI).1 (unhide HI).2.1 (unhide HI).2.2 hS
      have HS4 := hide hS'
      clear hS hS'
      go_wp2
      go_ret
      have hS5 := unhide HS4
      have hO5 := (unhide HO) q
      rw [← unhide HH] at hS5 hO5
      exact ⟨q, rfl, Nat.le_refl _, fun h => absurd h (Nat.lt_irrefl _), unhide HQ, hO5, hS5⟩

set_option maxHeartbeats 4000000 in
theorem leaves_x (hS : Sx bs w0 w l e) (i j k : Nat) (o : Um.Ls) (hi : l[i]? = some (B, memL c C o.m)) (hj : l[j]? = some (C, rowW o.m.ws c.n)) (hk : l[k]? = some (P, leaL P sl st o)) (hij : i ≠ j) (hik : i ≠ k) (hjk : j ≠ k) (hr : c.r = true) (ho : Um.Lok c o) (h0 : -9223372036854775808 ≤ sl) (h1 : sl ≤ 9223372036854775807) (most : Nat) (hm : most ≤ 100) (H : Um.Ls) (hH : H = Um.lit10 c sl st o most) :
    Calls Try.prog 40 #[.pointer (some ⟨P, 0, none⟩), .pointer (some ⟨B, 0, none⟩), .int .i64 (most : Nat)] w fun r w' => ∃ N : Nat, r = .returned (.int .i64 (N : Nat)) ∧ N ≤ most ∧ (N < most → (Um.lit10 c sl st o N).dn = true) ∧ (∀ q, q < N → (Um.lit10 c sl st o q).dn = false) ∧ Um.Lok c H ∧ Sx bs w0 w' (putL l [(i, B, memL c C H.m), (j, C, rowW H.m.ws c.n), (k, P, leaL P sl st H)]) e := by
  have HS := hide hS
  have HI := hide (And.intro hi (And.intro hj hk))
  have hL := hS.enter3e i j k hi hj hk hij hik hjk
  have HR := hide hr
  have HO := hide (show ∀ k, Um.Lok c (Um.lit10 c sl st o k) from fun k => Um.lit_ok ho k)
  have HH := hide hH
  have HBD := hide (And.intro h0 h1)
  clear h0 h1
  clear hS hi hj hk hr ho hH
  have hS := hL
  clear hL
  go_enter Try.func40, Try.ntmps40
  go_wp2_with fail
  go_loopw [9] (fun i wr => ∃ q : Nat, q ≤ most ∧ i = .int .i64 q ∧ Hid (∀ k, k < q → (Um.lit10 c sl st o k).dn = false) ∧ Hid (Sx [B, C, P] w wr [(B, memL c C (Um.lit10 c sl st o q).m), (C, rowW (Um.lit10 c sl st o q).m.ws c.n), (P, leaL P sl st (Um.lit10 c sl st o q))] e)) (fun i _ => most - (intOf i).toNat)
  case atStart => exact ⟨0, Nat.zero_le _, rfl, hide (fun _ h => absurd h (Nat.not_lt_zero _)), hide hS⟩
  case round =>
    clear hS
    rename_i wr
    obtain ⟨q, hq, rfl, HQ, HS3⟩ := hrel
    have hS := unhide HS3
    clear HS3
    by_cases hlt : q < most
    · have hlti : (q : Int) < (most : Int) := by omega
      cases hd : (Um.lit10 c sl st o q).dn with
      | true =>
        have HE := hide (show (Um.lit10 c sl st o q) = H by rw [unhide HH]; exact (Um.lit_done hd (by omega)).symm)
        have HD := hide (lDone_any (hS.get 2 rfl))
        rw [hd] at HD
        have Hd := hide hd
        clear hd
        go_wp2_with fail
        refine (unhide HD).mono ?_
        rintro r u ⟨rfl, rfl⟩
        clear HD
        have hS' := (unhide HS).back3 i j k (unhide HI).1 (unhide HI).2.1 (unhide HI).2.2 hS
        have HS4 := hide hS'
        clear hS hS'
        go_wp2
        go_ret
        refine ⟨q, rfl, hq, fun _ => unhide Hd, unhide HQ, ?_⟩
        have hS5 := unhide HS4
        have hO5 := (unhide HO) q
        rw [unhide HE] at hS5 hO5
        exact ⟨hO5, hS5⟩
      | false =>
        have HD := hide (lDone_any (hS.get 2 rfl))
        rw [hd] at HD
        have Hd := hide hd
        clear hd
        go_wp2_with fail
        refine (unhide HD).mono ?_
        rintro r u ⟨rfl, rfl⟩
        clear HD
        go_wp2_with fail
        refine (lStep_any hS 0 1 2 _ (Um.lit10 c sl st o (q + 1)) rfl rfl rfl rfl (by decide) (by decide) (by decide) (unhide HR) ((unhide HO) q) (unhide HBD).1 (unhide HBD).2).mono ?_
        rintro r u3 ⟨rfl, _, hSn⟩
        clear hS
        dsimp only [putL, List.set] at hSn
        have HS6 := hide hSn
        clear hSn
        go_wp2
        refine ⟨⟨q + 1, by omega, by go_num, hide (fun k hk => ?_), HS6⟩, by simp [intOf]; omega⟩
        by_cases e : k = q
        · subst e; exact unhide Hd
        · exact (unhide HQ) k (by omega)
    · have hge : ¬ (q : Int) < (most : Int) := by omega
      obtain rfl : q = most := by omega
      have hS' := (unhide HS).back3 i j k (unhide HI).1 (unhide HI).2.1 (unhide HI).2.2 hS
      have HS4 := hide hS'
      clear hS hS'
      go_wp2
      go_ret
      have hS5 := unhide HS4
      have hO5 := (unhide HO) q
      rw [← unhide HH] at hS5 hO5
      exact ⟨q, rfl, Nat.le_refl _, fun h => absurd h (Nat.lt_irrefl _), unhide HQ, hO5, hS5⟩

end

set_option maxHeartbeats 1000000 in
theorem of10_any (a : Int) (w : World) : Calls Try.prog 32 #[.int .i64 a] w fun r w' => r = .returned (.agg #[.int .i64 4, .int .i64 a]) ∧ Below w.heap.size w w' := by
  go_enter Try.func32, Try.ntmps32
  go_wp2
  exact bodyPost_ret (v := (.agg #[.int .i64 4, .int .i64 a])) (by simp [results, Try.results32, go_sem]) rfl ⟨rfl, (Below.refl _ _).alloc (Nat.le_refl _) _⟩

/-- a slice that is written out -/
theorem wpx_build1 {ops : Array Oper} {rest : List Oper} {op : Oper} {a : Act} {bs : List Nat} {w w0 : World} {Q : Exit → Act → World → Prop} {l e : List (Nat × List Value)} (hS : Sx bs w0 w l e) (hw : Region.wanted op (yielded ops a.tmps) = true)
    (x0 : Operand) (ho : op.op = .buildSlice 26 1 #[(0, x0)]) (k0 : Int) (h0 : a.eval x0 = .int .i64 k0)
    (f : Nat → Act) (hf : ∀ b, a.put op.dst (.slice (some ⟨b, 0, none⟩) 1 1) = f b) (h : ∀ b w', Sx bs w0 w' (l ++ [(b, [.int .i64 k0])]) e → wpList Try.prog ops Q rest (f b) w') : wpList Try.prog ops Q (op :: rest) a w := by
  refine BigFrame.wpList_want hw fun K hK => ?_
  have er : (execOp a.eval op).run Try.prog w = .ok (.value (.slice (some ⟨w.heap.size, 0, none⟩) 1 1)) (w.alloc (.cells (List.toArray [.int .i64 k0]) 3)) := by
    unfold execOp
    rw [ho]
    generalize a.eval = E at h0 ⊢
    go_simp
  unfold Oper.wp
  rw [er]
  exact hK _ _ (by rw [hf]; exact h _ _ (hS.alloc (List.toArray [.int .i64 k0]) 3))

theorem wpx_build2 {ops : Array Oper} {rest : List Oper} {op : Oper} {a : Act} {bs : List Nat} {w w0 : World} {Q : Exit → Act → World → Prop} {l e : List (Nat × List Value)} (hS : Sx bs w0 w l e) (hw : Region.wanted op (yielded ops a.tmps) = true)
    (x0 x1 : Operand) (ho : op.op = .buildSlice 26 2 #[(0, x0), (1, x1)]) (k0 k1 : Int) (h0 : a.eval x0 = .int .i64 k0) (h1 : a.eval x1 = .int .i64 k1)
    (f : Nat → Act) (hf : ∀ b, a.put op.dst (.slice (some ⟨b, 0, none⟩) 2 2) = f b) (h : ∀ b w', Sx bs w0 w' (l ++ [(b, [.int .i64 k0, .int .i64 k1])]) e → wpList Try.prog ops Q rest (f b) w') : wpList Try.prog ops Q (op :: rest) a w := by
  refine BigFrame.wpList_want hw fun K hK => ?_
  have er : (execOp a.eval op).run Try.prog w = .ok (.value (.slice (some ⟨w.heap.size, 0, none⟩) 2 2)) (w.alloc (.cells (List.toArray [.int .i64 k0, .int .i64 k1]) 3)) := by
    unfold execOp
    rw [ho]
    generalize a.eval = E at h0 h1 ⊢
    go_simp
  unfold Oper.wp
  rw [er]
  exact hK _ _ (by rw [hf]; exact h _ _ (hS.alloc (List.toArray [.int .i64 k0, .int .i64 k1]) 3))

theorem told1 {w : World} {b : Nat} {x : Int} (hB : BlkAt w b [.int .i64 x]) : Told w (some ⟨b, 0, none⟩) 1 1 (fun _ => x) :=
  ⟨.inr ⟨b, 0, rfl, hB.lt, fun i hi => by
      obtain rfl : i = 0 := by omega
      exact hB.cell 0 _ rfl⟩, (fun q => by cases q), by decide⟩

/-- two states -/
def two10 (x y : Int) : Nat → Int
  | 0 => x
  | _ + 1 => y

theorem told2 {w : World} {b : Nat} {x y : Int} (hB : BlkAt w b [.int .i64 x, .int .i64 y]) : Told w (some ⟨b, 0, none⟩) 2 2 (two10 x y) :=
  ⟨.inr ⟨b, 0, rfl, hB.lt, fun i hi => by
      match i, hi with
      | 0, _ => exact hB.cell 0 _ rfl
      | 1, _ => exact hB.cell 1 _ rfl⟩, (fun q => by cases q), by decide⟩

end Go.Proofs.Yticaieghapjpkaa

/-
  The walks of the document's new help, and of a new status.
-/
namespace Go.Proofs.Yticaieghapjpkaa
set_option maxRecDepth 100000
open Go.RowKit Go.Sort

set_option maxHeartbeats 1000000 in
theorem rNew01_any (st : Int) (w : World) : Calls Try.prog 37 #[.int .i64 st, .int .i64 0] w fun r w' => r = .returned (.int .u64 (Um.packV 0 st false false false 0 0 : Int)) ∧ Below w.heap.size w w' := by
  go_enter Try.func37, Try.ntmps37
  go_wp2_with fail
  refine (refPack_any 0 st false false false 0 0 _).mono ?_
  rintro r u ⟨rfl, hb⟩
  go_wp2
  go_ret
  exact ⟨rfl, hb⟩

end Go.Proofs.Yticaieghapjpkaa

/-
  The walk of layer 10's first look: the one slot of a world is entered, once more, and left.
-/
namespace Go.Proofs.Yticaieghapjpkaa
set_option maxRecDepth 100000
open Go.RowKit Go.Sort
set_option linter.unusedVariables false
set_option linter.unusedSimpArgs false

def ac0 : Um.Cf := ⟨1, 1, 1, 0, 0⟩
def gm1 : Um.Mm := Um.mtouch ac0 ⟨fun _ => 0, 0, Um.noT⟩ 2 4 0 0 268435456
def ga10 : Um.Es := Um.eit ac0 1 (fun k => inZ (fun _ => 2) 1 ((k : Nat) : Int)) (Um.enew gm1) 20
def gb10 : Um.Es := Um.eit ac0 1 (fun k => inZ (fun _ => 2) 1 ((k : Nat) : Int)) (Um.enew ga10.m) 20
def gm3 : Um.Mm := Um.mtouch ac0 gb10.m 1 4 0 0 0
def gl10 : Um.Ls := Um.lit10 ac0 0 5 (Um.lnew gm3) 20
def gm5 : Um.Mm := Um.mtouch ac0 gl10.m 1 4 0 0 0

theorem ac0_r : ac0.r = true := by decide +kernel

theorem first_true {f : Nat → Bool} {n N most : Nat} (hN : f N = true) (hl : N < most) (hf : ∀ q, q < N → f q = false) (h0 : n ≤ most) (h1 : n < most → f n = true) (h2 : ∀ q, q < n → f q = false) : n = N := by
  rcases Nat.lt_trichotomy n N with h | h | h
  · have h3 := h1 (by omega)
    rw [hf n h] at h3
    cases h3
  · exact h
  · have h3 := h2 N h
    rw [hN] at h3
    cases h3

theorem ga_n {n : Nat} (h0 : n ≤ 20) (h1 : n < 20 → Um.edn ac0 1 (Um.eit ac0 1 (fun k => inZ (fun _ => 2) 1 ((k : Nat) : Int)) (Um.enew gm1) n) = true) (h2 : ∀ q, q < n → Um.edn ac0 1 (Um.eit ac0 1 (fun k => inZ (fun _ => 2) 1 ((k : Nat) : Int)) (Um.enew gm1) q) = false) : n = 2 := by
  refine first_true (f := fun q => Um.edn ac0 1 (Um.eit ac0 1 (fun k => inZ (fun _ => 2) 1 ((k : Nat) : Int)) (Um.enew gm1) q)) (by decide +kernel) (by decide) (fun q hq => ?_) h0 h1 h2
  have h3 : Um.edn ac0 1 (Um.eit ac0 1 (fun k => inZ (fun _ => 2) 1 ((k : Nat) : Int)) (Um.enew gm1) 0) = false ∧ Um.edn ac0 1 (Um.eit ac0 1 (fun k => inZ (fun _ => 2) 1 ((k : Nat) : Int)) (Um.enew gm1) 1) = false := by decide +kernel
  match q, hq with
  | 0, _ => exact h3.1
  | 1, _ => exact h3.2

theorem gb_n {n : Nat} (h0 : n ≤ 20) (h1 : n < 20 → Um.edn ac0 1 (Um.eit ac0 1 (fun k => inZ (fun _ => 2) 1 ((k : Nat) : Int)) (Um.enew ga10.m) n) = true) (h2 : ∀ q, q < n → Um.edn ac0 1 (Um.eit ac0 1 (fun k => inZ (fun _ => 2) 1 ((k : Nat) : Int)) (Um.enew ga10.m) q) = false) : n = 1 := by
  refine first_true (f := fun q => Um.edn ac0 1 (Um.eit ac0 1 (fun k => inZ (fun _ => 2) 1 ((k : Nat) : Int)) (Um.enew ga10.m) q)) (by decide +kernel) (by decide) (fun q hq => ?_) h0 h1 h2
  have h3 : Um.edn ac0 1 (Um.eit ac0 1 (fun k => inZ (fun _ => 2) 1 ((k : Nat) : Int)) (Um.enew ga10.m) 0) = false := by decide +kernel
  match q, hq with
  | 0, _ => exact h3

theorem gl_n {n : Nat} (h0 : n ≤ 20) (h1 : n < 20 → (Um.lit10 ac0 0 5 (Um.lnew gm3) n).dn = true) (h2 : ∀ q, q < n → (Um.lit10 ac0 0 5 (Um.lnew gm3) q).dn = false) : n = 2 := by
  refine first_true (f := fun q => (Um.lit10 ac0 0 5 (Um.lnew gm3) q).dn) (by decide +kernel) (by decide) (fun q hq => ?_) h0 h1 h2
  have h3 : (Um.lit10 ac0 0 5 (Um.lnew gm3) 0).dn = false ∧ (Um.lit10 ac0 0 5 (Um.lnew gm3) 1).dn = false := by decide +kernel
  match q, hq with
  | 0, _ => exact h3.1
  | 1, _ => exact h3.2

set_option maxHeartbeats 8000000 in
theorem gAlive_any (w : World) : Calls Try.prog 12 #[] w fun e w' => e = .returned (.bool true) ∧ Below w.heap.size w w' := by
  have hS := Sx.new w
  go_enter Try.func12, Try.ntmps12
  go_wp2_with fail
  refine (new_x hS ac0 ac0_r).mono ?_
  rintro r u ⟨B, C, rfl, hWn, hSn⟩
  clear hS
  have hS := hSn
  clear hSn
  dsimp only [putL, List.set, List.cons_append, List.nil_append] at hS
  have HW0 := hide hWn
  clear hWn
  go_wp2_with fail
  refine (of10_any 0 _).mono ?_
  rintro r u ⟨rfl, hb⟩
  replace hS := hS.call hb
  clear hb
  go_wp2_with fail
  refine (rNew01_any 2 _).mono ?_
  rintro r u ⟨rfl, hb⟩
  replace hS := hS.call hb
  clear hb
  rw [show Um.packV 0 2 false false false 0 0 = 268435456 by decide +kernel]
  go_wp2_with fail
  refine (mStore_x hS 0 1 rfl rfl (by decide) ac0_r (unhide HW0) 4 0 268435456 (by unfold Um.Word; omega) (by decide) (by decide) gm1 rfl).mono ?_
  rintro r u ⟨rfl, hWn, hSn⟩
  clear hS
  have hS := hSn
  clear hSn
  dsimp only [putL, List.set, List.cons_append, List.nil_append] at hS
  have HW1 := hide hWn
  clear hWn
  go_wp2_with (first | (refine wpx_build1 hS rfl _ rfl _ rfl _ (by intro _; simp only [Act.put, List.setIfInBounds_toArray, List.set_cons_zero, List.set_cons_succ]; first | done | exact rfl) ?_; clear hS; intro _ _ hS; dsimp only [List.cons_append, List.nil_append] at hS) | (first | (refine wpx_box hS rfl _ _ rfl _ rfl _ (by intro _; simp only [Act.put, List.setIfInBounds_toArray, List.set_cons_zero, List.set_cons_succ]; first | done | exact rfl) ?_; clear hS; intro _ _ hS; dsimp only [blit, List.set, List.cons_append, List.nil_append, Value.cells, List.toList_toArray] at hS) | (refine wpx_alloc hS rfl _ rfl _ (zer_any2 rfl) _ (by intro _; simp only [Act.put, List.setIfInBounds_toArray, List.set_cons_zero, List.set_cons_succ]; first | done | exact rfl) ?_; clear hS; intro _ _ hS; dsimp only [blit, List.set, List.cons_append, List.nil_append, Value.cells, List.toList_toArray] at hS) | (refine wpx_ld hS rfl _ _ rfl _ _ rfl ?_; (first | refine ⟨0, _, rfl, ?_⟩ | refine ⟨1, _, rfl, ?_⟩ | refine ⟨2, _, rfl, ?_⟩ | refine ⟨3, _, rfl, ?_⟩ | refine ⟨4, _, rfl, ?_⟩ | refine ⟨5, _, rfl, ?_⟩ | refine ⟨6, _, rfl, ?_⟩ | refine ⟨7, _, rfl, ?_⟩ | refine ⟨8, _, rfl, ?_⟩ | refine ⟨9, _, rfl, ?_⟩); first | refine .inl ⟨_, one_any2 rfl, rfl, _, (by simp only [Act.put, List.setIfInBounds_toArray, List.set_cons_zero, List.set_cons_succ]; first | done | exact rfl), ?_⟩ | refine .inr ⟨_, _, row_any2 rfl, rfl, (by dsimp only [cutL, List.drop, List.take]; first | done | exact rfl), _, (by simp only [Act.put, List.setIfInBounds_toArray, List.set_cons_zero, List.set_cons_succ]; first | done | exact rfl), ?_⟩) | (refine wpx_st hS rfl _ _ _ rfl rfl _ _ rfl ?_; (first | refine ⟨0, _, rfl, ?_⟩ | refine ⟨1, _, rfl, ?_⟩ | refine ⟨2, _, rfl, ?_⟩ | refine ⟨3, _, rfl, ?_⟩ | refine ⟨4, _, rfl, ?_⟩ | refine ⟨5, _, rfl, ?_⟩ | refine ⟨6, _, rfl, ?_⟩ | refine ⟨7, _, rfl, ?_⟩ | refine ⟨8, _, rfl, ?_⟩ | refine ⟨9, _, rfl, ?_⟩); refine ⟨_, (by first | exact shA rfl | exact shI rfl | exact shB rfl | exact shS rfl | exact shP rfl | exact shF rfl | exact shN rfl), _, siz_any2 rfl, (by exact rfl), (by exact rfl), (by exact rfl), ?_⟩; clear hS; intro _ hS; dsimp only [blit, List.set, List.cons_append, List.nil_append, Value.cells, List.toList_toArray] at hS)))
  refine (gnew_any hS gm1 (show Um.Word 1 by unfold Um.Word; omega) (told1 (hS.get 2 rfl))).mono ?_
  rintro r u ⟨Pa, la1, cl1, sb1, rfl, hT1, hSn⟩
  clear hS
  have hS := hSn
  clear hSn
  dsimp only [putL, List.set, List.cons_append, List.nil_append] at hS
  have HT1 := hide hT1
  clear hT1
  go_wp2_with (first | (refine wpx_build1 hS rfl _ rfl _ rfl _ (by intro _; simp only [Act.put, List.setIfInBounds_toArray, List.set_cons_zero, List.set_cons_succ]; first | done | exact rfl) ?_; clear hS; intro _ _ hS; dsimp only [List.cons_append, List.nil_append] at hS) | (first | (refine wpx_box hS rfl _ _ rfl _ rfl _ (by intro _; simp only [Act.put, List.setIfInBounds_toArray, List.set_cons_zero, List.set_cons_succ]; first | done | exact rfl) ?_; clear hS; intro _ _ hS; dsimp only [blit, List.set, List.cons_append, List.nil_append, Value.cells, List.toList_toArray] at hS) | (refine wpx_alloc hS rfl _ rfl _ (zer_any2 rfl) _ (by intro _; simp only [Act.put, List.setIfInBounds_toArray, List.set_cons_zero, List.set_cons_succ]; first | done | exact rfl) ?_; clear hS; intro _ _ hS; dsimp only [blit, List.set, List.cons_append, List.nil_append, Value.cells, List.toList_toArray] at hS) | (refine wpx_ld hS rfl _ _ rfl _ _ rfl ?_; (first | refine ⟨0, _, rfl, ?_⟩ | refine ⟨1, _, rfl, ?_⟩ | refine ⟨2, _, rfl, ?_⟩ | refine ⟨3, _, rfl, ?_⟩ | refine ⟨4, _, rfl, ?_⟩ | refine ⟨5, _, rfl, ?_⟩ | refine ⟨6, _, rfl, ?_⟩ | refine ⟨7, _, rfl, ?_⟩ | refine ⟨8, _, rfl, ?_⟩ | refine ⟨9, _, rfl, ?_⟩); first | refine .inl ⟨_, one_any2 rfl, rfl, _, (by simp only [Act.put, List.setIfInBounds_toArray, List.set_cons_zero, List.set_cons_succ]; first | done | exact rfl), ?_⟩ | refine .inr ⟨_, _, row_any2 rfl, rfl, (by dsimp only [cutL, List.drop, List.take]; first | done | exact rfl), _, (by simp only [Act.put, List.setIfInBounds_toArray, List.set_cons_zero, List.set_cons_succ]; first | done | exact rfl), ?_⟩) | (refine wpx_st hS rfl _ _ _ rfl rfl _ _ rfl ?_; (first | refine ⟨0, _, rfl, ?_⟩ | refine ⟨1, _, rfl, ?_⟩ | refine ⟨2, _, rfl, ?_⟩ | refine ⟨3, _, rfl, ?_⟩ | refine ⟨4, _, rfl, ?_⟩ | refine ⟨5, _, rfl, ?_⟩ | refine ⟨6, _, rfl, ?_⟩ | refine ⟨7, _, rfl, ?_⟩ | refine ⟨8, _, rfl, ?_⟩ | refine ⟨9, _, rfl, ?_⟩); refine ⟨_, (by first | exact shA rfl | exact shI rfl | exact shB rfl | exact shS rfl | exact shP rfl | exact shF rfl | exact shN rfl), _, siz_any2 rfl, (by exact rfl), (by exact rfl), (by exact rfl), ?_⟩; clear hS; intro _ hS; dsimp only [blit, List.set, List.cons_append, List.nil_append, Value.cells, List.toList_toArray] at hS)))
  refine (gnew_any hS ga10.m (show Um.Word 1 by unfold Um.Word; omega) (told1 (hS.get 4 rfl))).mono ?_
  rintro r u ⟨Pb, la2, cl2, sb2, rfl, hT2, hSn⟩
  clear hS
  have hS := hSn
  clear hSn
  dsimp only [putL, List.set, List.cons_append, List.nil_append] at hS
  have HT2 := hide hT2
  clear hT2
  go_wp2_with (first | (refine wpx_build1 hS rfl _ rfl _ rfl _ (by intro _; simp only [Act.put, List.setIfInBounds_toArray, List.set_cons_zero, List.set_cons_succ]; first | done | exact rfl) ?_; clear hS; intro _ _ hS; dsimp only [List.cons_append, List.nil_append] at hS) | (first | (refine wpx_box hS rfl _ _ rfl _ rfl _ (by intro _; simp only [Act.put, List.setIfInBounds_toArray, List.set_cons_zero, List.set_cons_succ]; first | done | exact rfl) ?_; clear hS; intro _ _ hS; dsimp only [blit, List.set, List.cons_append, List.nil_append, Value.cells, List.toList_toArray] at hS) | (refine wpx_alloc hS rfl _ rfl _ (zer_any2 rfl) _ (by intro _; simp only [Act.put, List.setIfInBounds_toArray, List.set_cons_zero, List.set_cons_succ]; first | done | exact rfl) ?_; clear hS; intro _ _ hS; dsimp only [blit, List.set, List.cons_append, List.nil_append, Value.cells, List.toList_toArray] at hS) | (refine wpx_ld hS rfl _ _ rfl _ _ rfl ?_; (first | refine ⟨0, _, rfl, ?_⟩ | refine ⟨1, _, rfl, ?_⟩ | refine ⟨2, _, rfl, ?_⟩ | refine ⟨3, _, rfl, ?_⟩ | refine ⟨4, _, rfl, ?_⟩ | refine ⟨5, _, rfl, ?_⟩ | refine ⟨6, _, rfl, ?_⟩ | refine ⟨7, _, rfl, ?_⟩ | refine ⟨8, _, rfl, ?_⟩ | refine ⟨9, _, rfl, ?_⟩); first | refine .inl ⟨_, one_any2 rfl, rfl, _, (by simp only [Act.put, List.setIfInBounds_toArray, List.set_cons_zero, List.set_cons_succ]; first | done | exact rfl), ?_⟩ | refine .inr ⟨_, _, row_any2 rfl, rfl, (by dsimp only [cutL, List.drop, List.take]; first | done | exact rfl), _, (by simp only [Act.put, List.setIfInBounds_toArray, List.set_cons_zero, List.set_cons_succ]; first | done | exact rfl), ?_⟩) | (refine wpx_st hS rfl _ _ _ rfl rfl _ _ rfl ?_; (first | refine ⟨0, _, rfl, ?_⟩ | refine ⟨1, _, rfl, ?_⟩ | refine ⟨2, _, rfl, ?_⟩ | refine ⟨3, _, rfl, ?_⟩ | refine ⟨4, _, rfl, ?_⟩ | refine ⟨5, _, rfl, ?_⟩ | refine ⟨6, _, rfl, ?_⟩ | refine ⟨7, _, rfl, ?_⟩ | refine ⟨8, _, rfl, ?_⟩ | refine ⟨9, _, rfl, ?_⟩); refine ⟨_, (by first | exact shA rfl | exact shI rfl | exact shB rfl | exact shS rfl | exact shP rfl | exact shF rfl | exact shN rfl), _, siz_any2 rfl, (by exact rfl), (by exact rfl), (by exact rfl), ?_⟩; clear hS; intro _ hS; dsimp only [blit, List.set, List.cons_append, List.nil_append, Value.cells, List.toList_toArray] at hS)))
  refine (gnew_any hS gl10.m (show Um.Word 2 by unfold Um.Word; omega) (told1 (hS.get 6 rfl))).mono ?_
  rintro r u ⟨Pd, la3, cl3, sb3, rfl, hT3, hSn⟩
  clear hS
  have hS := hSn
  clear hSn
  dsimp only [putL, List.set, List.cons_append, List.nil_append] at hS
  clear hT3
  go_wp2_with fail
  refine (lnew_any hS 0 5 gm3).mono ?_
  rintro r u ⟨Pl, rfl, hSn⟩
  clear hS
  have hS := hSn
  clear hSn
  dsimp only [putL, List.set, List.cons_append, List.nil_append] at hS
  go_wp2_with fail
  refine (enters_x hS 0 1 3 (Um.enew gm1) rfl rfl rfl (by decide) (by decide) (by decide) ac0_r (Um.enew_ok (unhide HW1)) (show Um.Word 1 by unfold Um.Word; omega) (by decide) ((unhide HT1).mono (fun p hp => by simp [hp])) 20 (by decide) ga10 rfl).mono ?_
  rintro r u ⟨n, rfl, hn1, hn2, hn3, hOn, hSn⟩
  clear hS
  have hS := hSn
  clear hSn
  dsimp only [putL, List.set, List.cons_append, List.nil_append] at hS
  obtain rfl : n = 2 := ga_n hn1 hn2 hn3
  have HOga10 := hide hOn
  clear hn1 hn2 hn3 hOn
  go_wp2_with fail
  refine (enters_x hS 0 1 5 (Um.enew ga10.m) rfl rfl rfl (by decide) (by decide) (by decide) ac0_r (Um.enew_ok (unhide HOga10).wd) (show Um.Word 1 by unfold Um.Word; omega) (by decide) ((unhide HT2).mono (fun p hp => by simp [hp])) 20 (by decide) gb10 rfl).mono ?_
  rintro r u ⟨n, rfl, hn1, hn2, hn3, hOn, hSn⟩
  clear hS
  have hS := hSn
  clear hSn
  dsimp only [putL, List.set, List.cons_append, List.nil_append] at hS
  obtain rfl : n = 1 := gb_n hn1 hn2 hn3
  have HOgb10 := hide hOn
  clear hn1 hn2 hn3 hOn
  go_wp2_with fail
  refine (of10_any 0 _).mono ?_
  rintro r u ⟨rfl, hb⟩
  replace hS := hS.call hb
  clear hb
  go_wp2_with fail
  refine (mLoad_x hS 0 1 rfl rfl (by decide) ac0_r (unhide HOgb10).wd 4 0 (by decide) (by decide) gm3 rfl).mono ?_
  rintro r u ⟨rfl, hWn, hSn⟩
  clear hS
  have hS := hSn
  clear hSn
  dsimp only [putL, List.set, List.cons_append, List.nil_append] at hS
  have HW3 := hide hWn
  clear hWn
  rw [show ((gm3.l.old : Nat) : Int) = 335544320 by decide +kernel]
  go_wp2_with fail
  refine (leaves_x hS 0 1 8 (Um.lnew gm3) rfl rfl rfl (by decide) (by decide) (by decide) ac0_r (Um.lnew_ok (unhide HW3)) (by decide) (by decide) 20 (by decide) gl10 rfl).mono ?_
  rintro r u ⟨n, rfl, hn1, hn2, hn3, hOn, hSn⟩
  clear hS
  have hS := hSn
  clear hSn
  dsimp only [putL, List.set, List.cons_append, List.nil_append] at hS
  obtain rfl : n = 2 := gl_n hn1 hn2 hn3
  have HOgl := hide hOn
  clear hn1 hn2 hn3 hOn
  go_wp2_with fail
  refine (gError_any (o := ga10) hS 0 1 3 rfl rfl rfl (by decide) ac0_r (unhide HOgl).wd (show Um.Word 1 by unfold Um.Word; omega)).mono ?_
  rintro r u ⟨rfl, hb⟩
  replace hS := hS.call hb
  clear hb
  rw [show Um.eer ac0 1 ga10 = 0 by decide +kernel]
  go_wp2_with fail
  refine (gError_any (o := gb10) hS 0 1 5 rfl rfl rfl (by decide) ac0_r (unhide HOgl).wd (show Um.Word 1 by unfold Um.Word; omega)).mono ?_
  rintro r u ⟨rfl, hb⟩
  replace hS := hS.call hb
  clear hb
  rw [show Um.eer ac0 1 gb10 = 3 by decide +kernel]
  go_wp2_with fail
  refine (gDone_any (o := Um.enew gl10.m) hS 0 1 7 rfl rfl rfl (by decide) ac0_r (unhide HOgl).wd (show Um.Word 2 by unfold Um.Word; omega)).mono ?_
  rintro r u ⟨rfl, hb⟩
  replace hS := hS.call hb
  clear hb
  rw [show Um.edn ac0 2 (Um.enew gl10.m) = true by decide +kernel]
  go_wp2_with fail
  refine (gError_any (o := Um.enew gl10.m) hS 0 1 7 rfl rfl rfl (by decide) ac0_r (unhide HOgl).wd (show Um.Word 2 by unfold Um.Word; omega)).mono ?_
  rintro r u ⟨rfl, hb⟩
  replace hS := hS.call hb
  clear hb
  rw [show Um.eer ac0 2 (Um.enew gl10.m) = 2 by decide +kernel]
  go_wp2_with fail
  refine (rNew01_any 2 _).mono ?_
  rintro r u ⟨rfl, hb⟩
  replace hS := hS.call hb
  clear hb
  rw [show Um.packV 0 2 false false false 0 0 = 268435456 by decide +kernel]
  go_wp2_with fail
  refine (rPut26_x hS 268435456 (by unfold Um.Word; omega)).mono ?_
  rintro r u ⟨rfl, hSn⟩
  clear hS
  have hS := hSn
  clear hSn
  rw [show Um.bzN 268435456 = 335544320 by decide +kernel]
  go_wp2_with fail
  refine (gWord_any (o := ga10) (hS.get 3 rfl)).mono ?_
  rintro r u ⟨rfl, rfl⟩
  rw [show ((ga10.w : Nat) : Int) = 335544320 by decide +kernel]
  go_wp2_with fail
  refine (gWord_any (o := gb10) (hS.get 5 rfl)).mono ?_
  rintro r u ⟨rfl, rfl⟩
  rw [show ((gb10.w : Nat) : Int) = 0 by decide +kernel]
  go_wp2_with fail
  refine (lDone_any (o := gl10) (hS.get 8 rfl)).mono ?_
  rintro r u ⟨rfl, rfl⟩
  rw [show gl10.dn = true by decide +kernel]
  go_wp2_with fail
  refine (of10_any 0 _).mono ?_
  rintro r u ⟨rfl, hb⟩
  replace hS := hS.call hb
  clear hb
  go_wp2_with fail
  refine (mLoad_x hS 0 1 rfl rfl (by decide) ac0_r (unhide HOgl).wd 4 0 (by decide) (by decide) gm5 rfl).mono ?_
  rintro r u ⟨rfl, hWn, hSn⟩
  clear hS
  have hS := hSn
  clear hSn
  dsimp only [putL, List.set, List.cons_append, List.nil_append] at hS
  clear hWn
  rw [show ((gm5.l.old : Nat) : Int) = 671088640 by decide +kernel]
  go_wp2_with fail
  refine (rNew01_any 5 _).mono ?_
  rintro r u ⟨rfl, hb⟩
  replace hS := hS.call hb
  clear hb
  rw [show Um.packV 0 5 false false false 0 0 = 671088640 by decide +kernel]
  have hB := hS.bel
  clear hS
  go_wp2
  go_ret
  exact ⟨rfl, hB⟩

end Go.Proofs.Yticaieghapjpkaa

/-
  The document's entering, over its value: whether it is done, its error, its slot.
-/
namespace Go.Proofs.Yticaieghapjpkaa
set_option maxRecDepth 100000
open Go.RowKit Go.Sort

theorem rDone_e (x : Nat) (sa : Option Addr) (sn sc : Nat) (o : Um.Es) (c : Um.Cf) (w : World) (hx : Um.Word x) : Calls Try.prog 14 #[entV x sa sn sc o, .int .i64 c.s] w fun r w' => r = .returned (.bool (Um.edn c x o)) ∧ Below w.heap.size w w' := rDone10_any x o.s o.w sa sn sc o.tk o.en o.e c.s w hx

theorem rError_e (x : Nat) (sa : Option Addr) (sn sc : Nat) (o : Um.Es) (c : Um.Cf) (w : World) (hx : Um.Word x) : Calls Try.prog 16 #[entV x sa sn sc o, .int .i64 c.s] w fun r w' => r = .returned (.int .i64 (Um.eer c x o)) ∧ Below w.heap.size w w' := rError10_any x o.s o.w sa sn sc o.tk o.en o.e c.s w hx

theorem rSlot_e (x : Nat) (sa : Option Addr) (sn sc : Nat) (o : Um.Es) (w : World) (hx : Um.Word x) : Calls Try.prog 18 #[entV x sa sn sc o] w fun r w' => r = .returned (.int .i64 (Um.svN x)) ∧ Below w.heap.size w w' := rSlot10_any x o.s o.w sa sn sc o.tk o.en o.e w hx

end Go.Proofs.Yticaieghapjpkaa

/-
  A world's size that was handed in: what its reading says of its cells.
-/
namespace Go.Proofs.Yticaieghapjpkaa
set_option maxRecDepth 100000
open Go.ChangeShapes Go.WideShapes Go.ChangeAt Go.RowKit

theorem cellsCfg : Try.prog.cellsOf 24 = 5 := by kernel_rfl
theorem cellsCfgI : Try.prog.cellsOf 3 = 1 := by kernel_rfl
theorem cellsCfgU : Try.prog.cellsOf 22 = 1 := by kernel_rfl

theorem array5 {α : Type} {cs : Array α} (h : cs.size = 5) : ∃ c0 c1 c2 c3 c4, cs = #[c0, c1, c2, c3, c4] := by
  obtain ⟨l⟩ := cs
  match l, h with
  | [c0, c1, c2, c3, c4], _ => exact ⟨c0, c1, c2, c3, c4, rfl⟩

theorem list5 {α : Type} {cs : List α} (h : cs.length = 5) : ∃ c0 c1 c2 c3 c4, cs = [c0, c1, c2, c3, c4] := by
  match cs, h with
  | [c0, c1, c2, c3, c4], _ => exact ⟨c0, c1, c2, c3, c4, rfl⟩

set_option maxRecDepth 100000 in
theorem open_cfg {H : Type} {enc : TypeId × Value → H} {W : World} {base : Nat} {v : Value} {d : DataW H} {p : List MemPlace}
    (hv : Value.okWide Try.prog W .any base 24 v) (h : DataW.Trod enc Try.prog W 0 (fun _ => true) true 24 v d p) :
    ∃ (t s k g : Int) (q : Nat), v = .agg #[.int .i64 t, .int .i64 s, .int .i64 k, .int .i64 g, .int .u64 q] ∧ (-9223372036854775808 ≤ t ∧ t ≤ 9223372036854775807) ∧ (-9223372036854775808 ≤ s ∧ s ≤ 9223372036854775807) ∧ (-9223372036854775808 ≤ k ∧ k ≤ 9223372036854775807) := by
  obtain ⟨cs, rfl, hsz⟩ := okWide_struct Try.underlying24 hv
  obtain ⟨c0, c1, c2, c3, c4, rfl⟩ := array5 (hsz.trans cellsCfg)
  obtain ⟨fuel, hf⟩ := h
  obtain ⟨xs, n, _, _, hl, hlen, hx⟩ := DataW.trod_struct Try.underlying24 hf
  obtain ⟨y0, y1, y2, y3, y4, rfl⟩ := list5 hlen
  obtain ⟨t, e0, _, k0⟩ := DataW.trod_int Try.underlying3 (hx 0 _ rfl)
  obtain ⟨s, e1, _, k1⟩ := DataW.trod_int Try.underlying3 (hx 1 _ rfl)
  obtain ⟨k, e2, _, k2⟩ := DataW.trod_int Try.underlying3 (hx 2 _ rfl)
  obtain ⟨g, e3, _, _⟩ := DataW.trod_int Try.underlying3 (hx 3 _ rfl)
  obtain ⟨q, e4, _, k4⟩ := DataW.trod_int Try.underlying22 (hx 4 _ rfl)
  obtain ⟨q', rfl, _⟩ := word_of k4
  simp [Value.cells, cellsCfgI, cellsCfgU] at e0 e1 e2 e3 e4
  subst e0 e1 e2 e3 e4
  exact ⟨t, s, k, g, q', rfl, int_of k0, int_of k1, int_of k2⟩

end Go.Proofs.Yticaieghapjpkaa

/-
  What layer 10's laws are handed: a play (a ticket, states, how many steps there are, what is written meanwhile), a status: what their reading says of their cells.
-/
namespace Go.Proofs.Yticaieghapjpkaa
set_option maxRecDepth 100000
open Go.ChangeShapes Go.WideShapes Go.ChangeAt Go.RowKit

/-- the weights of what lies in a struct that was handed in -/
theorem sized_in {H : Type} {P : Program} {ts : List TypeId} {ds : List (DataW H)} (h : (DataW.weightsEach P ts ds).all (· ≤ reachBytes) = true) {j : Nat} {t : TypeId} {fs : Array Field} {parts : List (DataW H)}
    (ht : ts[j]? = some t) (hd : ds[j]? = some (.agg parts)) (hu : P.underlying t = some (.struct fs)) : (DataW.weightsEach P (fs.toList.map (·.type)) parts).all (· ≤ reachBytes) = true := by
  refine List.all_eq_true.2 fun n hn => List.all_eq_true.1 h n (DataW.weights_mem_each ht hd n ?_)
  simp only [DataW.weights, hu]
  exact hn

theorem cellsPlay10 : Try.prog.cellsOf 29 = 4 := by kernel_rfl

theorem cellsStat10 : Try.prog.cellsOf 86 = 7 := by kernel_rfl

theorem cellsInts10 : Try.prog.cellsOf 26 = 1 := by kernel_rfl

theorem bytesI10 : Try.prog.bytesOf 3 = 8 := by kernel_rfl

theorem open_told {H : Type} {enc : TypeId × Value → H} {W : World} {fuel : Nat} {cs : List Value} {x : DataW H × List MemPlace}
    (h : DataW.trod enc Try.prog W 0 (fun _ => true) true fuel 26 cs = some x) :
    ∃ (la : Option Addr) (nl cl : Nat) (Z : Nat → Int), cs = [.slice la nl cl] ∧ nl ≤ cl ∧ RowOf W la nl (fun i => .int .i64 (Z i)) ∧ (la = none → nl = 0 ∧ cl = 0) ∧
      ((∀ elems spare, x.1 = .slice elems spare → (elems.length + spare.length) * Try.prog.bytesOf 3 ≤ reachBytes) → nl * 8 ≤ 140737488355328) := by
  rcases open_ints Try.underlying26 Try.underlying3 cellsWI h with ⟨hcs, _⟩ | ⟨a, len, cap, zs, hcs, _, hl, hm, hz, hx, hcell, hwf⟩
  · exact ⟨none, 0, 0, fun _ => 0, hcs, Nat.le_refl _, .inl rfl, fun _ => ⟨rfl, rfl⟩, fun _ => by decide⟩
  · have hzc : zs.length = cap := hz
    refine ⟨some a, len, cap, fun j => zs.getD j 0, hcs, hl, ?_, (fun q => by cases q), fun hs => ?_⟩
    · by_cases h0 : len = 0
      · exact .inl h0
      · obtain ⟨b, off, rfl, hc⟩ := ints_at hcell (by omega)
        exact .inr ⟨b, off, rfl, World.block_lt_of_cell? W _ (hc 0 (by omega)), fun j hj => hc j (by omega)⟩
    · subst hx
      have := hs _ _ rfl
      rw [bytesI10] at this
      have hr := reachBytes_lt
      simp [lits] at this
      have h47 : (2 : Nat) ^ 47 = 140737488355328 := by decide
      omega

theorem open_play10 {H : Type} {enc : TypeId × Value → H} {W : World} {base : Nat} {v : Value} {d : DataW H} {p : List MemPlace}
    (hv : Value.okWide Try.prog W .any base 29 v) (h : DataW.Trod enc Try.prog W 0 (fun _ => true) true 29 v d p) :
    ∃ (x : Nat) (sa : Option Addr) (sn sc : Nat) (st : Int) (la : Option Addr) (nl cl : Nat) (Y : Nat → Int) (Z : Nat → Pok), v = .agg #[.int .u64 (x : Nat), .slice sa sn sc, .int .i64 st, .slice la nl cl] ∧ Um.Word x ∧ nl ≤ cl ∧ PokesAt W la nl Z ∧ sn ≤ sc ∧
      RowOf W sa sn (fun i => .int .i64 (Y i)) ∧ (sa = none → sn = 0 ∧ sc = 0) ∧ ((∀ parts elems spare, d = .agg parts → parts[1]? = some (.slice elems spare) → (elems.length + spare.length) * Try.prog.bytesOf 3 ≤ reachBytes) → sn * 8 ≤ 140737488355328) := by
  obtain ⟨cs, rfl, hsz⟩ := okWide_struct Try.underlying29 hv
  obtain ⟨c0, c1, c2, c3, rfl⟩ := ar4 (hsz.trans cellsPlay10)
  obtain ⟨fuel, hf⟩ := h
  obtain ⟨xs, n, _, hxe, hl, hlen, hx⟩ := DataW.trod_struct Try.underlying29 hf
  obtain ⟨y0, y1, y2, y3, rfl⟩ := ls4 hlen
  obtain ⟨r, e0, _, k0⟩ := DataW.trod_int Try.underlying22 (hx 0 _ rfl)
  obtain ⟨sa, sn, sc, Y, e1, hsn, hY, hno, hsize⟩ := open_told (hx 1 _ rfl)
  obtain ⟨st, e2, _, _⟩ := DataW.trod_int Try.underlying3 (hx 2 _ rfl)
  obtain ⟨la, nl, cl, Z, e3, hnc, hZ⟩ := open_pokes (hx 3 _ rfl)
  obtain ⟨r', rfl, w1⟩ := word_of k0
  simp [Value.cells, cellsWI, cellsWU, cellsPokes, cellsInts10] at e0 e1 e2 e3
  subst e0 e1 e2 e3
  refine ⟨r', sa, sn, sc, st, la, nl, cl, Y, Z, rfl, w1, hnc, hZ, hsn, hY, hno, fun hs => hsize fun elems spare he => ?_⟩
  obtain ⟨rfl, _⟩ := Prod.mk.inj hxe
  exact hs _ elems spare rfl (by rw [← he]; rfl)

theorem ar7 {α : Type} {cs : Array α} (h : cs.size = 7) : ∃ c0 c1 c2 c3 c4 c5 c6, cs = #[c0, c1, c2, c3, c4, c5, c6] := by
  obtain ⟨l⟩ := cs
  match l, h with
  | [c0, c1, c2, c3, c4, c5, c6], _ => exact ⟨c0, c1, c2, c3, c4, c5, c6, rfl⟩

theorem ls7 {α : Type} {cs : List α} (h : cs.length = 7) : ∃ c0 c1 c2 c3 c4 c5 c6, cs = [c0, c1, c2, c3, c4, c5, c6] := by
  match cs, h with
  | [c0, c1, c2, c3, c4, c5, c6], _ => exact ⟨c0, c1, c2, c3, c4, c5, c6, rfl⟩

theorem open_status10 {H : Type} {enc : TypeId × Value → H} {W : World} {base : Nat} {v : Value} {d : DataW H} {p : List MemPlace}
    (hv : Value.okWide Try.prog W .any base 86 v) (h : DataW.Trod enc Try.prog W 0 (fun _ => true) true 86 v d p) :
    ∃ (g st : Int) (b i o : Bool) (n t : Int), v = .agg #[.int .i64 g, .int .i64 st, .bool b, .bool i, .bool o, .int .i64 n, .int .i64 t] := by
  obtain ⟨cs, rfl, hsz⟩ := okWide_struct Try.underlying86 hv
  obtain ⟨c0, c1, c2, c3, c4, c5, c6, rfl⟩ := ar7 (hsz.trans cellsStat10)
  obtain ⟨fuel, hf⟩ := h
  obtain ⟨xs, n, _, _, hl, hlen, hx⟩ := DataW.trod_struct Try.underlying86 hf
  obtain ⟨y0, y1, y2, y3, y4, y5, y6, rfl⟩ := ls7 hlen
  obtain ⟨g, e0, _, _⟩ := DataW.trod_int Try.underlying3 (hx 0 _ rfl)
  obtain ⟨st, e1, _, _⟩ := DataW.trod_int Try.underlying3 (hx 1 _ rfl)
  obtain ⟨b, e2, _⟩ := DataW.trod_bool Try.underlying4 (hx 2 _ rfl)
  obtain ⟨i, e3, _⟩ := DataW.trod_bool Try.underlying4 (hx 3 _ rfl)
  obtain ⟨o, e4, _⟩ := DataW.trod_bool Try.underlying4 (hx 4 _ rfl)
  obtain ⟨m, e5, _, _⟩ := DataW.trod_int Try.underlying3 (hx 5 _ rfl)
  obtain ⟨t, e6, _, _⟩ := DataW.trod_int Try.underlying3 (hx 6 _ rfl)
  simp [Value.cells, cellsWI, cellsBool] at e0 e1 e2 e3 e4 e5 e6
  subst e0 e1 e2 e3 e4 e5 e6
  exact ⟨g, st, b, i, o, m, t, rfl⟩

end Go.Proofs.Yticaieghapjpkaa
