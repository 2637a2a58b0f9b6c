/-
  Texts that the laws stand on, merged (ReadX, ReadY, ReadAlive, JoinW, JoinR).
-/
import Derived.Test.YtapgghciieloaaaGreatQ10
import Derived.Test.YtapgghciieloaaaGreatQ11
import Derived.Test.YtapgghciieloaaaGreatQ12
import Derived.Test.YtapgghciieloaaaGreatQ15
import Derived.Test.YtapgghciieloaaaGreatQ17
import Derived.Test.YtapgghciieloaaaGreatQ9
import Derived.Deep.DeepCutAuto
import Derived.Lib.QuietBelow
import Derived.LoopTactic

namespace Go.Proofs.YtapgghciieloaaaGreat
section
set_option maxRecDepth 100000
open Go.RowKit Go.Sort
set_option linter.unusedVariables false
set_option linter.unusedSimpArgs false
def st12 : Nat → Int := fun _ => 2
def inn12 : Nat → Bool := fun k => inZ st12 1 ((k : Nat) : Int)
def RdAt (P h : Nat) (ky sl : Int) (e : List (Nat × List Value)) (o : Um.Rd) (cs : List Value) (hb : List (Nat × List Value)) : Prop :=
  (o.dn = true ∧ (∃ v0 v1 v2 v3 v4 v5 v6 v7 v8 v9, cs = [v0, v1, v2, v3, v4, v5, v6, v7, v8, v9, .nilFunc, .int .i64 o.e]) ∧ hb = []) ∨
  (o.dn = false ∧ o.nx = 0 ∧ ∃ (ov : Value) (ot : Int) (pj po pl : Value) (ft : Int) (G cl : Nat) (la : Option Addr), StB la 1 st12 e ∧ cs = [.int .i64 sl, .int .i64 ky, .int .u64 (o.n : Nat), .int .u64 (o.w : Nat), ov, .int .i64 ot, .pointer (some ⟨G, 0, none⟩), pj, po, pl, .func (.func 45) #[.pointer (some ⟨P, 0, none⟩)] #[], .int .i64 ft] ∧ hb = [(G, entL G h la 1 cl o.g)]) ∨
  (o.dn = false ∧ o.nx = 1 ∧ (∃ (ov : Value) (ot : Int) (pg pj po pl : Value) (ft : Int), cs = [.int .i64 sl, .int .i64 ky, .int .u64 (o.n : Nat), .int .u64 (o.w : Nat), ov, .int .i64 ot, pg, pj, po, pl, .func (.func 89) #[.pointer (some ⟨P, 0, none⟩)] #[], .int .i64 ft]) ∧ hb = []) ∨
  (o.dn = false ∧ o.nx = 2 ∧ (∃ (ov : Value) (ot : Int) (pg pj po pl : Value) (ft : Int), cs = [.int .i64 sl, .int .i64 ky, .int .u64 (o.n : Nat), .int .u64 (o.w : Nat), ov, .int .i64 ot, pg, pj, po, pl, .func (.func 105) #[.pointer (some ⟨P, 0, none⟩)] #[], .int .i64 ft]) ∧ hb = []) ∨
  (o.dn = false ∧ o.nx = 3 ∧ (∃ (ov : Value) (ot : Int) (pg pj po pl : Value) (ft : Int), cs = [.int .i64 sl, .int .i64 ky, .int .u64 (o.n : Nat), .int .u64 (o.w : Nat), ov, .int .i64 ot, pg, pj, po, pl, .func (.func 127) #[.pointer (some ⟨P, 0, none⟩)] #[], .int .i64 ft]) ∧ hb = []) ∨
  (o.dn = false ∧ o.nx = 4 ∧ ∃ (pg po pl : Value) (ft : Int) (J L : Nat) (a : Option Addr) (c' : Nat), cs = [.int .i64 sl, .int .i64 ky, .int .u64 (o.n : Nat), .int .u64 (o.w : Nat), .func (.func 140) #[] #[.pointer (some ⟨L, 0, none⟩)], .int .i64 o.jp, pg, .pointer (some ⟨J, 0, none⟩), po, pl, .func (.func 144) #[.pointer (some ⟨P, 0, none⟩)] #[], .int .i64 ft] ∧ hb = [(L, [.slice a o.ot.tail.length c']), (J, jnL o.jp 1 sl o.n o.j)] ∧ ∀ W', (∀ p ∈ e, BlkAt W' p.1 p.2) → IsRow W' (.slice a o.ot.tail.length c') o.ot.tail) ∨
  (o.dn = false ∧ o.nx = 5 ∧ ∃ (pg pj pl : Value) (ft : Int) (OW L : Nat) (a : Option Addr) (c' : Nat), cs = [.int .i64 sl, .int .i64 ky, .int .u64 (o.n : Nat), .int .u64 (o.w : Nat), .func (.func 140) #[] #[.pointer (some ⟨L, 0, none⟩)], .int .i64 o.op, pg, pj, .pointer (some ⟨OW, 0, none⟩), pl, .func (.func 152) #[.pointer (some ⟨P, 0, none⟩)] #[], .int .i64 ft] ∧ hb = [(L, [.slice a o.ot.tail.length c']), (OW, owL sl 0 o.op o.o)] ∧ ∀ W', (∀ p ∈ e, BlkAt W' p.1 p.2) → IsRow W' (.slice a o.ot.tail.length c') o.ot.tail) ∨
  (o.dn = false ∧ o.nx = 6 ∧ ∃ (ov : Value) (ot : Int) (pg pj po : Value) (V : Nat), cs = [.int .i64 sl, .int .i64 ky, .int .u64 (o.n : Nat), .int .u64 (o.w : Nat), ov, .int .i64 ot, pg, pj, po, .pointer (some ⟨V, 0, none⟩), .func (.func 147) #[.pointer (some ⟨P, 0, none⟩)] #[], .int .i64 o.td] ∧ hb = [(V, leaL V sl o.lp o.l)])
theorem RdAt.mono {P h : Nat} {ky sl : Int} {e e' : List (Nat × List Value)} {o : Um.Rd} {cs : List Value} {hb : List (Nat × List Value)} (hA : RdAt P h ky sl e o cs hb) (hs : ∀ p ∈ e, p ∈ e') : RdAt P h ky sl e' o cs hb := by
  rcases hA with q | ⟨d, n, ov, ot, pj, po, pl, ft, G, cl, la, q1, q2, q3⟩ | q | q | q | ⟨d, n, pg, po, pl, ft, J, L, a, c', q1, q2, q3⟩ | ⟨d, n, pg, pj, pl, ft, J, L, a, c', q1, q2, q3⟩ | q
  · exact .inl q
  · exact .inr (.inl ⟨d, n, ov, ot, pj, po, pl, ft, G, cl, la, q1.mono hs, q2, q3⟩)
  · exact .inr (.inr (.inl q))
  · exact .inr (.inr (.inr (.inl q)))
  · exact .inr (.inr (.inr (.inr (.inl q))))
  · exact .inr (.inr (.inr (.inr (.inr (.inl ⟨d, n, pg, po, pl, ft, J, L, a, c', q1, q2, fun W' hW => q3 W' (fun p hp => hW p (hs p hp))⟩)))))
  · exact .inr (.inr (.inr (.inr (.inr (.inr (.inl ⟨d, n, pg, pj, pl, ft, J, L, a, c', q1, q2, fun W' hW => q3 W' (fun p hp => hW p (hs p hp))⟩))))))
  · exact .inr (.inr (.inr (.inr (.inr (.inr (.inr q))))))
theorem RdAt.setR {P h : Nat} {ky sl : Int} {e : List (Nat × List Value)} {o : Um.Rd} {cs : List Value} {hb : List (Nat × List Value)} (hA : RdAt P h ky sl e o cs hb) (m : Um.Mm) : RdAt P h ky sl e (Um.setR m o) cs hb := hA
theorem rd_nil {o : Um.Rd} (h : o.ot = []) : Um.rdgo o = Um.rdlv o (-1) 0 := by unfold Um.rdgo; rw [h]
theorem rd_cons {o : Um.Rd} {x : Int} {r : List Int} (h : o.ot = x :: r) : Um.rdgo o = { o with j := Um.jnew o.m, jp := x, ja := true, nx := 4 } := by unfold Um.rdgo; rw [h]
theorem an_rd {P L h : Nat} {ky sl : Int} {e : List (Nat × List Value)} {cs ls xc : List Value} {X : Nat} {o : Um.Rd} (hd : o.dn = false) (hA : AnP P L sl ky o.n o.w o.m e o.ot cs ls X xc) : ∃ hb, RdAt P h ky sl e (Um.rdgo o) cs hb ∧ hb.Sublist [(L, ls), (X, xc)] ∧ (Um.rdgo o).m = o.m := by
  rcases hA with ⟨h0, ⟨ot, pg, pj, po, rfl⟩, rfl⟩ | ⟨x, r, a, c', h0, ⟨pg, po, pl, ft, rfl⟩, rfl, rfl, hI⟩
  · rw [rd_nil h0]
    exact ⟨[(X, leaL X sl (-1) (Um.lnew o.m))], .inr (.inr (.inr (.inr (.inr (.inr (.inr ⟨hd, rfl, _, _, _, _, _, X, rfl, rfl⟩)))))), .cons _ (.cons_cons _ .slnil), rfl⟩
  · rw [rd_cons h0]
    have ht : o.ot.tail = r := by rw [h0]; rfl
    refine ⟨[(L, [.slice a r.length c']), (X, jnL x 1 sl o.n (Um.jnew o.m))], .inr (.inr (.inr (.inr (.inr (.inl ⟨hd, rfl, pg, po, pl, ft, X, L, a, c', rfl, ?_, ?_⟩))))), List.Sublist.refl _, rfl⟩
    · show [(L, [Value.slice a r.length c']), (X, _)] = [(L, [Value.slice a o.ot.tail.length c']), (X, _)]
      rw [ht]
    · show ∀ W', (∀ p ∈ e, BlkAt W' p.1 p.2) → IsRow W' (.slice a o.ot.tail.length c') o.ot.tail
      rw [ht]
      exact hI
theorem put3_rot {l : List (Nat × List Value)} {i j k : Nat} {a b d : Nat × List Value} (hij : i ≠ j) (hik : i ≠ k) (hjk : j ≠ k) : putL l [(k, d), (i, a), (j, b)] = putL l [(i, a), (j, b), (k, d)] := by
  show ((l.set k d).set i a).set j b = ((l.set i a).set j b).set k d
  rw [List.set_comm d a hik.symm, List.set_comm d b hjk.symm]
section
variable {bs : List Nat} {w0 w w' : World} {l e hb hb' sb : List (Nat × List Value)} {B C P : Nat} {c : Um.Cf} {h : Nat} {sl ky : Int} {cs cs' : List Value}
theorem Sx.sublist (hS : Sx bs w0 w l e) {l' : List (Nat × List Value)} (s : l'.Sublist l) : Sx bs w0 w l' e := hS.sub (fun p hp => s.subset hp) (hS.nd.sublist s) (fun p hp => hp)
theorem rd_back (hS : Sx bs w0 w (l ++ hb) e) (i j k : Nat) {m M : Um.Mm} (hi : l[i]? = some (B, memL c C m)) (hj : l[j]? = some (C, rowW m.ws c.n)) (hk : l[k]? = some (P, cs)) (hij : i ≠ j) (hik : i ≠ k) (hjk : j ≠ k)
    (hL : Sx (P :: B :: C :: hb.map (·.1)) w w' ((P, cs') :: (B, memL c C M) :: (C, rowW M.ws c.n) :: hb') (e ++ sb)) (hsb : ∀ p ∈ sb, w.heap.size ≤ p.1) :
    Sx bs w0 w' (putL l [(i, B, memL c C M), (j, C, rowW M.ws c.n), (k, P, cs')] ++ hb') (e ++ sb) := by
  have h9 := hS.backs k i j hk hi hj hL hsb
  rwa [put3_rot hij hik hjk] at h9
theorem rd_back0 (hS : Sx bs w0 w (l ++ hb) e) (i j k : Nat) {m M : Um.Mm} (hi : l[i]? = some (B, memL c C m)) (hj : l[j]? = some (C, rowW m.ws c.n)) (hk : l[k]? = some (P, cs)) (hij : i ≠ j) (hik : i ≠ k) (hjk : j ≠ k)
    (hL : Sx (P :: B :: C :: hb.map (·.1)) w w' ((P, cs') :: (B, memL c C M) :: (C, rowW M.ws c.n) :: hb') e) :
    Sx bs w0 w' (putL l [(i, B, memL c C M), (j, C, rowW M.ws c.n), (k, P, cs')] ++ hb') (e ++ []) :=
  rd_back hS i j k hi hj hk hij hik hjk (sb := []) (by rw [List.append_nil]; exact hL) (fun p hp => by cases hp)
theorem RdAt.nil {o : Um.Rd} (hA : RdAt P h ky sl e o cs hb) : RdAt P h ky sl (e ++ []) o cs hb := by rw [List.append_nil]; exact hA
theorem rdStep_any (hS : Sx bs w0 w (l ++ hb) e) (i j k : Nat) (o O : Um.Rd) (hO : O = Um.rdstep c h inn12 ky sl o) (hA : RdAt P h ky sl e o cs hb) (hi : l[i]? = some (B, memL c C o.m)) (hj : l[j]? = some (C, rowW o.m.ws c.n)) (hk : l[k]? = some (P, cs)) (hij : i ≠ j) (hik : i ≠ k) (hjk : j ≠ k) (hr : c.r = true) (hh : Um.Word h) (ho : Um.Rok c o) (hn : o.dn = false → Um.ook h c.s = true) (hsb : -9223372036854775808 ≤ sl ∧ sl ≤ 9223372036854775807) (hkb : -9223372036854775808 ≤ ky ∧ ky ≤ 9223372036854775807) :
    Calls Tryz.prog 17 #[.pointer (some ⟨P, 0, none⟩), .pointer (some ⟨B, 0, none⟩)] w fun r w' => r = .returned (.tuple #[]) ∧ Um.Rok c O ∧ ∃ cs' hb' sb, RdAt P h ky sl (e ++ sb) O cs' hb' ∧ Sx bs w0 w' (putL l [(i, B, memL c C O.m), (j, C, rowW O.m.ws c.n), (k, P, cs')] ++ hb') (e ++ sb) := by
  have hO' : Um.Rok c O := hO ▸ Um.rok_step ho
  have hK := hS.enters k i j hk hi hj hik.symm hjk.symm hij
  rcases hA with ⟨hd, ⟨v0, v1, v2, v3, v4, v5, v6, v7, v8, v9, rfl⟩, rfl⟩ | ⟨hd, q, ov, ot, pj, po, pl, ft, G, cl, la, hSt, rfl, rfl⟩ | ⟨hd, q, ⟨ov, ot, pg, pj, po, pl, ft, rfl⟩, rfl⟩ | ⟨hd, q, ⟨ov, ot, pg, pj, po, pl, ft, rfl⟩, rfl⟩ | ⟨hd, q, ⟨ov, ot, pg, pj, po, pl, ft, rfl⟩, rfl⟩ | ⟨hd, q, pg, po, pl, ft, J, L, a, c', rfl, rfl, hI⟩ | ⟨hd, q, pg, pj, pl, ft, OW, L, a, c', rfl, rfl, hI⟩ | ⟨hd, q, ov, ot, pg, pj, po, V, rfl, rfl⟩
  · have eO : O = o := by rw [hO]; exact Um.rdstep_done hd
    subst eO
    refine (rStep_done (hK.get 0 rfl) rfl _).mono ?_
    rintro r w' ⟨rfl, rfl⟩
    exact ⟨rfl, hO', _, [], [], RdAt.nil (.inl ⟨hd, ⟨_, _, _, _, _, _, _, _, _, _, rfl⟩, rfl⟩), rd_back0 hS i j k hi hj hk hij hik hjk hK⟩
  · have hn' := hn hd
    obtain ⟨g, hg⟩ : ∃ g, g = Um.estep c h inn12 (Um.setE o.m o.g) := ⟨_, rfl⟩
    have eO : O = Um.rd0 o g := by rw [hO, hg]; exact Um.step0 hd q
    unfold Um.rd0 at eO
    cases hen : g.en with
    | false =>
      rw [if_neg (by rw [hen]; decide)] at eO
      subst eO
      refine (rStep_enter (hK.get 0 rfl) (rEnter_a (Z := st12) (g := Um.setE o.m o.g) hK hr hg (ho.k.g o.m ho.wd) hh (by decide) hSt hn' hen)).mono ?_
      rintro r w' ⟨rfl, _, hSn⟩
      exact ⟨rfl, hO', _, _, [], RdAt.nil (.inr (.inl ⟨hd, q, ov, ot, pj, po, pl, ft, G, cl, la, hSt, rfl, rfl⟩)), rd_back0 hS i j k hi hj hk hij hik hjk hSn⟩
    | true =>
      rw [if_pos hen] at eO
      by_cases he : g.e = 0
      · subst eO
        refine (rStep_enter (hK.get 0 rfl) (rEnter_c (Z := st12) (g := Um.setE o.m o.g) hK hr hg (ho.k.g o.m ho.wd) hh (by decide) hSt hn' hen he)).mono ?_
        rintro r w' ⟨rfl, _, hSn⟩
        exact ⟨rfl, hO', _, [], [], RdAt.nil (.inr (.inr (.inl ⟨decide_eq_false (by simpa using he), rfl, ⟨_, _, _, _, _, _, _, rfl⟩, rfl⟩))), rd_back0 hS i j k hi hj hk hij hik hjk (hSn.sublist (.cons_cons _ (.cons_cons _ (.cons_cons _ (.cons _ .slnil)))))⟩
      · subst eO
        refine (rStep_enter (hK.get 0 rfl) (rEnter_b (Z := st12) (g := Um.setE o.m o.g) hK hr hg (ho.k.g o.m ho.wd) hh (by decide) hSt hn' hen he)).mono ?_
        rintro r w' ⟨rfl, _, hSn⟩
        exact ⟨rfl, hO', _, [], [], RdAt.nil (.inl ⟨decide_eq_true he, ⟨_, _, _, _, _, _, _, _, _, _, rfl⟩, rfl⟩), rd_back0 hS i j k hi hj hk hij hik hjk (hSn.sublist (.cons_cons _ (.cons_cons _ (.cons_cons _ (.cons _ .slnil)))))⟩
  · have eO : O = Um.rd1 o (Um.mtouch c o.m 1 5 sl 0 0) := by rw [hO]; exact Um.step1 hd q
    subst eO
    refine (rStep_snapshot (hK.get 0 rfl) (rSnap_x hK hr ho.wd hsb hkb _ rfl)).mono ?_
    rintro r w' ⟨rfl, _, hSn⟩
    exact ⟨rfl, hO', _, [], [], RdAt.nil (.inr (.inr (.inr (.inl ⟨hd, rfl, ⟨_, _, _, _, _, _, _, rfl⟩, rfl⟩)))), rd_back0 hS i j k hi hj hk hij hik hjk hSn⟩
  · obtain ⟨M, hM⟩ : ∃ M, M = Um.mtouch c o.m 1 8 ky 0 0 := ⟨_, rfl⟩
    have eO : O = Um.rd2 sl o M := by rw [hO, hM]; exact Um.step2 hd q
    unfold Um.rd2 at eO
    cases hx : Um.hasN M.l.old 0 sl with
    | false =>
      rw [if_neg (by rw [hx]; decide)] at eO
      subst eO
      refine (rStep_look (hK.get 0 rfl) (rLook_n hK hr ho.wd hsb hkb M hM hx)).mono ?_
      rintro r w' ⟨rfl, _, hSn⟩
      exact ⟨rfl, hO', _, [], [], RdAt.nil (.inr (.inr (.inr (.inr (.inl ⟨hd, rfl, ⟨_, _, _, _, _, _, _, rfl⟩, rfl⟩))))), rd_back0 hS i j k hi hj hk hij hik hjk hSn⟩
    | true =>
      rw [if_pos hx] at eO
      refine (rStep_look (Q := fun w' => ∃ L cs2 ls X xc sb, AnP P L sl ky o.n M.l.old M (e ++ sb) (Um.othersN M.l.old 1 sl) cs2 ls X xc ∧ (∀ p ∈ sb, w.heap.size ≤ p.1) ∧ WordsOk c M ∧ Sx [P, B, C] w w' [(P, cs2), (B, memL c C M), (C, rowW M.ws c.n), (L, ls), (X, xc)] (e ++ sb)) (hK.get 0 rfl) ((rLook_t hK hr ho.wd hsb hkb M hM hx).mono ?_)).mono ?_
      · rintro r w' ⟨L, cs2, ls, X, xc, sb, e1, e2⟩
        exact ⟨e1, L, cs2, ls, X, xc, sb, e2⟩
      rintro r w' ⟨rfl, L, cs2, ls, X, xc, sb, hAn, hsb2, _, hSn⟩
      obtain ⟨hb2, a1, a2, a3⟩ := an_rd (h := h) (o := { o with m := M, w := M.l.old, nx := 3, ot := Um.othersN M.l.old 1 sl }) hd hAn
      have eO2 : O = Um.rdgo { o with m := M, w := M.l.old, nx := 3, ot := Um.othersN M.l.old 1 sl } := eO
      rw [← eO2] at a1 a3
      have a4 : O.m = M := a3
      rw [a4]
      exact ⟨rfl, hO', cs2, hb2, sb, a1, rd_back hS i j k hi hj hk hij hik hjk (hSn.sublist (.cons_cons _ (.cons_cons _ (.cons_cons _ a2)))) hsb2⟩
  · obtain ⟨M, hM⟩ : ∃ M, M = Um.mtouch c o.m 3 8 ky o.w (Um.withN o.w 0 sl) := ⟨_, rfl⟩
    have eO : O = Um.rd3 sl o M := by rw [hO, hM]; exact Um.step3 hd q
    unfold Um.rd3 at eO
    cases hx : M.l.done with
    | false =>
      rw [if_neg (by rw [hx]; decide)] at eO
      subst eO
      refine (rStep_mark (hK.get 0 rfl) (rMark_f hK hr ho.wd hsb hkb M hM ho.k.w hx)).mono ?_
      rintro r w' ⟨rfl, _, hSn⟩
      exact ⟨rfl, hO', _, [], [], RdAt.nil (.inr (.inr (.inr (.inl ⟨hd, rfl, ⟨_, _, _, _, _, _, _, rfl⟩, rfl⟩)))), rd_back0 hS i j k hi hj hk hij hik hjk hSn⟩
    | true =>
      rw [if_pos hx] at eO
      refine (rStep_mark (Q := fun w' => ∃ L cs2 ls X xc sb, AnP P L sl ky o.n o.w M (e ++ sb) (Um.othersN o.w 1 sl) cs2 ls X xc ∧ (∀ p ∈ sb, w.heap.size ≤ p.1) ∧ WordsOk c M ∧ Sx [P, B, C] w w' [(P, cs2), (B, memL c C M), (C, rowW M.ws c.n), (L, ls), (X, xc)] (e ++ sb)) (hK.get 0 rfl) ((rMark_t hK hr ho.wd hsb hkb M hM ho.k.w hx).mono ?_)).mono ?_
      · rintro r w' ⟨L, cs2, ls, X, xc, sb, e1, e2⟩
        exact ⟨e1, L, cs2, ls, X, xc, sb, e2⟩
      rintro r w' ⟨rfl, L, cs2, ls, X, xc, sb, hAn, hsb2, _, hSn⟩
      obtain ⟨hb2, a1, a2, a3⟩ := an_rd (h := h) (o := { o with m := M, nx := 2, ot := Um.othersN o.w 1 sl }) hd hAn
      have eO2 : O = Um.rdgo { o with m := M, nx := 2, ot := Um.othersN o.w 1 sl } := eO
      rw [← eO2] at a1 a3
      have a4 : O.m = M := a3
      rw [a4]
      exact ⟨rfl, hO', cs2, hb2, sb, a1, rd_back hS i j k hi hj hk hij hik hjk (hSn.sublist (.cons_cons _ (.cons_cons _ (.cons_cons _ a2)))) hsb2⟩
  · obtain ⟨j2, hj2⟩ : ∃ j2, j2 = Um.jstep c o.jp 1 sl o.n (Um.setJ o.m o.j) := ⟨_, rfl⟩
    have eO : O = Um.rd4 o j2 := by rw [hO, hj2]; exact Um.step4 hd q
    have hx : -9223372036854775808 ≤ o.jp ∧ o.jp ≤ 9223372036854775807 := by have := ho.k.jp; omega
    have hJ := ho.k.j o.m ho.wd
    have hJ2 : Um.Jok c j2 := hj2 ▸ Um.jstep_ok hJ
    have hr3 := hJ2.r
    unfold Um.rd4 at eO
    by_cases r1 : j2.r = 1
    · rw [if_pos r1] at eO
      refine (rStep_join (Q := fun w' => ∃ cs2 ls X xc, AnP P L sl ky o.n o.w j2.m e o.ot.tail cs2 ls X xc ∧ Um.Jok c j2 ∧ Sx (P :: B :: C :: [(L, [.slice a o.ot.tail.length c']), (J, jnL o.jp 1 sl o.n o.j)].map (·.1)) w w' [(P, cs2), (B, memL c C j2.m), (C, rowW j2.m.ws c.n), (L, ls), (J, jnL o.jp 1 sl o.n j2), (X, xc)] e) (hK.get 0 rfl) ((rJoin_1 (j := Um.setJ o.m o.j) hK hr hj2 hJ hx hI r1).mono ?_)).mono ?_
      · rintro r w' ⟨cs2, ls, X, xc, e1, e2⟩
        exact ⟨e1, cs2, ls, X, xc, e2⟩
      rintro r w' ⟨rfl, cs2, ls, X, xc, hAn, _, hSn⟩
      obtain ⟨hb2, a1, a2, a3⟩ := an_rd (h := h) (o := { o with m := j2.m, j := j2, ot := o.ot.tail }) hd hAn
      rw [← eO] at a1 a3
      have a4 : O.m = j2.m := a3
      rw [a4]
      exact ⟨rfl, hO', cs2, hb2, [], RdAt.nil a1, rd_back0 hS i j k hi hj hk hij hik hjk (hSn.sublist (.cons_cons _ (.cons_cons _ (.cons_cons _ (a2.trans (.cons_cons _ (.cons _ (.cons_cons _ .slnil))))))))⟩
    rw [if_neg r1] at eO
    by_cases r2 : j2.r = 2
    · rw [if_pos r2] at eO
      refine (rStep_join (Q := fun w' => ∃ OW, Um.Jok c j2 ∧ Sx (P :: B :: C :: [(L, [.slice a o.ot.tail.length c']), (J, jnL o.jp 1 sl o.n o.j)].map (·.1)) w w' [(P, [.int .i64 sl, .int .i64 ky, .int .u64 (o.n : Nat), .int .u64 (o.w : Nat), .func (.func 140) #[] #[.pointer (some ⟨L, 0, none⟩)], .int .i64 o.jp, pg, .pointer (some ⟨J, 0, none⟩), .pointer (some ⟨OW, 0, none⟩), pl, .func (.func 152) #[.pointer (some ⟨P, 0, none⟩)] #[], .int .i64 ft]), (B, memL c C j2.m), (C, rowW j2.m.ws c.n), (L, [.slice a o.ot.tail.length c']), (J, jnL o.jp 1 sl o.n j2), (OW, owL sl 0 o.jp (Um.lnew j2.m))] e) (hK.get 0 rfl) ((rJoin_2 (j := Um.setJ o.m o.j) hK hr hj2 hJ hx r2).mono ?_)).mono ?_
      · rintro r w' ⟨OW, e1, e2⟩
        exact ⟨e1, OW, e2⟩
      rintro r w' ⟨rfl, OW, _, hSn⟩
      subst eO
      exact ⟨rfl, hO', _, _, [], RdAt.nil (.inr (.inr (.inr (.inr (.inr (.inr (.inl ⟨hd, rfl, _, _, _, _, OW, L, a, c', rfl, rfl, hI⟩))))))), rd_back0 hS i j k hi hj hk hij hik hjk (hSn.sublist (.cons_cons _ (.cons_cons _ (.cons_cons _ (.cons_cons _ (.cons _ (.cons_cons _ .slnil)))))))⟩
    rw [if_neg r2] at eO
    by_cases r3 : j2.r = 3
    · rw [if_pos r3] at eO
      refine (rStep_join (Q := fun w' => ∃ V, Um.Jok c j2 ∧ Sx (P :: B :: C :: [(L, [.slice a o.ot.tail.length c']), (J, jnL o.jp 1 sl o.n o.j)].map (·.1)) w w' [(P, [.int .i64 sl, .int .i64 ky, .int .u64 (o.n : Nat), .int .u64 (o.w : Nat), .func (.func 140) #[] #[.pointer (some ⟨L, 0, none⟩)], .int .i64 o.jp, pg, .pointer (some ⟨J, 0, none⟩), po, .pointer (some ⟨V, 0, none⟩), .func (.func 147) #[.pointer (some ⟨P, 0, none⟩)] #[], .int .i64 7]), (B, memL c C j2.m), (C, rowW j2.m.ws c.n), (L, [.slice a o.ot.tail.length c']), (J, jnL o.jp 1 sl o.n j2), (V, leaL V sl 5 (Um.lnew j2.m))] e) (hK.get 0 rfl) ((rJoin_3 (j := Um.setJ o.m o.j) hK hr hj2 hJ hx r3).mono ?_)).mono ?_
      · rintro r w' ⟨V, e1, e2⟩
        exact ⟨e1, V, e2⟩
      rintro r w' ⟨rfl, V, _, hSn⟩
      subst eO
      exact ⟨rfl, hO', _, _, [], RdAt.nil (.inr (.inr (.inr (.inr (.inr (.inr (.inr ⟨hd, rfl, _, _, _, _, _, V, rfl, rfl⟩))))))), rd_back0 hS i j k hi hj hk hij hik hjk (hSn.sublist (.cons_cons _ (.cons_cons _ (.cons_cons _ (.cons _ (.cons _ (.cons_cons _ .slnil)))))))⟩
    · rw [if_neg r3] at eO
      have r0 : j2.r = 0 := by omega
      subst eO
      refine (rStep_join (hK.get 0 rfl) (rJoin_0 (j := Um.setJ o.m o.j) hK hr hj2 hJ hx r0)).mono ?_
      rintro r w' ⟨rfl, _, hSn⟩
      exact ⟨rfl, hO', _, _, [], RdAt.nil (.inr (.inr (.inr (.inr (.inr (.inl ⟨hd, q, _, _, _, _, J, L, a, c', rfl, rfl, hI⟩)))))), rd_back0 hS i j k hi hj hk hij hik hjk hSn⟩
  · obtain ⟨v2, hv2⟩ : ∃ v2, v2 = Um.wstep c sl 0 o.op (Um.setLs o.m o.o) := ⟨_, rfl⟩
    have eO : O = Um.rd5 o v2 := by rw [hO, hv2]; exact Um.step5 hd q
    have hV := ho.k.v o.m ho.wd
    unfold Um.rd5 at eO
    cases hx : v2.dn with
    | true =>
      rw [if_pos hx] at eO
      refine (rStep_own (Q := fun w' => ∃ cs2 ls X xc, AnP P L sl ky o.n o.w v2.m e o.ot.tail cs2 ls X xc ∧ Um.Lok c v2 ∧ Sx (P :: B :: C :: [(L, [.slice a o.ot.tail.length c']), (OW, owL sl 0 o.op o.o)].map (·.1)) w w' [(P, cs2), (B, memL c C v2.m), (C, rowW v2.m.ws c.n), (L, ls), (OW, owL sl 0 o.op v2), (X, xc)] e) (hK.get 0 rfl) ((rOwn_1 (v := Um.setLs o.m o.o) hK hr hv2 hV hsb hI hx).mono ?_)).mono ?_
      · rintro r w' ⟨cs2, ls, X, xc, e1, e2⟩
        exact ⟨e1, cs2, ls, X, xc, e2⟩
      rintro r w' ⟨rfl, cs2, ls, X, xc, hAn, _, hSn⟩
      obtain ⟨hb2, a1, a2, a3⟩ := an_rd (h := h) (o := { o with m := v2.m, o := v2, ot := o.ot.tail }) hd hAn
      rw [← eO] at a1 a3
      have a4 : O.m = v2.m := a3
      rw [a4]
      exact ⟨rfl, hO', cs2, hb2, [], RdAt.nil a1, rd_back0 hS i j k hi hj hk hij hik hjk (hSn.sublist (.cons_cons _ (.cons_cons _ (.cons_cons _ (a2.trans (.cons_cons _ (.cons _ (.cons_cons _ .slnil))))))))⟩
    | false =>
      rw [if_neg (by rw [hx]; decide)] at eO
      subst eO
      refine (rStep_own (hK.get 0 rfl) (rOwn_0 (xs := []) (v := Um.setLs o.m o.o) hK hr hv2 hV hsb hx)).mono ?_
      rintro r w' ⟨rfl, _, hSn⟩
      exact ⟨rfl, hO', _, _, [], RdAt.nil (.inr (.inr (.inr (.inr (.inr (.inr (.inl ⟨hd, q, _, _, _, _, OW, L, a, c', rfl, rfl, hI⟩))))))), rd_back0 hS i j k hi hj hk hij hik hjk hSn⟩
  · obtain ⟨v2, hv2⟩ : ∃ v2, v2 = Um.lstep c sl o.lp (Um.setLs o.m o.l) := ⟨_, rfl⟩
    have eO : O = Um.rd6 o v2 := by rw [hO, hv2]; exact Um.step6 hd q
    have hV := ho.k.l o.m ho.wd
    unfold Um.rd6 at eO
    cases hx : v2.dn with
    | true =>
      rw [if_pos hx] at eO
      subst eO
      refine (rStep_leave (hK.get 0 rfl) (rLeave_1 (v := Um.setLs o.m o.l) hK hr hv2 hV hsb hx)).mono ?_
      rintro r w' ⟨rfl, _, hSn⟩
      exact ⟨rfl, hO', _, [], [], RdAt.nil (.inl ⟨rfl, ⟨_, _, _, _, _, _, _, _, _, _, rfl⟩, rfl⟩), rd_back0 hS i j k hi hj hk hij hik hjk (hSn.sublist (.cons_cons _ (.cons_cons _ (.cons_cons _ (.cons _ .slnil)))))⟩
    | false =>
      rw [if_neg (by rw [hx]; decide)] at eO
      subst eO
      refine (rStep_leave (hK.get 0 rfl) (rLeave_0 (v := Um.setLs o.m o.l) hK hr hv2 hV hsb hx)).mono ?_
      rintro r w' ⟨rfl, _, hSn⟩
      exact ⟨rfl, hO', _, _, [], RdAt.nil (.inr (.inr (.inr (.inr (.inr (.inr (.inr ⟨hd, q, _, _, _, _, _, V, rfl, rfl⟩))))))), rd_back0 hS i j k hi hj hk hij hik hjk hSn⟩
end
end
section
set_option maxRecDepth 100000
open Go.RowKit Go.Sort
set_option linter.unusedVariables false
set_option linter.unusedSimpArgs false
theorem Sx.perm12 {bs : List Nat} {w0 w : World} {l l' e : List (Nat × List Value)} (h : Sx bs w0 w l e) (p : l'.Perm l) : Sx bs w0 w l' e :=
  ⟨h.off, fun q hq => h.low q (p.mem_iff.1 hq), fun q hq => h.blk q (p.mem_iff.1 hq), (p.pairwise_iff (fun hab => Ne.symm hab)).2 h.nd, h.eb, fun q hq r hr => h.ed q hq r (p.mem_iff.1 hr)⟩
section
variable {bs : List Nat} {w0 w : World} {l e hb hx : List (Nat × List Value)} {B C P : Nat} {c : Um.Cf} {h : Nat} {sl ky : Int} {cs : List Value}
theorem rdDone_any {o : Um.Rd} (hA : RdAt P h ky sl e o cs hb) (hB : BlkAt w P cs) : Calls Tryz.prog 14 #[.pointer (some ⟨P, 0, none⟩)] w fun r w' => r = .returned (.bool o.dn) ∧ w' = w := by
  rcases hA with ⟨hd, ⟨v0, v1, v2, v3, v4, v5, v6, v7, v8, v9, rfl⟩, _⟩ | ⟨hd, q, ov, ot, pj, po, pl, ft, G, cl, la, hSt, rfl, _⟩ | ⟨hd, q, ⟨ov, ot, pg, pj, po, pl, ft, rfl⟩, _⟩ | ⟨hd, q, ⟨ov, ot, pg, pj, po, pl, ft, rfl⟩, _⟩ | ⟨hd, q, ⟨ov, ot, pg, pj, po, pl, ft, rfl⟩, _⟩ | ⟨hd, q, pg, po, pl, ft, J, L, a, c', rfl, _, hI⟩ | ⟨hd, q, pg, pj, pl, ft, OW, L, a, c', rfl, _, hI⟩ | ⟨hd, q, ov, ot, pg, pj, po, V, rfl, _⟩ <;> rw [hd]
  · exact rDone_n hB rfl
  all_goals exact rDone_f _ _ _ hB rfl
theorem rdError_any {o : Um.Rd} (hA : RdAt P h ky sl e o cs hb) (h0 : o.dn = false → o.e = 0) (hB : BlkAt w P cs) : Calls Tryz.prog 15 #[.pointer (some ⟨P, 0, none⟩)] w fun r w' => r = .returned (.int .i64 o.e) ∧ w' = w := by
  rcases hA with ⟨hd, ⟨v0, v1, v2, v3, v4, v5, v6, v7, v8, v9, rfl⟩, _⟩ | ⟨hd, q, ov, ot, pj, po, pl, ft, G, cl, la, hSt, rfl, _⟩ | ⟨hd, q, ⟨ov, ot, pg, pj, po, pl, ft, rfl⟩, _⟩ | ⟨hd, q, ⟨ov, ot, pg, pj, po, pl, ft, rfl⟩, _⟩ | ⟨hd, q, ⟨ov, ot, pg, pj, po, pl, ft, rfl⟩, _⟩ | ⟨hd, q, pg, po, pl, ft, J, L, a, c', rfl, _, hI⟩ | ⟨hd, q, pg, pj, pl, ft, OW, L, a, c', rfl, _, hI⟩ | ⟨hd, q, ov, ot, pg, pj, po, V, rfl, _⟩
  · exact rError_n hB rfl rfl
  all_goals
    rw [h0 hd]
    exact rError_f _ _ _ hB rfl
set_option maxHeartbeats 2000000 in
theorem gNew_f (h : Nat) (hh : Um.Word h) {la : Option Addr} {nl cl : Nat} {Z : Nat → Int} (hT : Told w la nl cl Z) :
    Calls Tryz.prog 44 #[.int .u64 (h : Nat), .slice la nl cl] w fun r w' => ∃ P la' cl' sb, r = .returned (.pointer (some ⟨P, 0, none⟩)) ∧ StB la' nl Z sb ∧ (∀ p ∈ sb, w.heap.size ≤ p.1) ∧ Sx [] w w' [(P, [.int .i64 (Um.svN h), .int .u64 ((0 : Nat) : Int), .int .u64 (h : Nat), .slice la' nl cl', .func (.func 85) #[.pointer (some ⟨P, 0, none⟩)] #[], .int .i64 0, .int .u64 ((0 : Nat) : Int)])] sb := by
  have HT := hide hT
  have HH := hide hh
  clear hT hh
  have hS := Sx.new w
  go_enter Tryz.func44, Tryz.ntmps44
  go_wp2_with fail
  refine (kSlot_any h _ (unhide HH)).mono ?_
  rintro r u ⟨rfl, hb⟩
  replace hS := hS.call hb
  clear hb
  go_wp2_with (first | (refine ybox hS (h := ?_); clear hS; intro _ _ hS) | (refine yall hS (h := ?_); clear hS; intro _ _ hS) | refine yld hS (h := ?_) | (refine yst hS (h := ?_); clear hS; intro _ hS))
  have HSZ := hS.bel.size
  refine (gClone_x hS ((unhide HT).below hS.bel)).mono ?_
  rintro r u ⟨la', cl', sb, rfl, hSB, hLO, hSn⟩
  clear hS
  have hS := hSn
  clear hSn
  dsimp only [putL, List.set, List.cons_append, List.nil_append] at hS
  have HSB := hide hSB
  have HLO := hide (fun p hp => Nat.le_trans HSZ (hLO p hp))
  clear hSB hLO HSZ
  go_wp2_with (first | (refine ybox hS (h := ?_); clear hS; intro _ _ hS) | (refine yall hS (h := ?_); clear hS; intro _ _ hS) | refine yld hS (h := ?_) | (refine yst hS (h := ?_); clear hS; intro _ hS))
  go_ret
  obtain ⟨P, rfl⟩ := nameB hS 0 rfl
  exact ⟨P, la', cl', sb, rfl, unhide HSB, unhide HLO, hS⟩
set_option maxHeartbeats 2000000 in
theorem rdNew_k1 (w : World) (c : Um.Cf) (h : Nat) (ky : Int) (hk : ky < 0) :
    Calls Tryz.prog 11 #[(.agg #[.int .i64 (c.t), .int .i64 (c.s), .int .i64 (c.k), .int .i64 (c.g), .int .u64 (c.q : Int)]), .int .u64 (h : Nat), .int .i64 ky] w fun r w' => ∃ P, r = .returned (.pointer (some ⟨P, 0, none⟩)) ∧ Sx [] w w' [(P, [.int .i64 0, .int .i64 0, .int .u64 0, .int .u64 0, .nilFunc, .int .i64 0, .pointer none, .pointer none, .pointer none, .pointer none, .nilFunc, .int .i64 5])] [] := by
  have hS := Sx.new w
  have d1 : decide (ky < 0) = true := decide_eq_true hk
  go_enter Tryz.func11, Tryz.ntmps11
  go_wp2_with (first | (refine ybox hS (h := ?_); clear hS; intro _ _ hS) | (refine yall hS (h := ?_); clear hS; intro _ _ hS) | refine yld hS (h := ?_) | (refine yst hS (h := ?_); clear hS; intro _ hS))
  go_ret
  obtain ⟨P, rfl⟩ := nameB hS 1 rfl
  exact ⟨P, rfl, hS.sublist (.cons _ (.cons_cons _ .slnil))⟩
set_option maxHeartbeats 2000000 in
theorem rdNew_k2 (w : World) (c : Um.Cf) (h : Nat) (ky : Int) (hk : ¬ ky < 0) (hk2 : c.k ≤ ky) :
    Calls Tryz.prog 11 #[(.agg #[.int .i64 (c.t), .int .i64 (c.s), .int .i64 (c.k), .int .i64 (c.g), .int .u64 (c.q : Int)]), .int .u64 (h : Nat), .int .i64 ky] w fun r w' => ∃ P, r = .returned (.pointer (some ⟨P, 0, none⟩)) ∧ Sx [] w w' [(P, [.int .i64 0, .int .i64 0, .int .u64 0, .int .u64 0, .nilFunc, .int .i64 0, .pointer none, .pointer none, .pointer none, .pointer none, .nilFunc, .int .i64 5])] [] := by
  have hS := Sx.new w
  have d1 : decide (ky < 0) = false := decide_eq_false hk
  have d2 : decide (c.k ≤ ky) = true := decide_eq_true hk2
  go_enter Tryz.func11, Tryz.ntmps11
  go_wp2_with (first | (refine ybox hS (h := ?_); clear hS; intro _ _ hS) | (refine yall hS (h := ?_); clear hS; intro _ _ hS) | refine yld hS (h := ?_) | (refine yst hS (h := ?_); clear hS; intro _ hS))
  go_ret
  obtain ⟨P, rfl⟩ := nameB hS 1 rfl
  exact ⟨P, rfl, hS.sublist (.cons _ (.cons_cons _ .slnil))⟩
set_option maxHeartbeats 2000000 in
theorem rdNew_no (w : World) (c : Um.Cf) (h : Nat) (ky : Int) (hk : ¬ ky < 0) (hk2 : ¬ c.k ≤ ky) (hn : Um.ook h c.s = false) (hh : Um.Word h) :
    Calls Tryz.prog 11 #[(.agg #[.int .i64 (c.t), .int .i64 (c.s), .int .i64 (c.k), .int .i64 (c.g), .int .u64 (c.q : Int)]), .int .u64 (h : Nat), .int .i64 ky] w fun r w' => ∃ P, r = .returned (.pointer (some ⟨P, 0, none⟩)) ∧ Sx [] w w' [(P, [.int .i64 0, .int .i64 0, .int .u64 0, .int .u64 0, .nilFunc, .int .i64 0, .pointer none, .pointer none, .pointer none, .pointer none, .nilFunc, .int .i64 2])] [] := by
  have hS := Sx.new w
  have d1 : decide (ky < 0) = false := decide_eq_false hk
  have d2 : decide (c.k ≤ ky) = false := decide_eq_false hk2
  have HK := hide (fun u => kOf_any h c.s u hh)
  rw [hn] at HK
  clear hn hh
  go_enter Tryz.func11, Tryz.ntmps11
  go_wp2_with (first | (refine ybox hS (h := ?_); clear hS; intro _ _ hS) | (refine yall hS (h := ?_); clear hS; intro _ _ hS) | refine yld hS (h := ?_) | (refine yst hS (h := ?_); clear hS; intro _ hS))
  refine ((unhide HK) _).mono ?_
  rintro r u ⟨rfl, hb⟩
  replace hS := hS.call hb
  clear hb
  go_wp2_with (first | (refine ybox hS (h := ?_); clear hS; intro _ _ hS) | (refine yall hS (h := ?_); clear hS; intro _ _ hS) | refine yld hS (h := ?_) | (refine yst hS (h := ?_); clear hS; intro _ hS))
  go_ret
  obtain ⟨P, rfl⟩ := nameB hS 1 rfl
  exact ⟨P, rfl, hS.sublist (.cons _ (.cons_cons _ .slnil))⟩
set_option maxHeartbeats 4000000 in
theorem rdNew_yes (w : World) (c : Um.Cf) (h : Nat) (ky : Int) (hk : ¬ ky < 0) (hk2 : ¬ c.k ≤ ky) (hn : Um.ook h c.s = true) (hh : Um.Word h) :
    Calls Tryz.prog 11 #[(.agg #[.int .i64 (c.t), .int .i64 (c.s), .int .i64 (c.k), .int .i64 (c.g), .int .u64 (c.q : Int)]), .int .u64 (h : Nat), .int .i64 ky] w fun r w' => ∃ P G la cl sb, r = .returned (.pointer (some ⟨P, 0, none⟩)) ∧ StB la 1 st12 sb ∧ (∀ p ∈ sb, w.heap.size ≤ p.1) ∧ Sx [] w w' [(G, [.int .i64 (Um.svN h), .int .u64 ((0 : Nat) : Int), .int .u64 (h : Nat), .slice la 1 cl, .func (.func 85) #[.pointer (some ⟨G, 0, none⟩)] #[], .int .i64 0, .int .u64 ((0 : Nat) : Int)]), (P, [.int .i64 (Um.svN h), .int .i64 ky, .int .u64 0, .int .u64 0, .nilFunc, .int .i64 0, .pointer (some ⟨G, 0, none⟩), .pointer none, .pointer none, .pointer none, .func (.func 45) #[.pointer (some ⟨P, 0, none⟩)] #[], .int .i64 0])] sb := by
  have hS := Sx.new w
  have d1 : decide (ky < 0) = false := decide_eq_false hk
  have d2 : decide (c.k ≤ ky) = false := decide_eq_false hk2
  have HK := hide (fun u => kOf_any h c.s u hh)
  rw [hn, Um.os_yes hn, ← (Um.ook_facts hn).2.2] at HK
  have HH := hide hh
  clear hn hh
  go_enter Tryz.func11, Tryz.ntmps11
  go_wp2_with (first | (refine ybox hS (h := ?_); clear hS; intro _ _ hS) | (refine yall hS (h := ?_); clear hS; intro _ _ hS) | refine yld hS (h := ?_) | (refine yst hS (h := ?_); clear hS; intro _ hS))
  refine ((unhide HK) _).mono ?_
  rintro r u ⟨rfl, hb⟩
  replace hS := hS.call hb
  clear hb
  go_wp2_with (first | (first | (refine ybox hS (h := ?_); clear hS; intro _ _ hS) | (refine yall hS (h := ?_); clear hS; intro _ _ hS) | refine yld hS (h := ?_) | (refine yst hS (h := ?_); clear hS; intro _ hS)) | (refine wpx_build1 hS rfl _ rfl _ rfl _ (by intro _; simp only [Act.put, List.setIfInBounds_toArray, List.set_cons_zero, List.set_cons_succ]; first | done | exact rfl) ?_; clear hS; intro _ _ hS; dsimp only [List.cons_append, List.nil_append] at hS))
  refine (gNew_f h (unhide HH) (told1 (hS.get 1 rfl))).mono ?_
  rintro r u ⟨G, la, cl, sb, rfl, hSB, hLO, hS2⟩
  have hsz := hS.size
  have hSn := hS.plus hS2.bel hS2 hLO
  have HSB := hide hSB
  have HLO := hide (fun p (hp : p ∈ sb) => Nat.le_trans hsz (hLO p hp))
  clear hS hS2 hSB hLO hsz
  have hS := hSn
  clear hSn
  dsimp only [List.cons_append, List.nil_append] at hS
  go_wp2_with (first | (refine ybox hS (h := ?_); clear hS; intro _ _ hS) | (refine yall hS (h := ?_); clear hS; intro _ _ hS) | refine yld hS (h := ?_) | (refine yst hS (h := ?_); clear hS; intro _ hS))
  go_ret
  obtain ⟨P, rfl⟩ := nameB hS 3 rfl
  exact ⟨P, G, la, cl, sb, rfl, unhide HSB, unhide HLO, hS.sublist (.cons _ (.cons _ (.cons_cons _ (.cons_cons _ .slnil))))⟩
theorem rdNew_p (hS : Sx bs w0 w l e) (c : Um.Cf) (h : Nat) (ky : Int) (hh : Um.Word h) (m : Um.Mm) :
    Calls Tryz.prog 11 #[(.agg #[.int .i64 (c.t), .int .i64 (c.s), .int .i64 (c.k), .int .i64 (c.g), .int .u64 (c.q : Int)]), .int .u64 (h : Nat), .int .i64 ky] w fun r w' => ∃ P cs hb sb, r = .returned (.pointer (some ⟨P, 0, none⟩)) ∧ RdAt P h ky (Um.svN h) sb (Um.rdbeg c h ky m) cs hb ∧ Sx bs w0 w' (l ++ ((P, cs) :: hb)) (e ++ sb) := by
  by_cases hk : ky < 0
  · refine (rdNew_k1 w c h ky hk).mono ?_
    rintro r w' ⟨P, rfl, hS2⟩
    refine ⟨P, _, [], [], rfl, ?_, hS.plus hS2.bel hS2 (fun p hp => by cases hp)⟩
    rw [Um.rdbeg_key (.inl hk)]
    exact .inl ⟨rfl, ⟨_, _, _, _, _, _, _, _, _, _, rfl⟩, rfl⟩
  by_cases hk2 : c.k ≤ ky
  · refine (rdNew_k2 w c h ky hk hk2).mono ?_
    rintro r w' ⟨P, rfl, hS2⟩
    refine ⟨P, _, [], [], rfl, ?_, hS.plus hS2.bel hS2 (fun p hp => by cases hp)⟩
    rw [Um.rdbeg_key (.inr hk2)]
    exact .inl ⟨rfl, ⟨_, _, _, _, _, _, _, _, _, _, rfl⟩, rfl⟩
  have hk3 : ¬ (ky < 0 ∨ c.k ≤ ky) := fun q => q.elim hk hk2
  cases hn : Um.ook h c.s with
  | false =>
    refine (rdNew_no w c h ky hk hk2 hn hh).mono ?_
    rintro r w' ⟨P, rfl, hS2⟩
    refine ⟨P, _, [], [], rfl, ?_, hS.plus hS2.bel hS2 (fun p hp => by cases hp)⟩
    rw [Um.rdbeg_no hk3 hn]
    exact .inl ⟨rfl, ⟨_, _, _, _, _, _, _, _, _, _, rfl⟩, rfl⟩
  | true =>
    refine (rdNew_yes w c h ky hk hk2 hn hh).mono ?_
    rintro r w' ⟨P, G, la, cl, sb, rfl, hSB, hLO, hS2⟩
    have hS3 := hS2.perm12 (.swap _ _ [])
    refine ⟨P, _, [(G, entL G h la 1 cl (Um.enew m))], sb, rfl, ?_, hS.plus hS3.bel hS3 hLO⟩
    rw [Um.rdbeg_yes hk3 hn]
    exact .inr (.inl ⟨rfl, rfl, _, _, _, _, _, _, G, cl, la, hSB, rfl, rfl⟩)
theorem rdbeg_ook {c : Um.Cf} {h : Nat} {ky : Int} {m : Um.Mm} (q : (Um.rdbeg c h ky m).dn = false) : Um.ook h c.s = true := by
  unfold Um.rdbeg at q
  split at q
  · cases q
  · split at q
    · assumption
    · cases q
theorem RdAt.ended {o : Um.Rd} (hA : RdAt P h ky sl e o cs hb) (hd : o.dn = true) : hb = [] := by
  rcases hA with ⟨_, _, q⟩ | ⟨q, _⟩ | ⟨q, _⟩ | ⟨q, _⟩ | ⟨q, _⟩ | ⟨q, _⟩ | ⟨q, _⟩ | ⟨q, _⟩
  · exact q
  all_goals
    rw [hd] at q
    cases q
theorem RdAt.done2 {o : Um.Rd} (hA : RdAt P h ky sl e o cs hb) (hd : o.dn = true) : cs[10]? = some .nilFunc ∧ cs[11]? = some (.int .i64 o.e) := by
  rcases hA with ⟨_, ⟨v0, v1, v2, v3, v4, v5, v6, v7, v8, v9, rfl⟩, _⟩ | ⟨q, _⟩ | ⟨q, _⟩ | ⟨q, _⟩ | ⟨q, _⟩ | ⟨q, _⟩ | ⟨q, _⟩ | ⟨q, _⟩
  · exact ⟨rfl, rfl⟩
  all_goals
    rw [hd] at q
    cases q
theorem Sx.two12 {x y z a b d : List (Nat × List Value)} (h : Sx bs w0 w (((l ++ x) ++ y) ++ z) (((e ++ a) ++ b) ++ d)) : Sx bs w0 w (((l ++ y) ++ x) ++ z) (((e ++ b) ++ a) ++ d) := by
  have p : (((l ++ y) ++ x) ++ z).Perm (((l ++ x) ++ y) ++ z) := by
    refine List.Perm.append_right z ?_
    rw [List.append_assoc, List.append_assoc]
    exact List.Perm.append_left l List.perm_append_comm
  have h2 := h.perm12 p
  refine h2.sub (fun q hq => hq) h2.nd (fun q hq => ?_)
  simp only [List.mem_append] at hq ⊢
  rcases hq with ((q1 | q1) | q1) | q1 <;> simp [q1]
theorem Sx.two12l {x y a b : List (Nat × List Value)} (h : Sx bs w0 w ((l ++ x) ++ y) ((e ++ a) ++ b)) : Sx bs w0 w ((l ++ y) ++ x) ((e ++ b) ++ a) := by
  have h2 := Sx.two12 (l := l) (e := e) (x := x) (y := y) (z := []) (a := a) (b := b) (d := []) (by rw [List.append_nil, List.append_nil]; exact h)
  rwa [List.append_nil, List.append_nil] at h2
theorem put3_app {i j k : Nat} {a b d a' b' d' : Nat × List Value} (hi : l[i]? = some a) (hj : l[j]? = some b) (hk : l[k]? = some d) : putL (l ++ hx) [(i, a'), (j, b'), (k, d')] = putL l [(i, a'), (j, b'), (k, d')] ++ hx := by
  have li := put_get_lt hi
  have lj := put_get_lt hj
  have lk := put_get_lt hk
  show (((l ++ hx).set i a').set j b').set k d' = ((l.set i a').set j b').set k d' ++ hx
  rw [List.set_append_left _ _ li, List.set_append_left _ _ (by rw [List.length_set]; exact lj), List.set_append_left _ _ (by rw [List.length_set, List.length_set]; exact lk)]
theorem rdStep_h (hS : Sx bs w0 w (l ++ (hx ++ hb)) e) (i j k : Nat) (o O : Um.Rd) (hO : O = Um.rdstep c h inn12 ky sl o) (hA : RdAt P h ky sl e o cs hb) (hi : l[i]? = some (B, memL c C o.m)) (hj : l[j]? = some (C, rowW o.m.ws c.n)) (hk : l[k]? = some (P, cs)) (hij : i ≠ j) (hik : i ≠ k) (hjk : j ≠ k) (hr : c.r = true) (hh : Um.Word h) (ho : Um.Rok c o) (hn : o.dn = false → Um.ook h c.s = true) (hsb : -9223372036854775808 ≤ sl ∧ sl ≤ 9223372036854775807) (hkb : -9223372036854775808 ≤ ky ∧ ky ≤ 9223372036854775807) :
    Calls Tryz.prog 17 #[.pointer (some ⟨P, 0, none⟩), .pointer (some ⟨B, 0, none⟩)] w fun r w' => r = .returned (.tuple #[]) ∧ Um.Rok c O ∧ ∃ cs' hb' sb, RdAt P h ky sl (e ++ sb) O cs' hb' ∧ Sx bs w0 w' (putL l [(i, B, memL c C O.m), (j, C, rowW O.m.ws c.n), (k, P, cs')] ++ (hx ++ hb')) (e ++ sb) := by
  rw [← List.append_assoc] at hS
  refine (rdStep_any (l := l ++ hx) hS i j k o O hO hA (List.getElem?_append_left (put_get_lt hi) ▸ hi) (List.getElem?_append_left (put_get_lt hj) ▸ hj) (List.getElem?_append_left (put_get_lt hk) ▸ hk) hij hik hjk hr hh ho hn hsb hkb).mono ?_
  rintro r w' ⟨e1, e2, cs', hb', sb, e3, e4⟩
  rw [put3_app hi hj hk, List.append_assoc] at e4
  exact ⟨e1, e2, cs', hb', sb, e3, e4⟩
set_option maxHeartbeats 4000000 in
theorem rdEnds_x (hS : Sx bs w0 w (l ++ (hx ++ hb)) e) (i j k : Nat) (o : Um.Rd) (hA : RdAt P h ky sl e o cs hb) (hi : l[i]? = some (B, memL c C o.m)) (hj : l[j]? = some (C, rowW o.m.ws c.n)) (hk : l[k]? = some (P, cs)) (hij : i ≠ j) (hik : i ≠ k) (hjk : j ≠ k) (hr : c.r = true) (hh : Um.Word h) (ho : Um.Rok c o) (hn : o.dn = false → Um.ook h c.s = true) (hsb : -9223372036854775808 ≤ sl ∧ sl ≤ 9223372036854775807) (hkb : -9223372036854775808 ≤ ky ∧ ky ≤ 9223372036854775807) (most : Nat) (hm : most ≤ 1000) (H : Um.Rd) (hH : H = Um.rdit c h inn12 ky sl o most) :
    Calls Tryz.prog 20 #[.pointer (some ⟨P, 0, none⟩), .pointer (some ⟨B, 0, none⟩), .int .i64 (most : Nat)] w fun r w' => ∃ N : Nat, r = .returned (.int .i64 (N : Nat)) ∧ N ≤ most ∧ (N < most → (Um.rdit c h inn12 ky sl o N).dn = true) ∧ (∀ q, q < N → (Um.rdit c h inn12 ky sl o q).dn = false) ∧ Um.Rok c H ∧ ∃ cs' hb' sb, RdAt P h ky sl (e ++ sb) H cs' hb' ∧ Sx bs w0 w' (putL l [(i, B, memL c C H.m), (j, C, rowW H.m.ws c.n), (k, P, cs')] ++ (hx ++ hb')) (e ++ sb) := by
  have HR := hide hr
  have HO := hide (show ∀ k, Um.Rok c (Um.rdit c h inn12 ky sl o k) from fun k => Um.rok_it ho k)
  have HH := hide hH
  have HHH := hide hh
  have HBD := hide (And.intro hsb hkb)
  have HN := hide (show ∀ k, (Um.rdit c h inn12 ky sl o k).dn = false → Um.ook h c.s = true from fun k hk => hn (by
    cases hq : o.dn with
    | false => rfl
    | true => rw [Um.rdit_done (q := 0) hq (Nat.zero_le k)] at hk; rw [← hk]; exact hq.symm))
  have HL := hide (And.intro (put_get_lt hi) (And.intro (put_get_lt hj) (put_get_lt hk)))
  have HD3 := hide (And.intro hij (And.intro hik hjk))
  have H0 := hide (show ∃ cs' hb' sb, RdAt P h ky sl (e ++ sb) (Um.rdit c h inn12 ky sl o 0) cs' hb' ∧ Sx bs w0 w (putL l [(i, B, memL c C (Um.rdit c h inn12 ky sl o 0).m), (j, C, rowW (Um.rdit c h inn12 ky sl o 0).m.ws c.n), (k, P, cs')] ++ (hx ++ hb')) (e ++ sb) from ⟨cs, hb, [], hA.nil, by
    rw [List.append_nil, show putL l [(i, B, memL c C (Um.rdit c h inn12 ky sl o 0).m), (j, C, rowW (Um.rdit c h inn12 ky sl o 0).m.ws c.n), (k, P, cs)] = l from put_same3 hi hj hk]
    exact hS⟩)
  clear hS hA hi hj hk hr ho hH hh hsb hkb hn hij hik hjk
  go_enter Tryz.func20, Tryz.ntmps20
  go_wp2_with fail
  go_loopw [9] (fun iv wr => ∃ q : Nat, q ≤ most ∧ iv = .int .i64 q ∧ Hid (∀ k, k < q → (Um.rdit c h inn12 ky sl o k).dn = false) ∧ Hid (∃ cs' hb' sb, RdAt P h ky sl (e ++ sb) (Um.rdit c h inn12 ky sl o q) cs' hb' ∧ Sx bs w0 wr (putL l [(i, B, memL c C (Um.rdit c h inn12 ky sl o q).m), (j, C, rowW (Um.rdit c h inn12 ky sl o q).m.ws c.n), (k, P, cs')] ++ (hx ++ hb')) (e ++ sb))) (fun iv _ => most - (intOf iv).toNat)
  case atStart => exact ⟨0, Nat.zero_le _, rfl, hide (fun _ h => absurd h (Nat.not_lt_zero _)), H0⟩
  case round =>
    clear H0
    rename_i wr
    obtain ⟨q, hq, rfl, HQ, HS3⟩ := hrel
    obtain ⟨cs1, hb1, sb1, hA1, hS1⟩ := unhide HS3
    have hg := put3_get (l := l) (a := (B, memL c C (Um.rdit c h inn12 ky sl o q).m)) (b := (C, rowW (Um.rdit c h inn12 ky sl o q).m.ws c.n)) (d := (P, cs1)) (unhide HL).1 (unhide HL).2.1 (unhide HL).2.2 (unhide HD3).1 (unhide HD3).2.1 (unhide HD3).2.2
    by_cases hlt : q < most
    · have hlti : (q : Int) < (most : Int) := by omega
      have HD := hide (rdDone_any hA1 (hS1.get k (List.getElem?_append_left (put_get_lt hg.2.2) ▸ hg.2.2)))
      cases hd : (Um.rdit c h inn12 ky sl o q).dn with
      | true =>
        have HE := hide (show Um.rdit c h inn12 ky sl o q = H by rw [unhide HH]; exact (Um.rdit_done hd (by omega)).symm)
        rw [hd] at HD
        have Hd := hide hd
        clear hS1 hA1 hg hd
        go_wp2_with fail
        refine (unhide HD).mono ?_
        rintro r u ⟨rfl, rfl⟩
        clear HD
        go_wp2
        go_ret
        refine ⟨q, rfl, hq, fun _ => unhide Hd, unhide HQ, ?_⟩
        have hS5 := unhide HS3
        have hO5 := (unhide HO) q
        rw [unhide HE] at hS5 hO5
        exact ⟨hO5, hS5⟩
      | false =>
        rw [hd] at HD
        have Hd := hide hd
        have HA1 := hide hA1
        have HS1 := hide hS1
        have HG := hide hg
        clear hS1 hA1 hg hd HS3
        go_wp2_with fail
        refine (unhide HD).mono ?_
        rintro r u ⟨rfl, rfl⟩
        clear HD
        go_wp2_with fail
        refine (rdStep_h (unhide HS1) i j k _ (Um.rdit c h inn12 ky sl o (q + 1)) rfl (unhide HA1) (unhide HG).1 (unhide HG).2.1 (unhide HG).2.2 (unhide HD3).1 (unhide HD3).2.1 (unhide HD3).2.2 (unhide HR) (unhide HHH) ((unhide HO) q) ((unhide HN) q) (unhide HBD).1 (unhide HBD).2).mono ?_
        rintro r u ⟨rfl, _, cs2, hb2, sb2, hA2, hS2⟩
        rw [put3_twice (unhide HD3).1 (unhide HD3).2.1 (unhide HD3).2.2, List.append_assoc] at hS2
        rw [List.append_assoc] at hA2
        have HS6 := hide (show ∃ cs' hb' sb, RdAt P h ky sl (e ++ sb) (Um.rdit c h inn12 ky sl o (q + 1)) cs' hb' ∧ Sx bs w0 u (putL l [(i, B, memL c C (Um.rdit c h inn12 ky sl o (q + 1)).m), (j, C, rowW (Um.rdit c h inn12 ky sl o (q + 1)).m.ws c.n), (k, P, cs')] ++ (hx ++ hb')) (e ++ sb) from ⟨cs2, hb2, sb1 ++ sb2, hA2, hS2⟩)
        clear hS2 hA2 HS1 HA1 HG
        go_wp2
        refine ⟨⟨q + 1, by omega, by go_num, hide (fun k hk => ?_), HS6⟩, by simp [intOf]; omega⟩
        by_cases e : k = q
        · subst e; exact unhide Hd
        · exact (unhide HQ) k (by omega)
    · have hge : ¬ (q : Int) < (most : Int) := by omega
      obtain rfl : q = most := by omega
      clear hS1 hA1 hg
      go_wp2
      go_ret
      have hS5 := unhide HS3
      have hO5 := (unhide HO) q
      rw [← unhide HH] at hS5 hO5
      exact ⟨q, rfl, Nat.le_refl _, fun h => absurd h (Nat.lt_irrefl _), unhide HQ, hO5, hS5⟩
end
set_option maxHeartbeats 1000000 in
theorem of12_any (a b : Int) (w : World) : Calls Tryz.prog 25 #[.int .i64 a, .int .i64 b] w fun r w' => r = .returned (.agg #[.int .i64 a, .int .i64 b]) ∧ Below w.heap.size w w' := by
  go_enter Tryz.func25, Tryz.ntmps25
  go_wp2
  exact bodyPost_ret (v := (.agg #[.int .i64 a, .int .i64 b])) (by simp [results, Tryz.results25, go_sem]) rfl ⟨rfl, (Below.refl _ _).alloc (Nat.le_refl _) _⟩
end
section
set_option maxRecDepth 100000
open Go.RowKit Go.Sort
set_option linter.unusedVariables false
set_option linter.unusedSimpArgs false
theorem perm3r {x y : Nat × List Value} {h : List (Nat × List Value)} : (x :: y :: h).Perm ((h ++ [x]) ++ [y]) := by
  rw [List.append_assoc]
  exact List.perm_append_comm (l₁ := [x, y]) (l₂ := h)
def rc0 : Um.Cf := ⟨1, 2, 1, 0, 0⟩
def rm1 : Um.Mm := Um.mtouch rc0 ⟨fun _ => 0, 0, Um.noT⟩ 2 4 0 0 268435456
def rm2 : Um.Mm := Um.mtouch rc0 rm1 2 4 1 0 268435456
def rm3 : Um.Mm := Um.mtouch rc0 rm2 2 8 0 0 8192
def ra12 : Um.Rd := Um.rdit rc0 1 inn12 0 0 (Um.rdbeg rc0 1 0 rm3) 50
def rm4 : Um.Mm := Um.mtouch rc0 ra12.m 1 4 0 0 0
def rm5 : Um.Mm := Um.mtouch rc0 rm4 1 4 1 0 0
def rm6 : Um.Mm := Um.mtouch rc0 rm5 1 8 0 0 0
theorem rc0_r : rc0.r = true := by decide +kernel
theorem ra_n {n : Nat} (h0 : n ≤ 50) (h1 : n < 50 → (Um.rdit rc0 1 inn12 0 0 (Um.rdbeg rc0 1 0 rm3) n).dn = true) (h2 : ∀ q, q < n → (Um.rdit rc0 1 inn12 0 0 (Um.rdbeg rc0 1 0 rm3) q).dn = false) : n = 11 := by
  have hN : (Um.rdit rc0 1 inn12 0 0 (Um.rdbeg rc0 1 0 rm3) 11).dn = true := by decide +kernel
  have hf : (Um.rdit rc0 1 inn12 0 0 (Um.rdbeg rc0 1 0 rm3) 10).dn = false := by decide +kernel
  rcases Nat.lt_trichotomy n 11 with h | h | h
  · have h3 := h1 (by omega)
    have h4 := Um.rdit_done h3 (show n ≤ 10 by omega)
    rw [h4, h3] at hf
    cases hf
  · exact h
  · have h3 := h2 11 h
    rw [hN] at h3
    cases h3
theorem nw12_2 (w : World) : Calls Tryz.prog 34 #[.int .i64 2, .int .i64 0] w fun r w' => r = .returned (.int .u64 ((268435456 : Nat) : Int)) ∧ Below w.heap.size w w' := by
  have h := rNew01_any 2 w
  rwa [show Um.packV 0 2 false false false 0 0 = 268435456 by decide +kernel] at h
theorem wi12_a (w : World) : Calls Tryz.prog 38 #[.int .u64 ((268435456 : Nat) : Int), .int .i64 0, .int .i64 1] w fun r w' => r = .returned (.int .u64 ((268435458 : Nat) : Int)) ∧ Below w.heap.size w w' := by
  have h := same_below (refWith_any 268435456 0 1 w (by unfold Um.Word; omega))
  rwa [show Um.withN 268435456 0 1 = 268435458 by decide +kernel] at h
theorem wi12_b (w : World) : Calls Tryz.prog 38 #[.int .u64 ((268435456 : Nat) : Int), .int .i64 1, .int .i64 0] w fun r w' => r = .returned (.int .u64 ((268439552 : Nat) : Int)) ∧ Below w.heap.size w w' := by
  have h := same_below (refWith_any 268435456 1 0 w (by unfold Um.Word; omega))
  rwa [show Um.withN 268435456 1 0 = 268439552 by decide +kernel] at h
set_option maxHeartbeats 8000000 in
theorem rAlive_any (w : World) : Calls Tryz.prog 12 #[] w fun e w' => e = .returned (.bool true) ∧ Below w.heap.size w w' := by
  have hS := Sx.new w
  go_enter Tryz.func12, Tryz.ntmps12
  go_wp2_with (first | (refine ybox hS (h := ?_); clear hS; intro _ _ hS) | (refine yall hS (h := ?_); clear hS; intro _ _ hS) | refine yld hS (h := ?_) | (refine yst hS (h := ?_); clear hS; intro _ hS))
  refine (new_x hS rc0 rc0_r).mono ?_
  rintro r u ⟨B, C, rfl, hWn, hSn⟩
  clear hS
  have hS := hSn
  clear hSn
  dsimp only [putL, List.set, List.cons_append, List.nil_append] at hS
  have HW0 := hide hWn
  clear hWn
  go_wp2_with fail
  refine (of12_any 4 0 _).mono ?_
  rintro r u ⟨rfl, hb⟩
  replace hS := hS.call hb
  clear hb
  go_wp2_with fail
  refine (nw12_2 _).mono ?_
  rintro r u ⟨rfl, hb⟩
  replace hS := hS.call hb
  clear hb
  go_wp2_with fail
  refine (mStore_x hS 1 2 rfl rfl (by decide) rc0_r (unhide HW0) 4 0 268435456 (by unfold Um.Word; omega) (by decide) (by decide) rm1 rfl).mono ?_
  rintro r u ⟨rfl, hWn, hSn⟩
  clear hS
  have hS := hSn
  clear hSn
  dsimp only [putL, List.set, List.cons_append, List.nil_append] at hS
  have HW1 := hide hWn
  clear hWn
  go_wp2_with fail
  refine (of12_any 4 1 _).mono ?_
  rintro r u ⟨rfl, hb⟩
  replace hS := hS.call hb
  clear hb
  go_wp2_with fail
  refine (nw12_2 _).mono ?_
  rintro r u ⟨rfl, hb⟩
  replace hS := hS.call hb
  clear hb
  go_wp2_with fail
  refine (mStore_x hS 1 2 rfl rfl (by decide) rc0_r (unhide HW1) 4 1 268435456 (by unfold Um.Word; omega) (by decide) (by decide) rm2 rfl).mono ?_
  rintro r u ⟨rfl, hWn, hSn⟩
  clear hS
  have hS := hSn
  clear hSn
  dsimp only [putL, List.set, List.cons_append, List.nil_append] at hS
  have HW2 := hide hWn
  clear hWn
  go_wp2_with fail
  refine (of12_any 8 0 _).mono ?_
  rintro r u ⟨rfl, hb⟩
  replace hS := hS.call hb
  clear hb
  go_wp2_with fail
  refine (mStore_x hS 1 2 rfl rfl (by decide) rc0_r (unhide HW2) 8 0 8192 (by unfold Um.Word; omega) (by decide) (by decide) rm3 rfl).mono ?_
  rintro r u ⟨rfl, hWn, hSn⟩
  clear hS
  have hS := hSn
  clear hSn
  dsimp only [putL, List.set, List.cons_append, List.nil_append] at hS
  have HW3 := hide hWn
  clear hWn
  obtain ⟨CF, rfl⟩ := nameB hS 0 rfl
  go_upto_region 8 with fail
  go_cut [1, 2, 4, 5, 6] (fun s1 s2 s4 s5 s6 wx => s1 = .pointer (some ⟨CF, 0, none⟩) ∧ s2 = .pointer (some ⟨B, 0, none⟩) ∧ ∃ Pa Pb Pd csa csb csd hba hbb hbd sa sb sd, s4 = .pointer (some ⟨Pa, 0, none⟩) ∧ s5 = .pointer (some ⟨Pb, 0, none⟩) ∧ s6 = .pointer (some ⟨Pd, 0, none⟩) ∧ RdAt Pa 1 0 (Um.svN 1) sa (Um.rdbeg rc0 1 0 rm3) csa hba ∧ RdAt Pb 1 1 (Um.svN 1) sb (Um.rdbeg rc0 1 1 rm3) csb hbb ∧ RdAt Pd 3 0 (Um.svN 3) sd (Um.rdbeg rc0 3 0 rm3) csd hbd ∧ Sx [] w wx (((([(CF, [.int .i64 1, .int .i64 2, .int .i64 1, .int .i64 0, .int .u64 0]), (B, memL rc0 C rm3), (C, rowW rm3.ws rc0.n)]) ++ ((Pa, csa) :: hba)) ++ ((Pb, csb) :: hbb)) ++ ((Pd, csd) :: hbd)) ((([] ++ sa) ++ sb) ++ sd))
  case first =>
    have k0 := fun w' (hq : BlkAt w' CF [.int .i64 1, .int .i64 2, .int .i64 1, .int .i64 0, .int .u64 0]) => hq.cell 0 _ rfl
    have k1 := fun w' (hq : BlkAt w' CF [.int .i64 1, .int .i64 2, .int .i64 1, .int .i64 0, .int .u64 0]) => hq.cell 1 _ rfl
    have k2 := fun w' (hq : BlkAt w' CF [.int .i64 1, .int .i64 2, .int .i64 1, .int .i64 0, .int .u64 0]) => hq.cell 2 _ rfl
    have k3 := fun w' (hq : BlkAt w' CF [.int .i64 1, .int .i64 2, .int .i64 1, .int .i64 0, .int .u64 0]) => hq.cell 3 _ rfl
    have k4 := fun w' (hq : BlkAt w' CF [.int .i64 1, .int .i64 2, .int .i64 1, .int .i64 0, .int .u64 0]) => hq.cell 4 _ rfl
    have HP := hide (hS.get 0 rfl)
    have HS3 := hide hS
    clear hS
    go_region_held3 (fun w' => BlkAt w' CF [.int .i64 1, .int .i64 2, .int .i64 1, .int .i64 0, .int .u64 0]) (first | exact (unhide HP).drew | exact BlkAt.below (by assumption) (by assumption) | assumption) (first | (go_at_call 11; refine (rdNew_p (by first | exact hSa | exact (unhide HS3).drew) rc0 _ _ (by unfold Um.Word; decide) rm3).mono ?_; rintro e u5 ⟨Pn, csn, hbn, sbn, rfl, hAn, hSa⟩; have hPn := hSa.get 0 rfl))
    all_goals
      go_wp2_with fail
      go_meet
      refine ⟨rfl, rfl, _, _, _, _, _, _, _, _, _, _, _, _, rfl, rfl, rfl, by assumption, by assumption, by assumption, ?_⟩
      first | exact hSa | exact hSa.two12l | exact Sx.two12 hSa | exact (Sx.two12 hSa.two12l) | exact (Sx.two12 hSa).two12l | exact (Sx.two12 (Sx.two12 hSa).two12l)
  case rest =>
  clear hS
  obtain ⟨rfl, rfl, Pa, Pb, Pd, csa, csb, csd, hba, hbb, hbd, sa, sb, sd, rfl, rfl, rfl, hAa, hAb, hAd, hS⟩ := hcut
  have hb0 := hAb.ended (by decide +kernel)
  have hd0 := hAd.ended (by decide +kernel)
  subst hb0 hd0
  have zb := hAb.done2 (by decide +kernel)
  have zd := hAd.done2 (by decide +kernel)
  rw [show (Um.rdbeg rc0 1 1 rm3).e = 5 by decide +kernel] at zb
  rw [show (Um.rdbeg rc0 3 0 rm3).e = 2 by decide +kernel] at zd
  have HZB := hide zb
  have HZD := hide zd
  have hAa2 := hAa.mono (e' := (([] ++ sa) ++ sb) ++ sd) (fun p hp => by simp [hp])
  have HA := hide hAa2
  clear zb zd hAa hAb hAd hAa2
  have hS2 := hS.perm12 (l' := [(CF, [.int .i64 1, .int .i64 2, .int .i64 1, .int .i64 0, .int .u64 0]), (B, memL rc0 C rm3), (C, rowW rm3.ws rc0.n), (Pa, csa), (Pb, csb), (Pd, csd)] ++ ([] ++ hba)) (.cons _ (.cons _ (.cons _ (.cons _ perm3r))))
  clear hS
  have hS := hS2
  clear hS2
  go_wp2_with fail
  refine (rdEnds_x (c := rc0) (h := 1) (sl := 0) (ky := 0) hS 1 2 3 (Um.rdbeg rc0 1 0 rm3) (unhide HA) rfl rfl rfl (by decide) (by decide) (by decide) rc0_r (by unfold Um.Word; decide) (Um.rok_beg (unhide HW3)) (fun _ => by decide +kernel) (by decide) (by decide) 50 (by decide) ra12 rfl).mono ?_
  rintro r u ⟨n, rfl, hn1, hn2, hn3, hOn, cs2, hb2, sb2, hA2, hSn⟩
  clear hS
  have hS := hSn
  clear hSn
  dsimp only [putL, List.set, List.cons_append, List.nil_append] at hS
  obtain rfl : n = 11 := ra_n hn1 hn2 hn3
  have HOA := hide hOn
  have HA2 := hide hA2
  clear hn1 hn2 hn3 hOn hA2 HA
  go_wp2_with fail
  refine (rDone_n (hS.get 4 rfl) (unhide HZB).1).mono ?_
  rintro r u ⟨rfl, rfl⟩
  go_wp2_with fail
  refine (rError_n (hS.get 4 rfl) (unhide HZB).1 (unhide HZB).2).mono ?_
  rintro r u ⟨rfl, rfl⟩
  go_wp2_with fail
  refine (rDone_n (hS.get 5 rfl) (unhide HZD).1).mono ?_
  rintro r u ⟨rfl, rfl⟩
  go_wp2_with fail
  refine (rError_n (hS.get 5 rfl) (unhide HZD).1 (unhide HZD).2).mono ?_
  rintro r u ⟨rfl, rfl⟩
  go_wp2_with fail
  refine (rdError_any (unhide HA2) (by decide +kernel) (hS.get 3 rfl)).mono ?_
  rintro r u ⟨rfl, rfl⟩
  rw [show ra12.e = 0 by decide +kernel]
  go_wp2_with fail
  refine (of12_any 4 0 _).mono ?_
  rintro r u ⟨rfl, hb⟩
  replace hS := hS.call hb
  clear hb
  go_wp2_with fail
  refine (mLoad_x hS 1 2 rfl rfl (by decide) rc0_r (unhide HOA).wd 4 0 (by decide) (by decide) rm4 rfl).mono ?_
  rintro r u ⟨rfl, hWn, hSn⟩
  clear hS
  have hS := hSn
  clear hSn
  dsimp only [putL, List.set, List.cons_append, List.nil_append] at hS
  have HW4 := hide hWn
  clear hWn
  rw [show ((rm4.l.old : Nat) : Int) = ((268435458 : Nat) : Int) by decide +kernel]
  go_wp2_with fail
  refine (nw12_2 _).mono ?_
  rintro r u ⟨rfl, hb⟩
  replace hS := hS.call hb
  clear hb
  go_wp2_with fail
  refine (wi12_a _).mono ?_
  rintro r u ⟨rfl, hb⟩
  replace hS := hS.call hb
  clear hb
  go_wp2_with fail
  refine (of12_any 4 1 _).mono ?_
  rintro r u ⟨rfl, hb⟩
  replace hS := hS.call hb
  clear hb
  go_wp2_with fail
  refine (mLoad_x hS 1 2 rfl rfl (by decide) rc0_r (unhide HW4) 4 1 (by decide) (by decide) rm5 rfl).mono ?_
  rintro r u ⟨rfl, hWn, hSn⟩
  clear hS
  have hS := hSn
  clear hSn
  dsimp only [putL, List.set, List.cons_append, List.nil_append] at hS
  have HW5 := hide hWn
  clear hWn
  rw [show ((rm5.l.old : Nat) : Int) = ((268439552 : Nat) : Int) by decide +kernel]
  go_wp2_with fail
  refine (nw12_2 _).mono ?_
  rintro r u ⟨rfl, hb⟩
  replace hS := hS.call hb
  clear hb
  go_wp2_with fail
  refine (wi12_b _).mono ?_
  rintro r u ⟨rfl, hb⟩
  replace hS := hS.call hb
  clear hb
  go_wp2_with fail
  refine (of12_any 8 0 _).mono ?_
  rintro r u ⟨rfl, hb⟩
  replace hS := hS.call hb
  clear hb
  go_wp2_with fail
  refine (mLoad_x hS 1 2 rfl rfl (by decide) rc0_r (unhide HW5) 8 0 (by decide) (by decide) rm6 rfl).mono ?_
  rintro r u ⟨rfl, hWn, hSn⟩
  clear hS
  have hS := hSn
  clear hSn
  dsimp only [putL, List.set, List.cons_append, List.nil_append] at hS
  clear hWn
  rw [show ((rm6.l.old : Nat) : Int) = 8193 by decide +kernel]
  have hB := hS.bel
  clear hS
  go_wp2
  go_ret
  exact ⟨rfl, hB⟩
end
section
set_option maxRecDepth 100000
open Go.RowKit Go.Sort
set_option linter.unusedVariables false
def Jg (sd b : Int) (s : Nat) (nx nx2 r2 : Int) : Prop :=
  (Um.hasN s sd b = true → nx2 = nx ∧ r2 = 2) ∧ (Um.hasN s sd b = false → Um.stN s ≠ 2 → Um.anyN s (1 - sd) = true → nx2 = nx ∧ r2 = 3) ∧ (Um.hasN s sd b = false → (Um.stN s = 2 ∨ Um.anyN s (1 - sd) = false) → nx2 = 2 ∧ r2 = 0)
set_option maxHeartbeats 2000000 in
theorem rJudge_2 (sl sd b nx : Int) (sn s : Nat) (w : World) (hs : Um.Word s) (hd0 : -1 ≤ sd) (hd1 : sd ≤ 2) (hh : Um.hasN s sd b = true) : Calls Tryz.prog 108 #[.agg #[.int .i64 sl, .int .i64 sd, .int .i64 b, .int .u64 (sn : Nat), .int .i64 nx, .int .u64 (s : Nat), .int .i64 0]] w fun r w' => r = .returned (.agg #[.int .i64 sl, .int .i64 sd, .int .i64 b, .int .u64 (sn : Nat), .int .i64 nx, .int .u64 (s : Nat), .int .i64 2]) ∧ Below w.heap.size w w' := by
  have hS := Sx.new w
  have HSW := hide hs
  have HH := hide hh
  clear hh
  clear hs
  go_enter Tryz.func108, Tryz.ntmps108
  go_wp2_with (first | (refine ybox hS (h := ?_); clear hS; intro _ _ hS) | (refine yall hS (h := ?_); clear hS; intro _ _ hS) | refine yld hS (h := ?_) | (refine yst hS (h := ?_); clear hS; intro _ hS))
  refine (refHas_any s sd b _ (unhide HSW)).mono ?_
  rintro r u ⟨rfl, rfl⟩
  rw [unhide HH]
  go_wp2_with (first | (refine ybox hS (h := ?_); clear hS; intro _ _ hS) | (refine yall hS (h := ?_); clear hS; intro _ _ hS) | refine yld hS (h := ?_) | (refine yst hS (h := ?_); clear hS; intro _ hS))
  have hZ := hS.get 1 rfl
  exact bodyPost_ret (v := .agg #[.int .i64 sl, .int .i64 sd, .int .i64 b, .int .u64 (sn : Nat), .int .i64 nx, .int .u64 (s : Nat), .int .i64 2]) (by simp [results, Tryz.results108, go_sem, hZ.cell 0 _ rfl, hZ.cell 1 _ rfl, hZ.cell 2 _ rfl, hZ.cell 3 _ rfl, hZ.cell 4 _ rfl, hZ.cell 5 _ rfl, hZ.cell 6 _ rfl]) rfl ⟨rfl, hS.bel⟩
set_option maxHeartbeats 2000000 in
theorem rJudge_3 (sl sd b nx : Int) (sn s : Nat) (w : World) (hs : Um.Word s) (hd0 : -1 ≤ sd) (hd1 : sd ≤ 2) (hh : Um.hasN s sd b = false) (h2 : Um.stN s ≠ 2) (ha : Um.anyN s (1 - sd) = true) : Calls Tryz.prog 108 #[.agg #[.int .i64 sl, .int .i64 sd, .int .i64 b, .int .u64 (sn : Nat), .int .i64 nx, .int .u64 (s : Nat), .int .i64 0]] w fun r w' => r = .returned (.agg #[.int .i64 sl, .int .i64 sd, .int .i64 b, .int .u64 (sn : Nat), .int .i64 nx, .int .u64 (s : Nat), .int .i64 3]) ∧ Below w.heap.size w w' := by
  have hS := Sx.new w
  have HSW := hide hs
  have HH := hide hh
  clear hh
  have s1 : ¬ ((Um.stN s : Nat) : Int) = 2 := by omega
  have s2 : (((Um.stN s : Nat) : Int) != 2) = true := by simpa using s1
  have HA := hide ha
  clear ha h2
  clear hs
  go_enter Tryz.func108, Tryz.ntmps108
  go_wp2_with (first | (refine ybox hS (h := ?_); clear hS; intro _ _ hS) | (refine yall hS (h := ?_); clear hS; intro _ _ hS) | refine yld hS (h := ?_) | (refine yst hS (h := ?_); clear hS; intro _ hS))
  refine (refHas_any s sd b _ (unhide HSW)).mono ?_
  rintro r u ⟨rfl, rfl⟩
  rw [unhide HH]
  go_wp2_with (first | (refine ybox hS (h := ?_); clear hS; intro _ _ hS) | (refine yall hS (h := ?_); clear hS; intro _ _ hS) | refine yld hS (h := ?_) | (refine yst hS (h := ?_); clear hS; intro _ hS))
  refine (rState_b s _ (unhide HSW)).mono ?_
  rintro r u ⟨rfl, hb⟩
  replace hS := hS.call hb
  clear hb
  go_wp2_with (first | (refine ybox hS (h := ?_); clear hS; intro _ _ hS) | (refine yall hS (h := ?_); clear hS; intro _ _ hS) | refine yld hS (h := ?_) | (refine yst hS (h := ?_); clear hS; intro _ hS))
  refine (refAny_any s (1 - sd) _ (unhide HSW)).mono ?_
  rintro r u ⟨rfl, n, rfl⟩
  replace hS := hS.drewN n
  rw [unhide HA]
  go_wp2_with (first | (refine ybox hS (h := ?_); clear hS; intro _ _ hS) | (refine yall hS (h := ?_); clear hS; intro _ _ hS) | refine yld hS (h := ?_) | (refine yst hS (h := ?_); clear hS; intro _ hS))
  have hZ := hS.get 1 rfl
  exact bodyPost_ret (v := .agg #[.int .i64 sl, .int .i64 sd, .int .i64 b, .int .u64 (sn : Nat), .int .i64 nx, .int .u64 (s : Nat), .int .i64 3]) (by simp [results, Tryz.results108, go_sem, hZ.cell 0 _ rfl, hZ.cell 1 _ rfl, hZ.cell 2 _ rfl, hZ.cell 3 _ rfl, hZ.cell 4 _ rfl, hZ.cell 5 _ rfl, hZ.cell 6 _ rfl]) rfl ⟨rfl, hS.bel⟩
set_option maxHeartbeats 2000000 in
theorem rJudge_0b (sl sd b nx : Int) (sn s : Nat) (w : World) (hs : Um.Word s) (hd0 : -1 ≤ sd) (hd1 : sd ≤ 2) (hh : Um.hasN s sd b = false) (h2 : Um.stN s ≠ 2) (ha : Um.anyN s (1 - sd) = false) : Calls Tryz.prog 108 #[.agg #[.int .i64 sl, .int .i64 sd, .int .i64 b, .int .u64 (sn : Nat), .int .i64 nx, .int .u64 (s : Nat), .int .i64 0]] w fun r w' => r = .returned (.agg #[.int .i64 sl, .int .i64 sd, .int .i64 b, .int .u64 (sn : Nat), .int .i64 2, .int .u64 (s : Nat), .int .i64 0]) ∧ Below w.heap.size w w' := by
  have hS := Sx.new w
  have HSW := hide hs
  have HH := hide hh
  clear hh
  have s1 : ¬ ((Um.stN s : Nat) : Int) = 2 := by omega
  have s2 : (((Um.stN s : Nat) : Int) != 2) = true := by simpa using s1
  have HA := hide ha
  clear ha h2
  clear hs
  go_enter Tryz.func108, Tryz.ntmps108
  go_wp2_with (first | (refine ybox hS (h := ?_); clear hS; intro _ _ hS) | (refine yall hS (h := ?_); clear hS; intro _ _ hS) | refine yld hS (h := ?_) | (refine yst hS (h := ?_); clear hS; intro _ hS))
  refine (refHas_any s sd b _ (unhide HSW)).mono ?_
  rintro r u ⟨rfl, rfl⟩
  rw [unhide HH]
  go_wp2_with (first | (refine ybox hS (h := ?_); clear hS; intro _ _ hS) | (refine yall hS (h := ?_); clear hS; intro _ _ hS) | refine yld hS (h := ?_) | (refine yst hS (h := ?_); clear hS; intro _ hS))
  refine (rState_b s _ (unhide HSW)).mono ?_
  rintro r u ⟨rfl, hb⟩
  replace hS := hS.call hb
  clear hb
  go_wp2_with (first | (refine ybox hS (h := ?_); clear hS; intro _ _ hS) | (refine yall hS (h := ?_); clear hS; intro _ _ hS) | refine yld hS (h := ?_) | (refine yst hS (h := ?_); clear hS; intro _ hS))
  refine (refAny_any s (1 - sd) _ (unhide HSW)).mono ?_
  rintro r u ⟨rfl, n, rfl⟩
  replace hS := hS.drewN n
  rw [unhide HA]
  go_wp2_with (first | (refine ybox hS (h := ?_); clear hS; intro _ _ hS) | (refine yall hS (h := ?_); clear hS; intro _ _ hS) | refine yld hS (h := ?_) | (refine yst hS (h := ?_); clear hS; intro _ hS))
  have hZ := hS.get 1 rfl
  exact bodyPost_ret (v := .agg #[.int .i64 sl, .int .i64 sd, .int .i64 b, .int .u64 (sn : Nat), .int .i64 2, .int .u64 (s : Nat), .int .i64 0]) (by simp [results, Tryz.results108, go_sem, hZ.cell 0 _ rfl, hZ.cell 1 _ rfl, hZ.cell 2 _ rfl, hZ.cell 3 _ rfl, hZ.cell 4 _ rfl, hZ.cell 5 _ rfl, hZ.cell 6 _ rfl]) rfl ⟨rfl, hS.bel⟩
set_option maxHeartbeats 2000000 in
theorem rJudge_0a (sl sd b nx : Int) (sn s : Nat) (w : World) (hs : Um.Word s) (hd0 : -1 ≤ sd) (hd1 : sd ≤ 2) (hh : Um.hasN s sd b = false) (h2 : Um.stN s = 2) : Calls Tryz.prog 108 #[.agg #[.int .i64 sl, .int .i64 sd, .int .i64 b, .int .u64 (sn : Nat), .int .i64 nx, .int .u64 (s : Nat), .int .i64 0]] w fun r w' => r = .returned (.agg #[.int .i64 sl, .int .i64 sd, .int .i64 b, .int .u64 (sn : Nat), .int .i64 2, .int .u64 (s : Nat), .int .i64 0]) ∧ Below w.heap.size w w' := by
  have hS := Sx.new w
  have HSW := hide hs
  have HH := hide hh
  clear hh
  have H2 := hide h2
  clear h2
  clear hs
  go_enter Tryz.func108, Tryz.ntmps108
  go_wp2_with (first | (refine ybox hS (h := ?_); clear hS; intro _ _ hS) | (refine yall hS (h := ?_); clear hS; intro _ _ hS) | refine yld hS (h := ?_) | (refine yst hS (h := ?_); clear hS; intro _ hS))
  refine (refHas_any s sd b _ (unhide HSW)).mono ?_
  rintro r u ⟨rfl, rfl⟩
  rw [unhide HH]
  go_wp2_with (first | (refine ybox hS (h := ?_); clear hS; intro _ _ hS) | (refine yall hS (h := ?_); clear hS; intro _ _ hS) | refine yld hS (h := ?_) | (refine yst hS (h := ?_); clear hS; intro _ hS))
  refine (state_lit10 (unhide HSW) (unhide H2) _).mono ?_
  rintro r u ⟨rfl, hb⟩
  replace hS := hS.call hb
  clear hb
  go_wp2_with (first | (refine ybox hS (h := ?_); clear hS; intro _ _ hS) | (refine yall hS (h := ?_); clear hS; intro _ _ hS) | refine yld hS (h := ?_) | (refine yst hS (h := ?_); clear hS; intro _ hS))
  have hZ := hS.get 1 rfl
  exact bodyPost_ret (v := .agg #[.int .i64 sl, .int .i64 sd, .int .i64 b, .int .u64 (sn : Nat), .int .i64 2, .int .u64 (s : Nat), .int .i64 0]) (by simp [results, Tryz.results108, go_sem, hZ.cell 0 _ rfl, hZ.cell 1 _ rfl, hZ.cell 2 _ rfl, hZ.cell 3 _ rfl, hZ.cell 4 _ rfl, hZ.cell 5 _ rfl, hZ.cell 6 _ rfl]) rfl ⟨rfl, hS.bel⟩
theorem rJudge_any (sl sd b nx nx2 r2 : Int) (sn s : Nat) (w : World) (hs : Um.Word s) (hd0 : -1 ≤ sd) (hd1 : sd ≤ 2) (hj : Jg sd b s nx nx2 r2) : Calls Tryz.prog 108 #[.agg #[.int .i64 sl, .int .i64 sd, .int .i64 b, .int .u64 (sn : Nat), .int .i64 nx, .int .u64 (s : Nat), .int .i64 0]] w fun r w' => r = .returned (.agg #[.int .i64 sl, .int .i64 sd, .int .i64 b, .int .u64 (sn : Nat), .int .i64 nx2, .int .u64 (s : Nat), .int .i64 r2]) ∧ Below w.heap.size w w' := by
  cases hh : Um.hasN s sd b with
  | true =>
    obtain ⟨rfl, rfl⟩ := hj.1 hh
    exact rJudge_2 sl sd b _ sn s w hs hd0 hd1 hh
  | false =>
    by_cases h2 : Um.stN s = 2
    · obtain ⟨rfl, rfl⟩ := hj.2.2 hh (.inl h2)
      exact rJudge_0a sl sd b _ sn s w hs hd0 hd1 hh h2
    · cases ha : Um.anyN s (1 - sd) with
      | true =>
        obtain ⟨rfl, rfl⟩ := hj.2.1 hh h2 ha
        exact rJudge_3 sl sd b _ sn s w hs hd0 hd1 hh h2 ha
      | false =>
        obtain ⟨rfl, rfl⟩ := hj.2.2 hh (.inr ha)
        exact rJudge_0b sl sd b _ sn s w hs hd0 hd1 hh h2 ha
end
section
set_option maxRecDepth 100000
open Go.RowKit Go.Sort
set_option maxHeartbeats 8000000 in
theorem rStep11_done (w : World) (c : Um.Cf) (m : Um.Mm) (g cg : Nat) (sl sd b : Int) (sn s : Nat) (nx rr : Int) (hr0 : rr ≠ 0) (hB : BlkAt w g (rowW m.ws c.n)) (hr : c.r = true) (hw : WordsOk c m) (h1 : c.n ≤ cg) (h2 : cg ≤ maxLen) :
    Calls Tryz.prog 96 #[.agg #[.int .i64 sl, .int .i64 sd, .int .i64 b, .int .u64 (sn : Nat), .int .i64 nx, .int .u64 (s : Nat), .int .i64 rr], (.agg #[.int .i64 c.t, .int .i64 c.s, .int .i64 c.k, .int .i64 c.g, .int .u64 c.q, (.slice (some ⟨g, 0, none⟩) c.n cg), .int .i64 m.cnt, .int .i64 m.l.kind, .int .i64 m.l.a, .int .i64 m.l.b, .int .u64 (m.l.old : Nat), .int .u64 (m.l.new : Nat), .bool m.l.done])] w fun r w' => ∃ g' cg', r = .returned (.tuple #[.agg #[.int .i64 sl, .int .i64 sd, .int .i64 b, .int .u64 (sn : Nat), .int .i64 nx, .int .u64 (s : Nat), .int .i64 rr], (.agg #[.int .i64 c.t, .int .i64 c.s, .int .i64 c.k, .int .i64 c.g, .int .u64 c.q, (.slice (some ⟨g', 0, none⟩) c.n cg'), .int .i64 m.cnt, .int .i64 m.l.kind, .int .i64 m.l.a, .int .i64 m.l.b, .int .u64 (m.l.old : Nat), .int .u64 (m.l.new : Nat), .bool m.l.done])]) ∧ c.n ≤ cg' ∧ cg' ≤ maxLen ∧ Fr w g g' ∧ WordsOk c m ∧ BlkAt w' g' (rowW m.ws c.n) ∧ Below w.heap.size w w' := by
  have hS := Sx.read1 hB
  have r1 : ¬ rr = 0 := hr0
  have r2 : (rr != 0) = true := by simpa using r1
  clear hr0
  have HR := hide hr
  have HW := hide hw
  clear hB hr hw
  go_enter Tryz.func96, Tryz.ntmps96
  go_wp2_with (first | (refine ybox hS (h := ?_); clear hS; intro _ _ hS) | (refine yall hS (h := ?_); clear hS; intro _ _ hS) | refine yld hS (h := ?_) | (refine yst hS (h := ?_); clear hS; intro _ hS))
  obtain ⟨OB, rfl⟩ := nameB hS 0 rfl
  obtain ⟨MB, rfl⟩ := nameB hS 1 rfl
  obtain ⟨R1, rfl⟩ := nameB hS 2 rfl
  obtain ⟨R2, rfl⟩ := nameB hS 3 rfl
  refine wp_ret2 hS 0 1 2 3 (hQ := ?_)
  · intro _ hS'
    clear hS
    have hS := hS'
    clear hS'
    dsimp only [List.set] at hS ⊢
    go_wp2
    have hZ := hS.get 2 rfl
    have hY := hS.get 3 rfl
    refine bodyPost_ret (v := .tuple #[.agg #[.int .i64 sl, .int .i64 sd, .int .i64 b, .int .u64 (sn : Nat), .int .i64 nx, .int .u64 (s : Nat), .int .i64 rr], (.agg #[.int .i64 c.t, .int .i64 c.s, .int .i64 c.k, .int .i64 c.g, .int .u64 c.q, (.slice (some ⟨g, 0, none⟩) c.n cg), .int .i64 m.cnt, .int .i64 m.l.kind, .int .i64 m.l.a, .int .i64 m.l.b, .int .u64 (m.l.old : Nat), .int .u64 (m.l.new : Nat), .bool m.l.done])]) (by simp [results, Tryz.results96, go_sem, hZ.cell 0 _ rfl, hZ.cell 1 _ rfl, hZ.cell 2 _ rfl, hZ.cell 3 _ rfl, hZ.cell 4 _ rfl, hZ.cell 5 _ rfl, hZ.cell 6 _ rfl, hY.cell 0 _ rfl, hY.cell 1 _ rfl, hY.cell 2 _ rfl, hY.cell 3 _ rfl, hY.cell 4 _ rfl, hY.cell 5 _ rfl, hY.cell 6 _ rfl, hY.cell 7 _ rfl, hY.cell 8 _ rfl, hY.cell 9 _ rfl, hY.cell 10 _ rfl, hY.cell 11 _ rfl, hY.cell 12 _ rfl]) rfl ?_
    exact ⟨g, cg, rfl, h1, h2, .inl rfl, unhide HW, hS.getE 0 rfl, hS.bel⟩
set_option maxHeartbeats 8000000 in
theorem rStep11_look4 (w : World) (c : Um.Cf) (m M : Um.Mm) (g cg : Nat) (sl sd b : Int) (sn s : Nat) (hst : Um.stN M.l.old = 4) (hB : BlkAt w g (rowW m.ws c.n)) (hr : c.r = true) (hw : WordsOk c m) (h1 : c.n ≤ cg) (h2 : cg ≤ maxLen) (hM : M = Um.mtouch c m 1 4 sl 0 0) :
    Calls Tryz.prog 96 #[.agg #[.int .i64 sl, .int .i64 sd, .int .i64 b, .int .u64 (sn : Nat), .int .i64 0, .int .u64 (s : Nat), .int .i64 0], (.agg #[.int .i64 c.t, .int .i64 c.s, .int .i64 c.k, .int .i64 c.g, .int .u64 c.q, (.slice (some ⟨g, 0, none⟩) c.n cg), .int .i64 m.cnt, .int .i64 m.l.kind, .int .i64 m.l.a, .int .i64 m.l.b, .int .u64 (m.l.old : Nat), .int .u64 (m.l.new : Nat), .bool m.l.done])] w fun r w' => ∃ g' cg', r = .returned (.tuple #[.agg #[.int .i64 sl, .int .i64 sd, .int .i64 b, .int .u64 (sn : Nat), .int .i64 1, .int .u64 (M.l.old : Nat), .int .i64 0], (.agg #[.int .i64 c.t, .int .i64 c.s, .int .i64 c.k, .int .i64 c.g, .int .u64 c.q, (.slice (some ⟨g', 0, none⟩) c.n cg'), .int .i64 M.cnt, .int .i64 M.l.kind, .int .i64 M.l.a, .int .i64 M.l.b, .int .u64 (M.l.old : Nat), .int .u64 (M.l.new : Nat), .bool M.l.done])]) ∧ c.n ≤ cg' ∧ cg' ≤ maxLen ∧ Fr w g g' ∧ WordsOk c M ∧ BlkAt w' g' (rowW M.ws c.n) ∧ Below w.heap.size w w' := by
  have hS := Sx.read1 hB
  have HOW := hide (show Um.Word M.l.old by rw [hM]; exact Um.old_word hw)
  have HST := hide hst
  clear hst
  have HR := hide hr
  have HW := hide hw
  have HM := hide hM
  clear hB hr hw hM
  go_enter Tryz.func96, Tryz.ntmps96
  go_wp2_with (first | (refine ybox hS (h := ?_); clear hS; intro _ _ hS) | (refine yall hS (h := ?_); clear hS; intro _ _ hS) | refine yld hS (h := ?_) | (refine yst hS (h := ?_); clear hS; intro _ hS))
  have hSz := hS.size
  refine (rLoad_x hS 0 rfl (unhide HR) (unhide HW) h1 h2 4 sl M (unhide HM)).mono ?_
  rintro r u ⟨g', cg', rfl, q1, q2, hFr, hWn, hSn⟩
  clear hS
  have hS := hSn
  clear hSn
  dsimp only [putL, List.set, List.cons_append, List.nil_append] at hS
  have HW2 := hide hWn
  clear hWn
  go_wp2_with (first | (refine ybox hS (h := ?_); clear hS; intro _ _ hS) | (refine yall hS (h := ?_); clear hS; intro _ _ hS) | refine yld hS (h := ?_) | (refine yst hS (h := ?_); clear hS; intro _ hS))
  refine (state_lit10 (unhide HOW) (unhide HST) _).mono ?_
  rintro r u ⟨rfl, hb⟩
  replace hS := hS.call hb
  clear hb
  go_wp2_with (first | (refine ybox hS (h := ?_); clear hS; intro _ _ hS) | (refine yall hS (h := ?_); clear hS; intro _ _ hS) | refine yld hS (h := ?_) | (refine yst hS (h := ?_); clear hS; intro _ hS))
  obtain ⟨OB, rfl⟩ := nameB hS 0 rfl
  obtain ⟨MB, rfl⟩ := nameB hS 1 rfl
  obtain ⟨R1, rfl⟩ := nameB hS 2 rfl
  obtain ⟨R2, rfl⟩ := nameB hS 3 rfl
  obtain ⟨NX, rfl⟩ := nameB hS 4 rfl
  refine wp_ret2 hS 0 4 2 3 (hQ := ?_)
  · intro _ hS'
    clear hS
    have hS := hS'
    clear hS'
    dsimp only [List.set] at hS ⊢
    go_wp2
    have hZ := hS.get 2 rfl
    have hY := hS.get 3 rfl
    refine bodyPost_ret (v := .tuple #[.agg #[.int .i64 sl, .int .i64 sd, .int .i64 b, .int .u64 (sn : Nat), .int .i64 1, .int .u64 (M.l.old : Nat), .int .i64 0], (.agg #[.int .i64 c.t, .int .i64 c.s, .int .i64 c.k, .int .i64 c.g, .int .u64 c.q, (.slice (some ⟨g', 0, none⟩) c.n cg'), .int .i64 M.cnt, .int .i64 M.l.kind, .int .i64 M.l.a, .int .i64 M.l.b, .int .u64 (M.l.old : Nat), .int .u64 (M.l.new : Nat), .bool M.l.done])]) (by simp [results, Tryz.results96, go_sem, hZ.cell 0 _ rfl, hZ.cell 1 _ rfl, hZ.cell 2 _ rfl, hZ.cell 3 _ rfl, hZ.cell 4 _ rfl, hZ.cell 5 _ rfl, hZ.cell 6 _ rfl, hY.cell 0 _ rfl, hY.cell 1 _ rfl, hY.cell 2 _ rfl, hY.cell 3 _ rfl, hY.cell 4 _ rfl, hY.cell 5 _ rfl, hY.cell 6 _ rfl, hY.cell 7 _ rfl, hY.cell 8 _ rfl, hY.cell 9 _ rfl, hY.cell 10 _ rfl, hY.cell 11 _ rfl, hY.cell 12 _ rfl]) rfl ?_
    exact ⟨g', cg', rfl, q1, q2, (Fr.refl w g).trans hFr hSz, unhide HW2, hS.getE 0 rfl, hS.bel⟩
set_option maxHeartbeats 8000000 in
theorem rStep11_look2 (w : World) (c : Um.Cf) (m M : Um.Mm) (g cg : Nat) (sl sd b : Int) (sn s : Nat) (nx2 r2 : Int) (hd0 : -1 ≤ sd) (hd1 : sd ≤ 2) (hj : Jg sd b M.l.old 0 nx2 r2) (hst : Um.stN M.l.old = 2) (hB : BlkAt w g (rowW m.ws c.n)) (hr : c.r = true) (hw : WordsOk c m) (h1 : c.n ≤ cg) (h2 : cg ≤ maxLen) (hM : M = Um.mtouch c m 1 4 sl 0 0) :
    Calls Tryz.prog 96 #[.agg #[.int .i64 sl, .int .i64 sd, .int .i64 b, .int .u64 (sn : Nat), .int .i64 0, .int .u64 (s : Nat), .int .i64 0], (.agg #[.int .i64 c.t, .int .i64 c.s, .int .i64 c.k, .int .i64 c.g, .int .u64 c.q, (.slice (some ⟨g, 0, none⟩) c.n cg), .int .i64 m.cnt, .int .i64 m.l.kind, .int .i64 m.l.a, .int .i64 m.l.b, .int .u64 (m.l.old : Nat), .int .u64 (m.l.new : Nat), .bool m.l.done])] w fun r w' => ∃ g' cg', r = .returned (.tuple #[.agg #[.int .i64 sl, .int .i64 sd, .int .i64 b, .int .u64 (sn : Nat), .int .i64 nx2, .int .u64 (M.l.old : Nat), .int .i64 r2], (.agg #[.int .i64 c.t, .int .i64 c.s, .int .i64 c.k, .int .i64 c.g, .int .u64 c.q, (.slice (some ⟨g', 0, none⟩) c.n cg'), .int .i64 M.cnt, .int .i64 M.l.kind, .int .i64 M.l.a, .int .i64 M.l.b, .int .u64 (M.l.old : Nat), .int .u64 (M.l.new : Nat), .bool M.l.done])]) ∧ c.n ≤ cg' ∧ cg' ≤ maxLen ∧ Fr w g g' ∧ WordsOk c M ∧ BlkAt w' g' (rowW M.ws c.n) ∧ Below w.heap.size w w' := by
  have hS := Sx.read1 hB
  have HOW := hide (show Um.Word M.l.old by rw [hM]; exact Um.old_word hw)
  have HST := hide hst
  clear hst
  have HJ := hide hj
  clear hj
  have HR := hide hr
  have HW := hide hw
  have HM := hide hM
  clear hB hr hw hM
  go_enter Tryz.func96, Tryz.ntmps96
  go_wp2_with (first | (refine ybox hS (h := ?_); clear hS; intro _ _ hS) | (refine yall hS (h := ?_); clear hS; intro _ _ hS) | refine yld hS (h := ?_) | (refine yst hS (h := ?_); clear hS; intro _ hS))
  have hSz := hS.size
  refine (rLoad_x hS 0 rfl (unhide HR) (unhide HW) h1 h2 4 sl M (unhide HM)).mono ?_
  rintro r u ⟨g', cg', rfl, q1, q2, hFr, hWn, hSn⟩
  clear hS
  have hS := hSn
  clear hSn
  dsimp only [putL, List.set, List.cons_append, List.nil_append] at hS
  have HW2 := hide hWn
  clear hWn
  go_wp2_with (first | (refine ybox hS (h := ?_); clear hS; intro _ _ hS) | (refine yall hS (h := ?_); clear hS; intro _ _ hS) | refine yld hS (h := ?_) | (refine yst hS (h := ?_); clear hS; intro _ hS))
  refine (state_lit10 (unhide HOW) (unhide HST) _).mono ?_
  rintro r u ⟨rfl, hb⟩
  replace hS := hS.call hb
  clear hb
  go_wp2_with (first | (refine ybox hS (h := ?_); clear hS; intro _ _ hS) | (refine yall hS (h := ?_); clear hS; intro _ _ hS) | refine yld hS (h := ?_) | (refine yst hS (h := ?_); clear hS; intro _ hS))
  refine (rJudge_any sl sd b 0 nx2 r2 sn M.l.old _ (unhide HOW) hd0 hd1 (unhide HJ)).mono ?_
  rintro r u ⟨rfl, hb⟩
  replace hS := hS.call hb
  clear hb
  go_wp2_with (refine yst hS (h := ?_); clear hS; intro _ hS)
  obtain ⟨OB, rfl⟩ := nameB hS 0 rfl
  obtain ⟨MB, rfl⟩ := nameB hS 1 rfl
  obtain ⟨R1, rfl⟩ := nameB hS 2 rfl
  obtain ⟨R2, rfl⟩ := nameB hS 3 rfl
  obtain ⟨NX, rfl⟩ := nameB hS 4 rfl
  refine wp_ret2 hS 0 4 2 3 (hQ := ?_)
  · intro _ hS'
    clear hS
    have hS := hS'
    clear hS'
    dsimp only [List.set] at hS ⊢
    go_wp2
    have hZ := hS.get 2 rfl
    have hY := hS.get 3 rfl
    refine bodyPost_ret (v := .tuple #[.agg #[.int .i64 sl, .int .i64 sd, .int .i64 b, .int .u64 (sn : Nat), .int .i64 nx2, .int .u64 (M.l.old : Nat), .int .i64 r2], (.agg #[.int .i64 c.t, .int .i64 c.s, .int .i64 c.k, .int .i64 c.g, .int .u64 c.q, (.slice (some ⟨g', 0, none⟩) c.n cg'), .int .i64 M.cnt, .int .i64 M.l.kind, .int .i64 M.l.a, .int .i64 M.l.b, .int .u64 (M.l.old : Nat), .int .u64 (M.l.new : Nat), .bool M.l.done])]) (by simp [results, Tryz.results96, go_sem, hZ.cell 0 _ rfl, hZ.cell 1 _ rfl, hZ.cell 2 _ rfl, hZ.cell 3 _ rfl, hZ.cell 4 _ rfl, hZ.cell 5 _ rfl, hZ.cell 6 _ rfl, hY.cell 0 _ rfl, hY.cell 1 _ rfl, hY.cell 2 _ rfl, hY.cell 3 _ rfl, hY.cell 4 _ rfl, hY.cell 5 _ rfl, hY.cell 6 _ rfl, hY.cell 7 _ rfl, hY.cell 8 _ rfl, hY.cell 9 _ rfl, hY.cell 10 _ rfl, hY.cell 11 _ rfl, hY.cell 12 _ rfl]) rfl ?_
    exact ⟨g', cg', rfl, q1, q2, (Fr.refl w g).trans hFr hSz, unhide HW2, hS.getE 0 rfl, hS.bel⟩
set_option maxHeartbeats 8000000 in
theorem rStep11_look3 (w : World) (c : Um.Cf) (m M : Um.Mm) (g cg : Nat) (sl sd b : Int) (sn s : Nat) (nx2 r2 : Int) (hd0 : -1 ≤ sd) (hd1 : sd ≤ 2) (hj : Jg sd b M.l.old 0 nx2 r2) (hst : Um.stN M.l.old = 3) (hB : BlkAt w g (rowW m.ws c.n)) (hr : c.r = true) (hw : WordsOk c m) (h1 : c.n ≤ cg) (h2 : cg ≤ maxLen) (hM : M = Um.mtouch c m 1 4 sl 0 0) :
    Calls Tryz.prog 96 #[.agg #[.int .i64 sl, .int .i64 sd, .int .i64 b, .int .u64 (sn : Nat), .int .i64 0, .int .u64 (s : Nat), .int .i64 0], (.agg #[.int .i64 c.t, .int .i64 c.s, .int .i64 c.k, .int .i64 c.g, .int .u64 c.q, (.slice (some ⟨g, 0, none⟩) c.n cg), .int .i64 m.cnt, .int .i64 m.l.kind, .int .i64 m.l.a, .int .i64 m.l.b, .int .u64 (m.l.old : Nat), .int .u64 (m.l.new : Nat), .bool m.l.done])] w fun r w' => ∃ g' cg', r = .returned (.tuple #[.agg #[.int .i64 sl, .int .i64 sd, .int .i64 b, .int .u64 (sn : Nat), .int .i64 nx2, .int .u64 (M.l.old : Nat), .int .i64 r2], (.agg #[.int .i64 c.t, .int .i64 c.s, .int .i64 c.k, .int .i64 c.g, .int .u64 c.q, (.slice (some ⟨g', 0, none⟩) c.n cg'), .int .i64 M.cnt, .int .i64 M.l.kind, .int .i64 M.l.a, .int .i64 M.l.b, .int .u64 (M.l.old : Nat), .int .u64 (M.l.new : Nat), .bool M.l.done])]) ∧ c.n ≤ cg' ∧ cg' ≤ maxLen ∧ Fr w g g' ∧ WordsOk c M ∧ BlkAt w' g' (rowW M.ws c.n) ∧ Below w.heap.size w w' := by
  have hS := Sx.read1 hB
  have HOW := hide (show Um.Word M.l.old by rw [hM]; exact Um.old_word hw)
  have HST := hide hst
  clear hst
  have HJ := hide hj
  clear hj
  have HR := hide hr
  have HW := hide hw
  have HM := hide hM
  clear hB hr hw hM
  go_enter Tryz.func96, Tryz.ntmps96
  go_wp2_with (first | (refine ybox hS (h := ?_); clear hS; intro _ _ hS) | (refine yall hS (h := ?_); clear hS; intro _ _ hS) | refine yld hS (h := ?_) | (refine yst hS (h := ?_); clear hS; intro _ hS))
  have hSz := hS.size
  refine (rLoad_x hS 0 rfl (unhide HR) (unhide HW) h1 h2 4 sl M (unhide HM)).mono ?_
  rintro r u ⟨g', cg', rfl, q1, q2, hFr, hWn, hSn⟩
  clear hS
  have hS := hSn
  clear hSn
  dsimp only [putL, List.set, List.cons_append, List.nil_append] at hS
  have HW2 := hide hWn
  clear hWn
  go_wp2_with (first | (refine ybox hS (h := ?_); clear hS; intro _ _ hS) | (refine yall hS (h := ?_); clear hS; intro _ _ hS) | refine yld hS (h := ?_) | (refine yst hS (h := ?_); clear hS; intro _ hS))
  refine (state_lit10 (unhide HOW) (unhide HST) _).mono ?_
  rintro r u ⟨rfl, hb⟩
  replace hS := hS.call hb
  clear hb
  go_wp2_with (first | (refine ybox hS (h := ?_); clear hS; intro _ _ hS) | (refine yall hS (h := ?_); clear hS; intro _ _ hS) | refine yld hS (h := ?_) | (refine yst hS (h := ?_); clear hS; intro _ hS))
  refine (rJudge_any sl sd b 0 nx2 r2 sn M.l.old _ (unhide HOW) hd0 hd1 (unhide HJ)).mono ?_
  rintro r u ⟨rfl, hb⟩
  replace hS := hS.call hb
  clear hb
  go_wp2_with (refine yst hS (h := ?_); clear hS; intro _ hS)
  obtain ⟨OB, rfl⟩ := nameB hS 0 rfl
  obtain ⟨MB, rfl⟩ := nameB hS 1 rfl
  obtain ⟨R1, rfl⟩ := nameB hS 2 rfl
  obtain ⟨R2, rfl⟩ := nameB hS 3 rfl
  obtain ⟨NX, rfl⟩ := nameB hS 4 rfl
  refine wp_ret2 hS 0 4 2 3 (hQ := ?_)
  · intro _ hS'
    clear hS
    have hS := hS'
    clear hS'
    dsimp only [List.set] at hS ⊢
    go_wp2
    have hZ := hS.get 2 rfl
    have hY := hS.get 3 rfl
    refine bodyPost_ret (v := .tuple #[.agg #[.int .i64 sl, .int .i64 sd, .int .i64 b, .int .u64 (sn : Nat), .int .i64 nx2, .int .u64 (M.l.old : Nat), .int .i64 r2], (.agg #[.int .i64 c.t, .int .i64 c.s, .int .i64 c.k, .int .i64 c.g, .int .u64 c.q, (.slice (some ⟨g', 0, none⟩) c.n cg'), .int .i64 M.cnt, .int .i64 M.l.kind, .int .i64 M.l.a, .int .i64 M.l.b, .int .u64 (M.l.old : Nat), .int .u64 (M.l.new : Nat), .bool M.l.done])]) (by simp [results, Tryz.results96, go_sem, hZ.cell 0 _ rfl, hZ.cell 1 _ rfl, hZ.cell 2 _ rfl, hZ.cell 3 _ rfl, hZ.cell 4 _ rfl, hZ.cell 5 _ rfl, hZ.cell 6 _ rfl, hY.cell 0 _ rfl, hY.cell 1 _ rfl, hY.cell 2 _ rfl, hY.cell 3 _ rfl, hY.cell 4 _ rfl, hY.cell 5 _ rfl, hY.cell 6 _ rfl, hY.cell 7 _ rfl, hY.cell 8 _ rfl, hY.cell 9 _ rfl, hY.cell 10 _ rfl, hY.cell 11 _ rfl, hY.cell 12 _ rfl]) rfl ?_
    exact ⟨g', cg', rfl, q1, q2, (Fr.refl w g).trans hFr hSz, unhide HW2, hS.getE 0 rfl, hS.bel⟩
set_option maxHeartbeats 8000000 in
theorem rStep11_lookn (w : World) (c : Um.Cf) (m M : Um.Mm) (g cg : Nat) (sl sd b : Int) (sn s : Nat) (hn2 : Um.stN M.l.old ≠ 2) (hn3 : Um.stN M.l.old ≠ 3) (hn4 : Um.stN M.l.old ≠ 4) (hB : BlkAt w g (rowW m.ws c.n)) (hr : c.r = true) (hw : WordsOk c m) (h1 : c.n ≤ cg) (h2 : cg ≤ maxLen) (hM : M = Um.mtouch c m 1 4 sl 0 0) :
    Calls Tryz.prog 96 #[.agg #[.int .i64 sl, .int .i64 sd, .int .i64 b, .int .u64 (sn : Nat), .int .i64 0, .int .u64 (s : Nat), .int .i64 0], (.agg #[.int .i64 c.t, .int .i64 c.s, .int .i64 c.k, .int .i64 c.g, .int .u64 c.q, (.slice (some ⟨g, 0, none⟩) c.n cg), .int .i64 m.cnt, .int .i64 m.l.kind, .int .i64 m.l.a, .int .i64 m.l.b, .int .u64 (m.l.old : Nat), .int .u64 (m.l.new : Nat), .bool m.l.done])] w fun r w' => ∃ g' cg', r = .returned (.tuple #[.agg #[.int .i64 sl, .int .i64 sd, .int .i64 b, .int .u64 (sn : Nat), .int .i64 0, .int .u64 (M.l.old : Nat), .int .i64 1], (.agg #[.int .i64 c.t, .int .i64 c.s, .int .i64 c.k, .int .i64 c.g, .int .u64 c.q, (.slice (some ⟨g', 0, none⟩) c.n cg'), .int .i64 M.cnt, .int .i64 M.l.kind, .int .i64 M.l.a, .int .i64 M.l.b, .int .u64 (M.l.old : Nat), .int .u64 (M.l.new : Nat), .bool M.l.done])]) ∧ c.n ≤ cg' ∧ cg' ≤ maxLen ∧ Fr w g g' ∧ WordsOk c M ∧ BlkAt w' g' (rowW M.ws c.n) ∧ Below w.heap.size w w' := by
  have hS := Sx.read1 hB
  have HOW := hide (show Um.Word M.l.old by rw [hM]; exact Um.old_word hw)
  have a2 : ¬ ((Um.stN M.l.old : Nat) : Int) = 2 := by omega
  have b2 : (((Um.stN M.l.old : Nat) : Int) == 2) = false := by simpa using a2
  have a3 : ¬ ((Um.stN M.l.old : Nat) : Int) = 3 := by omega
  have b3 : (((Um.stN M.l.old : Nat) : Int) == 3) = false := by simpa using a3
  have a4 : ¬ ((Um.stN M.l.old : Nat) : Int) = 4 := by omega
  have b4 : (((Um.stN M.l.old : Nat) : Int) == 4) = false := by simpa using a4
  clear hn2 hn3 hn4
  have HR := hide hr
  have HW := hide hw
  have HM := hide hM
  clear hB hr hw hM
  go_enter Tryz.func96, Tryz.ntmps96
  go_wp2_with (first | (refine ybox hS (h := ?_); clear hS; intro _ _ hS) | (refine yall hS (h := ?_); clear hS; intro _ _ hS) | refine yld hS (h := ?_) | (refine yst hS (h := ?_); clear hS; intro _ hS))
  have hSz := hS.size
  refine (rLoad_x hS 0 rfl (unhide HR) (unhide HW) h1 h2 4 sl M (unhide HM)).mono ?_
  rintro r u ⟨g', cg', rfl, q1, q2, hFr, hWn, hSn⟩
  clear hS
  have hS := hSn
  clear hSn
  dsimp only [putL, List.set, List.cons_append, List.nil_append] at hS
  have HW2 := hide hWn
  clear hWn
  go_wp2_with (first | (refine ybox hS (h := ?_); clear hS; intro _ _ hS) | (refine yall hS (h := ?_); clear hS; intro _ _ hS) | refine yld hS (h := ?_) | (refine yst hS (h := ?_); clear hS; intro _ hS))
  refine (rState_b M.l.old _ (unhide HOW)).mono ?_
  rintro r u ⟨rfl, hb⟩
  replace hS := hS.call hb
  clear hb
  go_wp2_with (first | (refine ybox hS (h := ?_); clear hS; intro _ _ hS) | (refine yall hS (h := ?_); clear hS; intro _ _ hS) | refine yld hS (h := ?_) | (refine yst hS (h := ?_); clear hS; intro _ hS))
  obtain ⟨OB, rfl⟩ := nameB hS 0 rfl
  obtain ⟨MB, rfl⟩ := nameB hS 1 rfl
  obtain ⟨R1, rfl⟩ := nameB hS 2 rfl
  obtain ⟨R2, rfl⟩ := nameB hS 3 rfl
  obtain ⟨NX, rfl⟩ := nameB hS 4 rfl
  refine wp_ret2 hS 0 4 2 3 (hQ := ?_)
  · intro _ hS'
    clear hS
    have hS := hS'
    clear hS'
    dsimp only [List.set] at hS ⊢
    go_wp2
    have hZ := hS.get 2 rfl
    have hY := hS.get 3 rfl
    refine bodyPost_ret (v := .tuple #[.agg #[.int .i64 sl, .int .i64 sd, .int .i64 b, .int .u64 (sn : Nat), .int .i64 0, .int .u64 (M.l.old : Nat), .int .i64 1], (.agg #[.int .i64 c.t, .int .i64 c.s, .int .i64 c.k, .int .i64 c.g, .int .u64 c.q, (.slice (some ⟨g', 0, none⟩) c.n cg'), .int .i64 M.cnt, .int .i64 M.l.kind, .int .i64 M.l.a, .int .i64 M.l.b, .int .u64 (M.l.old : Nat), .int .u64 (M.l.new : Nat), .bool M.l.done])]) (by simp [results, Tryz.results96, go_sem, hZ.cell 0 _ rfl, hZ.cell 1 _ rfl, hZ.cell 2 _ rfl, hZ.cell 3 _ rfl, hZ.cell 4 _ rfl, hZ.cell 5 _ rfl, hZ.cell 6 _ rfl, hY.cell 0 _ rfl, hY.cell 1 _ rfl, hY.cell 2 _ rfl, hY.cell 3 _ rfl, hY.cell 4 _ rfl, hY.cell 5 _ rfl, hY.cell 6 _ rfl, hY.cell 7 _ rfl, hY.cell 8 _ rfl, hY.cell 9 _ rfl, hY.cell 10 _ rfl, hY.cell 11 _ rfl, hY.cell 12 _ rfl]) rfl ?_
    exact ⟨g', cg', rfl, q1, q2, (Fr.refl w g).trans hFr hSz, unhide HW2, hS.getE 0 rfl, hS.bel⟩
end
end Go.Proofs.YtapgghciieloaaaGreat
