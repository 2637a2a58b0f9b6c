/-
  Texts that the laws stand on, merged (ReadX, ReadY, ReadAlive, ReadMath8, OpenP9, ReadMath9, ReadMath10, JoinMath4, ReadL).
-/
import Derived.Test.YtapgghciieloaaaGreatK10
import Derived.Test.YtapgghciieloaaaGreatK11
import Derived.Test.YtapgghciieloaaaGreatK2
import Derived.Test.YtapgghciieloaaaGreatK3
import Derived.Test.YtapgghciieloaaaGreatK4
import Derived.Test.YtapgghciieloaaaGreatK6
import Derived.Test.YtapgghciieloaaaGreatK9
import Derived.Deep.DeepCutAuto
import Derived.Lib.QuietBelow
import Derived.LoopTactic

/-
  A step of a read, of whatever step; its blocks; a new one; to its end.
-/
namespace Go.Proofs.YtapgghciieloaaaGreat
set_option maxRecDepth 100000
open Go.RowKit Go.Sort
set_option linter.unusedVariables false
set_option linter.unusedSimpArgs false

/-- the states of which a read is entered -/
def st12 : Nat → Int := fun _ => 2
def inn12 : Nat → Bool := fun k => inZ st12 1 ((k : Nat) : Int)

/-- a read's blocks: its cells, what its next step writes; e: what is only read -/
def RdAt (P h : Nat) (ky sl : Int) (e : List (Nat × List Value)) (o : Um.Rd) (cs : List Value) (hb : List (Nat × List Value)) : Prop :=
  (o.dn = true ∧ (∃ v0 v1 v2 v3 v4 v5 v6 v7 v8 v9, cs = [v0, v1, v2, v3, v4, v5, v6, v7, v8, v9, .nilFunc, .int .i64 o.e]) ∧ hb = []) ∨
  (o.dn = false ∧ o.nx = 0 ∧ ∃ (ov : Value) (ot : Int) (pj po pl : Value) (ft : Int) (G cl : Nat) (la : Option Addr), StB la 1 st12 e ∧ cs = [.int .i64 sl, .int .i64 ky, .int .u64 (o.n : Nat), .int .u64 (o.w : Nat), ov, .int .i64 ot, .pointer (some ⟨G, 0, none⟩), pj, po, pl, .func (.func 45) #[.pointer (some ⟨P, 0, none⟩)] #[], .int .i64 ft] ∧ hb = [(G, entL G h la 1 cl o.g)]) ∨
  (o.dn = false ∧ o.nx = 1 ∧ (∃ (ov : Value) (ot : Int) (pg pj po pl : Value) (ft : Int), cs = [.int .i64 sl, .int .i64 ky, .int .u64 (o.n : Nat), .int .u64 (o.w : Nat), ov, .int .i64 ot, pg, pj, po, pl, .func (.func 89) #[.pointer (some ⟨P, 0, none⟩)] #[], .int .i64 ft]) ∧ hb = []) ∨
  (o.dn = false ∧ o.nx = 2 ∧ (∃ (ov : Value) (ot : Int) (pg pj po pl : Value) (ft : Int), cs = [.int .i64 sl, .int .i64 ky, .int .u64 (o.n : Nat), .int .u64 (o.w : Nat), ov, .int .i64 ot, pg, pj, po, pl, .func (.func 105) #[.pointer (some ⟨P, 0, none⟩)] #[], .int .i64 ft]) ∧ hb = []) ∨
  (o.dn = false ∧ o.nx = 3 ∧ (∃ (ov : Value) (ot : Int) (pg pj po pl : Value) (ft : Int), cs = [.int .i64 sl, .int .i64 ky, .int .u64 (o.n : Nat), .int .u64 (o.w : Nat), ov, .int .i64 ot, pg, pj, po, pl, .func (.func 127) #[.pointer (some ⟨P, 0, none⟩)] #[], .int .i64 ft]) ∧ hb = []) ∨
  (o.dn = false ∧ o.nx = 4 ∧ ∃ (pg po pl : Value) (ft : Int) (J L : Nat) (a : Option Addr) (c' : Nat), cs = [.int .i64 sl, .int .i64 ky, .int .u64 (o.n : Nat), .int .u64 (o.w : Nat), .func (.func 140) #[] #[.pointer (some ⟨L, 0, none⟩)], .int .i64 o.jp, pg, .pointer (some ⟨J, 0, none⟩), po, pl, .func (.func 144) #[.pointer (some ⟨P, 0, none⟩)] #[], .int .i64 ft] ∧ hb = [(L, [.slice a o.ot.tail.length c']), (J, jnL o.jp 1 sl o.n o.j)] ∧ ∀ W', (∀ p ∈ e, BlkAt W' p.1 p.2) → IsRow W' (.slice a o.ot.tail.length c') o.ot.tail) ∨
  (o.dn = false ∧ o.nx = 5 ∧ ∃ (pg pj pl : Value) (ft : Int) (OW L : Nat) (a : Option Addr) (c' : Nat), cs = [.int .i64 sl, .int .i64 ky, .int .u64 (o.n : Nat), .int .u64 (o.w : Nat), .func (.func 140) #[] #[.pointer (some ⟨L, 0, none⟩)], .int .i64 o.op, pg, pj, .pointer (some ⟨OW, 0, none⟩), pl, .func (.func 152) #[.pointer (some ⟨P, 0, none⟩)] #[], .int .i64 ft] ∧ hb = [(L, [.slice a o.ot.tail.length c']), (OW, owL sl 0 o.op o.o)] ∧ ∀ W', (∀ p ∈ e, BlkAt W' p.1 p.2) → IsRow W' (.slice a o.ot.tail.length c') o.ot.tail) ∨
  (o.dn = false ∧ o.nx = 6 ∧ ∃ (ov : Value) (ot : Int) (pg pj po : Value) (V : Nat), cs = [.int .i64 sl, .int .i64 ky, .int .u64 (o.n : Nat), .int .u64 (o.w : Nat), ov, .int .i64 ot, pg, pj, po, .pointer (some ⟨V, 0, none⟩), .func (.func 147) #[.pointer (some ⟨P, 0, none⟩)] #[], .int .i64 o.td] ∧ hb = [(V, leaL V sl o.lp o.l)])

theorem RdAt.mono {P h : Nat} {ky sl : Int} {e e' : List (Nat × List Value)} {o : Um.Rd} {cs : List Value} {hb : List (Nat × List Value)} (hA : RdAt P h ky sl e o cs hb) (hs : ∀ p ∈ e, p ∈ e') : RdAt P h ky sl e' o cs hb := by
  rcases hA with q | ⟨d, n, ov, ot, pj, po, pl, ft, G, cl, la, q1, q2, q3⟩ | q | q | q | ⟨d, n, pg, po, pl, ft, J, L, a, c', q1, q2, q3⟩ | ⟨d, n, pg, pj, pl, ft, J, L, a, c', q1, q2, q3⟩ | q
  · exact .inl q
  · exact .inr (.inl ⟨d, n, ov, ot, pj, po, pl, ft, G, cl, la, q1.mono hs, q2, q3⟩)
  · exact .inr (.inr (.inl q))
  · exact .inr (.inr (.inr (.inl q)))
  · exact .inr (.inr (.inr (.inr (.inl q))))
  · exact .inr (.inr (.inr (.inr (.inr (.inl ⟨d, n, pg, po, pl, ft, J, L, a, c', q1, q2, fun W' hW => q3 W' (fun p hp => hW p (hs p hp))⟩)))))
  · exact .inr (.inr (.inr (.inr (.inr (.inr (.inl ⟨d, n, pg, pj, pl, ft, J, L, a, c', q1, q2, fun W' hW => q3 W' (fun p hp => hW p (hs p hp))⟩))))))
  · exact .inr (.inr (.inr (.inr (.inr (.inr (.inr q))))))

theorem RdAt.setR {P h : Nat} {ky sl : Int} {e : List (Nat × List Value)} {o : Um.Rd} {cs : List Value} {hb : List (Nat × List Value)} (hA : RdAt P h ky sl e o cs hb) (m : Um.Mm) : RdAt P h ky sl e (Um.setR m o) cs hb := hA

theorem rd_nil {o : Um.Rd} (h : o.ot = []) : Um.rdgo o = Um.rdlv o (-1) 0 := by unfold Um.rdgo; rw [h]

theorem rd_cons {o : Um.Rd} {x : Int} {r : List Int} (h : o.ot = x :: r) : Um.rdgo o = { o with j := Um.jnew o.m, jp := x, ja := true, nx := 4 } := by unfold Um.rdgo; rw [h]

/-- behind 'another' -/
theorem an_rd {P L h : Nat} {ky sl : Int} {e : List (Nat × List Value)} {cs ls xc : List Value} {X : Nat} {o : Um.Rd} (hd : o.dn = false) (hA : AnP P L sl ky o.n o.w o.m e o.ot cs ls X xc) : ∃ hb, RdAt P h ky sl e (Um.rdgo o) cs hb ∧ hb.Sublist [(L, ls), (X, xc)] ∧ (Um.rdgo o).m = o.m := by
  rcases hA with ⟨h0, ⟨ot, pg, pj, po, rfl⟩, rfl⟩ | ⟨x, r, a, c', h0, ⟨pg, po, pl, ft, rfl⟩, rfl, rfl, hI⟩
  · rw [rd_nil h0]
    exact ⟨[(X, leaL X sl (-1) (Um.lnew o.m))], .inr (.inr (.inr (.inr (.inr (.inr (.inr ⟨hd, rfl, _, _, _, _, _, X, rfl, rfl⟩)))))), .cons _ (.cons_cons _ .slnil), rfl⟩
  · rw [rd_cons h0]
    have ht : o.ot.tail = r := by rw [h0]; rfl
    refine ⟨[(L, [.slice a r.length c']), (X, jnL x 1 sl o.n (Um.jnew o.m))], .inr (.inr (.inr (.inr (.inr (.inl ⟨hd, rfl, pg, po, pl, ft, X, L, a, c', rfl, ?_, ?_⟩))))), List.Sublist.refl _, rfl⟩
    · show [(L, [Value.slice a r.length c']), (X, _)] = [(L, [Value.slice a o.ot.tail.length c']), (X, _)]
      rw [ht]
    · show ∀ W', (∀ p ∈ e, BlkAt W' p.1 p.2) → IsRow W' (.slice a o.ot.tail.length c') o.ot.tail
      rw [ht]
      exact hI

theorem put3_rot {l : List (Nat × List Value)} {i j k : Nat} {a b d : Nat × List Value} (hij : i ≠ j) (hik : i ≠ k) (hjk : j ≠ k) : putL l [(k, d), (i, a), (j, b)] = putL l [(i, a), (j, b), (k, d)] := by
  show ((l.set k d).set i a).set j b = ((l.set i a).set j b).set k d
  rw [List.set_comm d a hik.symm, List.set_comm d b hjk.symm]

section
variable {bs : List Nat} {w0 w w' : World} {l e hb hb' sb : List (Nat × List Value)} {B C P : Nat} {c : Um.Cf} {h : Nat} {sl ky : Int} {cs cs' : List Value}

theorem Sx.sublist (hS : Sx bs w0 w l e) {l' : List (Nat × List Value)} (s : l'.Sublist l) : Sx bs w0 w l' e := hS.sub (fun p hp => s.subset hp) (hS.nd.sublist s) (fun p hp => hp)

/-- what a callee hands back, in the caller's list -/
theorem rd_back (hS : Sx bs w0 w (l ++ hb) e) (i j k : Nat) {m M : Um.Mm} (hi : l[i]? = some (B, memL c C m)) (hj : l[j]? = some (C, rowW m.ws c.n)) (hk : l[k]? = some (P, cs)) (hij : i ≠ j) (hik : i ≠ k) (hjk : j ≠ k)
    (hL : Sx (P :: B :: C :: hb.map (·.1)) w w' ((P, cs') :: (B, memL c C M) :: (C, rowW M.ws c.n) :: hb') (e ++ sb)) (hsb : ∀ p ∈ sb, w.heap.size ≤ p.1) :
    Sx bs w0 w' (putL l [(i, B, memL c C M), (j, C, rowW M.ws c.n), (k, P, cs')] ++ hb') (e ++ sb) := by
  have h9 := hS.backs k i j hk hi hj hL hsb
  rwa [put3_rot hij hik hjk] at h9

theorem rd_back0 (hS : Sx bs w0 w (l ++ hb) e) (i j k : Nat) {m M : Um.Mm} (hi : l[i]? = some (B, memL c C m)) (hj : l[j]? = some (C, rowW m.ws c.n)) (hk : l[k]? = some (P, cs)) (hij : i ≠ j) (hik : i ≠ k) (hjk : j ≠ k)
    (hL : Sx (P :: B :: C :: hb.map (·.1)) w w' ((P, cs') :: (B, memL c C M) :: (C, rowW M.ws c.n) :: hb') e) :
    Sx bs w0 w' (putL l [(i, B, memL c C M), (j, C, rowW M.ws c.n), (k, P, cs')] ++ hb') (e ++ []) :=
  rd_back hS i j k hi hj hk hij hik hjk (sb := []) (by rw [List.append_nil]; exact hL) (fun p hp => by cases hp)

theorem RdAt.nil {o : Um.Rd} (hA : RdAt P h ky sl e o cs hb) : RdAt P h ky sl (e ++ []) o cs hb := by rw [List.append_nil]; exact hA

theorem rdStep_any (hS : Sx bs w0 w (l ++ hb) e) (i j k : Nat) (o O : Um.Rd) (hO : O = Um.rdstep c h inn12 ky sl o) (hA : RdAt P h ky sl e o cs hb) (hi : l[i]? = some (B, memL c C o.m)) (hj : l[j]? = some (C, rowW o.m.ws c.n)) (hk : l[k]? = some (P, cs)) (hij : i ≠ j) (hik : i ≠ k) (hjk : j ≠ k) (hr : c.r = true) (hh : Um.Word h) (ho : Um.Rok c o) (hn : o.dn = false → Um.ook h c.s = true) (hsb : -9223372036854775808 ≤ sl ∧ sl ≤ 9223372036854775807) (hkb : -9223372036854775808 ≤ ky ∧ ky ≤ 9223372036854775807) :
    Calls Tryz.prog 17 #[.pointer (some ⟨P, 0, none⟩), .pointer (some ⟨B, 0, none⟩)] w fun r w' => r = .returned (.tuple #[]) ∧ Um.Rok c O ∧ ∃ cs' hb' sb, RdAt P h ky sl (e ++ sb) O cs' hb' ∧ Sx bs w0 w' (putL l [(i, B, memL c C O.m), (j, C, rowW O.m.ws c.n), (k, P, cs')] ++ hb') (e ++ sb) := by
  have hO' : Um.Rok c O := hO ▸ Um.rok_step ho
  have hK := hS.enters k i j hk hi hj hik.symm hjk.symm hij
  rcases hA with ⟨hd, ⟨v0, v1, v2, v3, v4, v5, v6, v7, v8, v9, rfl⟩, rfl⟩ | ⟨hd, q, ov, ot, pj, po, pl, ft, G, cl, la, hSt, rfl, rfl⟩ | ⟨hd, q, ⟨ov, ot, pg, pj, po, pl, ft, rfl⟩, rfl⟩ | ⟨hd, q, ⟨ov, ot, pg, pj, po, pl, ft, rfl⟩, rfl⟩ | ⟨hd, q, ⟨ov, ot, pg, pj, po, pl, ft, rfl⟩, rfl⟩ | ⟨hd, q, pg, po, pl, ft, J, L, a, c', rfl, rfl, hI⟩ | ⟨hd, q, pg, pj, pl, ft, OW, L, a, c', rfl, rfl, hI⟩ | ⟨hd, q, ov, ot, pg, pj, po, V, rfl, rfl⟩
  · have eO : O = o := by rw [hO]; exact Um.rdstep_done hd
    subst eO
    refine (rStep_done (hK.get 0 rfl) rfl _).mono ?_
    rintro r w' ⟨rfl, rfl⟩
    exact ⟨rfl, hO', _, [], [], RdAt.nil (.inl ⟨hd, ⟨_, _, _, _, _, _, _, _, _, _, rfl⟩, rfl⟩), rd_back0 hS i j k hi hj hk hij hik hjk hK⟩
  · have hn' := hn hd
    obtain ⟨g, hg⟩ : ∃ g, g = Um.estep c h inn12 (Um.setE o.m o.g) := ⟨_, rfl⟩
    have eO : O = Um.rd0 o g := by rw [hO, hg]; exact Um.step0 hd q
    unfold Um.rd0 at eO
    cases hen : g.en with
    | false =>
      rw [if_neg (by rw [hen]; decide)] at eO
      subst eO
      refine (rStep_enter (hK.get 0 rfl) (rEnter_a (Z := st12) (g := Um.setE o.m o.g) hK hr hg (ho.k.g o.m ho.wd) hh (by decide) hSt hn' hen)).mono ?_
      rintro r w' ⟨rfl, _, hSn⟩
      exact ⟨rfl, hO', _, _, [], RdAt.nil (.inr (.inl ⟨hd, q, ov, ot, pj, po, pl, ft, G, cl, la, hSt, rfl, rfl⟩)), rd_back0 hS i j k hi hj hk hij hik hjk hSn⟩
    | true =>
      rw [if_pos hen] at eO
      by_cases he : g.e = 0
      · subst eO
        refine (rStep_enter (hK.get 0 rfl) (rEnter_c (Z := st12) (g := Um.setE o.m o.g) hK hr hg (ho.k.g o.m ho.wd) hh (by decide) hSt hn' hen he)).mono ?_
        rintro r w' ⟨rfl, _, hSn⟩
        exact ⟨rfl, hO', _, [], [], RdAt.nil (.inr (.inr (.inl ⟨decide_eq_false (by simpa using he), rfl, ⟨_, _, _, _, _, _, _, rfl⟩, rfl⟩))), rd_back0 hS i j k hi hj hk hij hik hjk (hSn.sublist (.cons_cons _ (.cons_cons _ (.cons_cons _ (.cons _ .slnil)))))⟩
      · subst eO
        refine (rStep_enter (hK.get 0 rfl) (rEnter_b (Z := st12) (g := Um.setE o.m o.g) hK hr hg (ho.k.g o.m ho.wd) hh (by decide) hSt hn' hen he)).mono ?_
        rintro r w' ⟨rfl, _, hSn⟩
        exact ⟨rfl, hO', _, [], [], RdAt.nil (.inl ⟨decide_eq_true he, ⟨_, _, _, _, _, _, _, _, _, _, rfl⟩, rfl⟩), rd_back0 hS i j k hi hj hk hij hik hjk (hSn.sublist (.cons_cons _ (.cons_cons _ (.cons_cons _ (.cons _ .slnil)))))⟩
  · have eO : O = Um.rd1 o (Um.mtouch c o.m 1 5 sl 0 0) := by rw [hO]; exact Um.step1 hd q
    subst eO
    refine (rStep_snapshot (hK.get 0 rfl) (rSnap_x hK hr ho.wd hsb hkb _ rfl)).mono ?_
    rintro r w' ⟨rfl, _, hSn⟩
    exact ⟨rfl, hO', _, [], [], RdAt.nil (.inr (.inr (.inr (.inl ⟨hd, rfl, ⟨_, _, _, _, _, _, _, rfl⟩, rfl⟩)))), rd_back0 hS i j k hi hj hk hij hik hjk hSn⟩
  · obtain ⟨M, hM⟩ : ∃ M, M = Um.mtouch c o.m 1 8 ky 0 0 := ⟨_, rfl⟩
    have eO : O = Um.rd2 sl o M := by rw [hO, hM]; exact Um.step2 hd q
    unfold Um.rd2 at eO
    cases hx : Um.hasN M.l.old 0 sl with
    | false =>
      rw [if_neg (by rw [hx]; decide)] at eO
      subst eO
      refine (rStep_look (hK.get 0 rfl) (rLook_n hK hr ho.wd hsb hkb M hM hx)).mono ?_
      rintro r w' ⟨rfl, _, hSn⟩
      exact ⟨rfl, hO', _, [], [], RdAt.nil (.inr (.inr (.inr (.inr (.inl ⟨hd, rfl, ⟨_, _, _, _, _, _, _, rfl⟩, rfl⟩))))), rd_back0 hS i j k hi hj hk hij hik hjk hSn⟩
    | true =>
      rw [if_pos hx] at eO
      refine (rStep_look (Q := fun w' => ∃ L cs2 ls X xc sb, AnP P L sl ky o.n M.l.old M (e ++ sb) (Um.othersN M.l.old 1 sl) cs2 ls X xc ∧ (∀ p ∈ sb, w.heap.size ≤ p.1) ∧ WordsOk c M ∧ Sx [P, B, C] w w' [(P, cs2), (B, memL c C M), (C, rowW M.ws c.n), (L, ls), (X, xc)] (e ++ sb)) (hK.get 0 rfl) ((rLook_t hK hr ho.wd hsb hkb M hM hx).mono ?_)).mono ?_
      · rintro r w' ⟨L, cs2, ls, X, xc, sb, e1, e2⟩
        exact ⟨e1, L, cs2, ls, X, xc, sb, e2⟩
      rintro r w' ⟨rfl, L, cs2, ls, X, xc, sb, hAn, hsb2, _, hSn⟩
      obtain ⟨hb2, a1, a2, a3⟩ := an_rd (h := h) (o := { o with m := M, w := M.l.old, nx := 3, ot := Um.othersN M.l.old 1 sl }) hd hAn
      have eO2 : O = Um.rdgo { o with m := M, w := M.l.old, nx := 3, ot := Um.othersN M.l.old 1 sl } := eO
      rw [← eO2] at a1 a3
      have a4 : O.m = M := a3
      rw [a4]
      exact ⟨rfl, hO', cs2, hb2, sb, a1, rd_back hS i j k hi hj hk hij hik hjk (hSn.sublist (.cons_cons _ (.cons_cons _ (.cons_cons _ a2)))) hsb2⟩
  · obtain ⟨M, hM⟩ : ∃ M, M = Um.mtouch c o.m 3 8 ky o.w (Um.withN o.w 0 sl) := ⟨_, rfl⟩
    have eO : O = Um.rd3 sl o M := by rw [hO, hM]; exact Um.step3 hd q
    unfold Um.rd3 at eO
    cases hx : M.l.done with
    | false =>
      rw [if_neg (by rw [hx]; decide)] at eO
      subst eO
      refine (rStep_mark (hK.get 0 rfl) (rMark_f hK hr ho.wd hsb hkb M hM ho.k.w hx)).mono ?_
      rintro r w' ⟨rfl, _, hSn⟩
      exact ⟨rfl, hO', _, [], [], RdAt.nil (.inr (.inr (.inr (.inl ⟨hd, rfl, ⟨_, _, _, _, _, _, _, rfl⟩, rfl⟩)))), rd_back0 hS i j k hi hj hk hij hik hjk hSn⟩
    | true =>
      rw [if_pos hx] at eO
      refine (rStep_mark (Q := fun w' => ∃ L cs2 ls X xc sb, AnP P L sl ky o.n o.w M (e ++ sb) (Um.othersN o.w 1 sl) cs2 ls X xc ∧ (∀ p ∈ sb, w.heap.size ≤ p.1) ∧ WordsOk c M ∧ Sx [P, B, C] w w' [(P, cs2), (B, memL c C M), (C, rowW M.ws c.n), (L, ls), (X, xc)] (e ++ sb)) (hK.get 0 rfl) ((rMark_t hK hr ho.wd hsb hkb M hM ho.k.w hx).mono ?_)).mono ?_
      · rintro r w' ⟨L, cs2, ls, X, xc, sb, e1, e2⟩
        exact ⟨e1, L, cs2, ls, X, xc, sb, e2⟩
      rintro r w' ⟨rfl, L, cs2, ls, X, xc, sb, hAn, hsb2, _, hSn⟩
      obtain ⟨hb2, a1, a2, a3⟩ := an_rd (h := h) (o := { o with m := M, nx := 2, ot := Um.othersN o.w 1 sl }) hd hAn
      have eO2 : O = Um.rdgo { o with m := M, nx := 2, ot := Um.othersN o.w 1 sl } := eO
      rw [← eO2] at a1 a3
      have a4 : O.m = M := a3
      rw [a4]
      exact ⟨rfl, hO', cs2, hb2, sb, a1, rd_back hS i j k hi hj hk hij hik hjk (hSn.sublist (.cons_cons _ (.cons_cons _ (.cons_cons _ a2)))) hsb2⟩
  · obtain ⟨j2, hj2⟩ : ∃ j2, j2 = Um.jstep c o.jp 1 sl o.n (Um.setJ o.m o.j) := ⟨_, rfl⟩
    have eO : O = Um.rd4 o j2 := by rw [hO, hj2]; exact Um.step4 hd q
    have hx : -9223372036854775808 ≤ o.jp ∧ o.jp ≤ 9223372036854775807 := by have := ho.k.jp; omega
    have hJ := ho.k.j o.m ho.wd
    have hJ2 : Um.Jok c j2 := hj2 ▸ Um.jstep_ok hJ
    have hr3 := hJ2.r
    unfold Um.rd4 at eO
    by_cases r1 : j2.r = 1
    · rw [if_pos r1] at eO
      refine (rStep_join (Q := fun w' => ∃ cs2 ls X xc, AnP P L sl ky o.n o.w j2.m e o.ot.tail cs2 ls X xc ∧ Um.Jok c j2 ∧ Sx (P :: B :: C :: [(L, [.slice a o.ot.tail.length c']), (J, jnL o.jp 1 sl o.n o.j)].map (·.1)) w w' [(P, cs2), (B, memL c C j2.m), (C, rowW j2.m.ws c.n), (L, ls), (J, jnL o.jp 1 sl o.n j2), (X, xc)] e) (hK.get 0 rfl) ((rJoin_1 (j := Um.setJ o.m o.j) hK hr hj2 hJ hx hI r1).mono ?_)).mono ?_
      · rintro r w' ⟨cs2, ls, X, xc, e1, e2⟩
        exact ⟨e1, cs2, ls, X, xc, e2⟩
      rintro r w' ⟨rfl, cs2, ls, X, xc, hAn, _, hSn⟩
      obtain ⟨hb2, a1, a2, a3⟩ := an_rd (h := h) (o := { o with m := j2.m, j := j2, ot := o.ot.tail }) hd hAn
      rw [← eO] at a1 a3
      have a4 : O.m = j2.m := a3
      rw [a4]
      exact ⟨rfl, hO', cs2, hb2, [], RdAt.nil a1, rd_back0 hS i j k hi hj hk hij hik hjk (hSn.sublist (.cons_cons _ (.cons_cons _ (.cons_cons _ (a2.trans (.cons_cons _ (.cons _ (.cons_cons _ .slnil))))))))⟩
    rw [if_neg r1] at eO
    by_cases r2 : j2.r = 2
    · rw [if_pos r2] at eO
      refine (rStep_join (Q := fun w' => ∃ OW, Um.Jok c j2 ∧ Sx (P :: B :: C :: [(L, [.slice a o.ot.tail.length c']), (J, jnL o.jp 1 sl o.n o.j)].map (·.1)) w w' [(P, [.int .i64 sl, .int .i64 ky, .int .u64 (o.n : Nat), .int .u64 (o.w : Nat), .func (.func 140) #[] #[.pointer (some ⟨L, 0, none⟩)], .int .i64 o.jp, pg, .pointer (some ⟨J, 0, none⟩), .pointer (some ⟨OW, 0, none⟩), pl, .func (.func 152) #[.pointer (some ⟨P, 0, none⟩)] #[], .int .i64 ft]), (B, memL c C j2.m), (C, rowW j2.m.ws c.n), (L, [.slice a o.ot.tail.length c']), (J, jnL o.jp 1 sl o.n j2), (OW, owL sl 0 o.jp (Um.lnew j2.m))] e) (hK.get 0 rfl) ((rJoin_2 (j := Um.setJ o.m o.j) hK hr hj2 hJ hx r2).mono ?_)).mono ?_
      · rintro r w' ⟨OW, e1, e2⟩
        exact ⟨e1, OW, e2⟩
      rintro r w' ⟨rfl, OW, _, hSn⟩
      subst eO
      exact ⟨rfl, hO', _, _, [], RdAt.nil (.inr (.inr (.inr (.inr (.inr (.inr (.inl ⟨hd, rfl, _, _, _, _, OW, L, a, c', rfl, rfl, hI⟩))))))), rd_back0 hS i j k hi hj hk hij hik hjk (hSn.sublist (.cons_cons _ (.cons_cons _ (.cons_cons _ (.cons_cons _ (.cons _ (.cons_cons _ .slnil)))))))⟩
    rw [if_neg r2] at eO
    by_cases r3 : j2.r = 3
    · rw [if_pos r3] at eO
      refine (rStep_join (Q := fun w' => ∃ V, Um.Jok c j2 ∧ Sx (P :: B :: C :: [(L, [.slice a o.ot.tail.length c']), (J, jnL o.jp 1 sl o.n o.j)].map (·.1)) w w' [(P, [.int .i64 sl, .int .i64 ky, .int .u64 (o.n : Nat), .int .u64 (o.w : Nat), .func (.func 140) #[] #[.pointer (some ⟨L, 0, none⟩)], .int .i64 o.jp, pg, .pointer (some ⟨J, 0, none⟩), po, .pointer (some ⟨V, 0, none⟩), .func (.func 147) #[.pointer (some ⟨P, 0, none⟩)] #[], .int .i64 7]), (B, memL c C j2.m), (C, rowW j2.m.ws c.n), (L, [.slice a o.ot.tail.length c']), (J, jnL o.jp 1 sl o.n j2), (V, leaL V sl 5 (Um.lnew j2.m))] e) (hK.get 0 rfl) ((rJoin_3 (j := Um.setJ o.m o.j) hK hr hj2 hJ hx r3).mono ?_)).mono ?_
      · rintro r w' ⟨V, e1, e2⟩
        exact ⟨e1, V, e2⟩
      rintro r w' ⟨rfl, V, _, hSn⟩
      subst eO
      exact ⟨rfl, hO', _, _, [], RdAt.nil (.inr (.inr (.inr (.inr (.inr (.inr (.inr ⟨hd, rfl, _, _, _, _, _, V, rfl, rfl⟩))))))), rd_back0 hS i j k hi hj hk hij hik hjk (hSn.sublist (.cons_cons _ (.cons_cons _ (.cons_cons _ (.cons _ (.cons _ (.cons_cons _ .slnil)))))))⟩
    · rw [if_neg r3] at eO
      have r0 : j2.r = 0 := by omega
      subst eO
      refine (rStep_join (hK.get 0 rfl) (rJoin_0 (j := Um.setJ o.m o.j) hK hr hj2 hJ hx r0)).mono ?_
      rintro r w' ⟨rfl, _, hSn⟩
      exact ⟨rfl, hO', _, _, [], RdAt.nil (.inr (.inr (.inr (.inr (.inr (.inl ⟨hd, q, _, _, _, _, J, L, a, c', rfl, rfl, hI⟩)))))), rd_back0 hS i j k hi hj hk hij hik hjk hSn⟩
  · obtain ⟨v2, hv2⟩ : ∃ v2, v2 = Um.wstep c sl 0 o.op (Um.setLs o.m o.o) := ⟨_, rfl⟩
    have eO : O = Um.rd5 o v2 := by rw [hO, hv2]; exact Um.step5 hd q
    have hV := ho.k.v o.m ho.wd
    unfold Um.rd5 at eO
    cases hx : v2.dn with
    | true =>
      rw [if_pos hx] at eO
      refine (rStep_own (Q := fun w' => ∃ cs2 ls X xc, AnP P L sl ky o.n o.w v2.m e o.ot.tail cs2 ls X xc ∧ Um.Lok c v2 ∧ Sx (P :: B :: C :: [(L, [.slice a o.ot.tail.length c']), (OW, owL sl 0 o.op o.o)].map (·.1)) w w' [(P, cs2), (B, memL c C v2.m), (C, rowW v2.m.ws c.n), (L, ls), (OW, owL sl 0 o.op v2), (X, xc)] e) (hK.get 0 rfl) ((rOwn_1 (v := Um.setLs o.m o.o) hK hr hv2 hV hsb hI hx).mono ?_)).mono ?_
      · rintro r w' ⟨cs2, ls, X, xc, e1, e2⟩
        exact ⟨e1, cs2, ls, X, xc, e2⟩
      rintro r w' ⟨rfl, cs2, ls, X, xc, hAn, _, hSn⟩
      obtain ⟨hb2, a1, a2, a3⟩ := an_rd (h := h) (o := { o with m := v2.m, o := v2, ot := o.ot.tail }) hd hAn
      rw [← eO] at a1 a3
      have a4 : O.m = v2.m := a3
      rw [a4]
      exact ⟨rfl, hO', cs2, hb2, [], RdAt.nil a1, rd_back0 hS i j k hi hj hk hij hik hjk (hSn.sublist (.cons_cons _ (.cons_cons _ (.cons_cons _ (a2.trans (.cons_cons _ (.cons _ (.cons_cons _ .slnil))))))))⟩
    | false =>
      rw [if_neg (by rw [hx]; decide)] at eO
      subst eO
      refine (rStep_own (hK.get 0 rfl) (rOwn_0 (xs := []) (v := Um.setLs o.m o.o) hK hr hv2 hV hsb hx)).mono ?_
      rintro r w' ⟨rfl, _, hSn⟩
      exact ⟨rfl, hO', _, _, [], RdAt.nil (.inr (.inr (.inr (.inr (.inr (.inr (.inl ⟨hd, q, _, _, _, _, OW, L, a, c', rfl, rfl, hI⟩))))))), rd_back0 hS i j k hi hj hk hij hik hjk hSn⟩
  · obtain ⟨v2, hv2⟩ : ∃ v2, v2 = Um.lstep c sl o.lp (Um.setLs o.m o.l) := ⟨_, rfl⟩
    have eO : O = Um.rd6 o v2 := by rw [hO, hv2]; exact Um.step6 hd q
    have hV := ho.k.l o.m ho.wd
    unfold Um.rd6 at eO
    cases hx : v2.dn with
    | true =>
      rw [if_pos hx] at eO
      subst eO
      refine (rStep_leave (hK.get 0 rfl) (rLeave_1 (v := Um.setLs o.m o.l) hK hr hv2 hV hsb hx)).mono ?_
      rintro r w' ⟨rfl, _, hSn⟩
      exact ⟨rfl, hO', _, [], [], RdAt.nil (.inl ⟨rfl, ⟨_, _, _, _, _, _, _, _, _, _, rfl⟩, rfl⟩), rd_back0 hS i j k hi hj hk hij hik hjk (hSn.sublist (.cons_cons _ (.cons_cons _ (.cons_cons _ (.cons _ .slnil)))))⟩
    | false =>
      rw [if_neg (by rw [hx]; decide)] at eO
      subst eO
      refine (rStep_leave (hK.get 0 rfl) (rLeave_0 (v := Um.setLs o.m o.l) hK hr hv2 hV hsb hx)).mono ?_
      rintro r w' ⟨rfl, _, hSn⟩
      exact ⟨rfl, hO', _, _, [], RdAt.nil (.inr (.inr (.inr (.inr (.inr (.inr (.inr ⟨hd, q, _, _, _, _, _, V, rfl, rfl⟩))))))), rd_back0 hS i j k hi hj hk hij hik hjk hSn⟩

end

end Go.Proofs.YtapgghciieloaaaGreat

/-
  A new read; is it done, its error; a step beside others' blocks; to its end; what the laws read.
-/
namespace Go.Proofs.YtapgghciieloaaaGreat
set_option maxRecDepth 100000
open Go.RowKit Go.Sort
set_option linter.unusedVariables false
set_option linter.unusedSimpArgs false

/-- the same blocks, told in another order -/
theorem Sx.perm12 {bs : List Nat} {w0 w : World} {l l' e : List (Nat × List Value)} (h : Sx bs w0 w l e) (p : l'.Perm l) : Sx bs w0 w l' e :=
  ⟨h.off, fun q hq => h.low q (p.mem_iff.1 hq), fun q hq => h.blk q (p.mem_iff.1 hq), (p.pairwise_iff (fun hab => Ne.symm hab)).2 h.nd, h.eb, fun q hq r hr => h.ed q hq r (p.mem_iff.1 hr)⟩

theorem perm_new {l hx n hb : List (Nat × List Value)} : ((l ++ n) ++ (hx ++ hb)).Perm ((l ++ hx) ++ (n ++ hb)) := by
  rw [List.append_assoc, List.append_assoc]
  refine List.Perm.append_left l ?_
  rw [← List.append_assoc, ← List.append_assoc]
  exact List.Perm.append_right hb List.perm_append_comm

theorem perm_two {l x y : List (Nat × List Value)} : (l ++ (x ++ y)).Perm (l ++ (y ++ x)) := List.Perm.append_left l List.perm_append_comm

section
variable {bs : List Nat} {w0 w : World} {l e hb hx : List (Nat × List Value)} {B C P : Nat} {c : Um.Cf} {h : Nat} {sl ky : Int} {cs : List Value}

theorem rdDone_any {o : Um.Rd} (hA : RdAt P h ky sl e o cs hb) (hB : BlkAt w P cs) : Calls Tryz.prog 14 #[.pointer (some ⟨P, 0, none⟩)] w fun r w' => r = .returned (.bool o.dn) ∧ w' = w := by
  rcases hA with ⟨hd, ⟨v0, v1, v2, v3, v4, v5, v6, v7, v8, v9, rfl⟩, _⟩ | ⟨hd, q, ov, ot, pj, po, pl, ft, G, cl, la, hSt, rfl, _⟩ | ⟨hd, q, ⟨ov, ot, pg, pj, po, pl, ft, rfl⟩, _⟩ | ⟨hd, q, ⟨ov, ot, pg, pj, po, pl, ft, rfl⟩, _⟩ | ⟨hd, q, ⟨ov, ot, pg, pj, po, pl, ft, rfl⟩, _⟩ | ⟨hd, q, pg, po, pl, ft, J, L, a, c', rfl, _, hI⟩ | ⟨hd, q, pg, pj, pl, ft, OW, L, a, c', rfl, _, hI⟩ | ⟨hd, q, ov, ot, pg, pj, po, V, rfl, _⟩ <;> rw [hd]
  · exact rDone_n hB rfl
  all_goals exact rDone_f _ _ _ hB rfl

theorem rdError_any {o : Um.Rd} (hA : RdAt P h ky sl e o cs hb) (h0 : o.dn = false → o.e = 0) (hB : BlkAt w P cs) : Calls Tryz.prog 15 #[.pointer (some ⟨P, 0, none⟩)] w fun r w' => r = .returned (.int .i64 o.e) ∧ w' = w := by
  rcases hA with ⟨hd, ⟨v0, v1, v2, v3, v4, v5, v6, v7, v8, v9, rfl⟩, _⟩ | ⟨hd, q, ov, ot, pj, po, pl, ft, G, cl, la, hSt, rfl, _⟩ | ⟨hd, q, ⟨ov, ot, pg, pj, po, pl, ft, rfl⟩, _⟩ | ⟨hd, q, ⟨ov, ot, pg, pj, po, pl, ft, rfl⟩, _⟩ | ⟨hd, q, ⟨ov, ot, pg, pj, po, pl, ft, rfl⟩, _⟩ | ⟨hd, q, pg, po, pl, ft, J, L, a, c', rfl, _, hI⟩ | ⟨hd, q, pg, pj, pl, ft, OW, L, a, c', rfl, _, hI⟩ | ⟨hd, q, ov, ot, pg, pj, po, V, rfl, _⟩
  · exact rError_n hB rfl rfl
  all_goals
    rw [h0 hd]
    exact rError_f _ _ _ hB rfl

set_option maxHeartbeats 2000000 in
theorem gNew_f (h : Nat) (hh : Um.Word h) {la : Option Addr} {nl cl : Nat} {Z : Nat → Int} (hT : Told w la nl cl Z) :
    Calls Tryz.prog 44 #[.int .u64 (h : Nat), .slice la nl cl] w fun r w' => ∃ P la' cl' sb, r = .returned (.pointer (some ⟨P, 0, none⟩)) ∧ StB la' nl Z sb ∧ (∀ p ∈ sb, w.heap.size ≤ p.1) ∧ Sx [] w w' [(P, [.int .i64 (Um.svN h), .int .u64 ((0 : Nat) : Int), .int .u64 (h : Nat), .slice la' nl cl', .func (.func 85) #[.pointer (some ⟨P, 0, none⟩)] #[], .int .i64 0, .int .u64 ((0 : Nat) : Int)])] sb := by
  have HT := hide hT
  have HH := hide hh
  clear hT hh
  have hS := Sx.new w
  go_enter Tryz.func44, Tryz.ntmps44
  go_wp2_with fail
  refine (kSlot_any h _ (unhide HH)).mono ?_
  rintro r u ⟨rfl, hb⟩
  replace hS := hS.call hb
  clear hb
  go_wp2_with (first | (refine ybox hS (h := ?_); clear hS; intro _ _ hS) | (refine yall hS (h := ?_); clear hS; intro _ _ hS) | refine yld hS (h := ?_) | (refine yst hS (h := ?_); clear hS; intro _ hS))
  have HSZ := hS.bel.size
  refine (gClone_x hS ((unhide HT).below hS.bel)).mono ?_
  rintro r u ⟨la', cl', sb, rfl, hSB, hLO, hSn⟩
  clear hS
  have hS := hSn
  clear hSn
  dsimp only [putL, List.set, List.cons_append, List.nil_append] at hS
  have HSB := hide hSB
  have HLO := hide (fun p hp => Nat.le_trans HSZ (hLO p hp))
  clear hSB hLO HSZ
  go_wp2_with (first | (refine ybox hS (h := ?_); clear hS; intro _ _ hS) | (refine yall hS (h := ?_); clear hS; intro _ _ hS) | refine yld hS (h := ?_) | (refine yst hS (h := ?_); clear hS; intro _ hS))
  go_ret
  obtain ⟨P, rfl⟩ := nameB hS 0 rfl
  exact ⟨P, la', cl', sb, rfl, unhide HSB, unhide HLO, hS⟩

set_option maxHeartbeats 2000000 in
theorem rdNew_k1 (w : World) (c : Um.Cf) (h : Nat) (ky : Int) (hk : ky < 0) :
    Calls Tryz.prog 11 #[(.agg #[.int .i64 (c.t), .int .i64 (c.s), .int .i64 (c.k), .int .i64 (c.g), .int .u64 (c.q : Int)]), .int .u64 (h : Nat), .int .i64 ky] w fun r w' => ∃ P, r = .returned (.pointer (some ⟨P, 0, none⟩)) ∧ Sx [] w w' [(P, [.int .i64 0, .int .i64 0, .int .u64 0, .int .u64 0, .nilFunc, .int .i64 0, .pointer none, .pointer none, .pointer none, .pointer none, .nilFunc, .int .i64 5])] [] := by
  have hS := Sx.new w
  have d1 : decide (ky < 0) = true := decide_eq_true hk
  go_enter Tryz.func11, Tryz.ntmps11
  go_wp2_with (first | (refine ybox hS (h := ?_); clear hS; intro _ _ hS) | (refine yall hS (h := ?_); clear hS; intro _ _ hS) | refine yld hS (h := ?_) | (refine yst hS (h := ?_); clear hS; intro _ hS))
  go_ret
  obtain ⟨P, rfl⟩ := nameB hS 1 rfl
  exact ⟨P, rfl, hS.sublist (.cons _ (.cons_cons _ .slnil))⟩

set_option maxHeartbeats 2000000 in
theorem rdNew_k2 (w : World) (c : Um.Cf) (h : Nat) (ky : Int) (hk : ¬ ky < 0) (hk2 : c.k ≤ ky) :
    Calls Tryz.prog 11 #[(.agg #[.int .i64 (c.t), .int .i64 (c.s), .int .i64 (c.k), .int .i64 (c.g), .int .u64 (c.q : Int)]), .int .u64 (h : Nat), .int .i64 ky] w fun r w' => ∃ P, r = .returned (.pointer (some ⟨P, 0, none⟩)) ∧ Sx [] w w' [(P, [.int .i64 0, .int .i64 0, .int .u64 0, .int .u64 0, .nilFunc, .int .i64 0, .pointer none, .pointer none, .pointer none, .pointer none, .nilFunc, .int .i64 5])] [] := by
  have hS := Sx.new w
  have d1 : decide (ky < 0) = false := decide_eq_false hk
  have d2 : decide (c.k ≤ ky) = true := decide_eq_true hk2
  go_enter Tryz.func11, Tryz.ntmps11
  go_wp2_with (first | (refine ybox hS (h := ?_); clear hS; intro _ _ hS) | (refine yall hS (h := ?_); clear hS; intro _ _ hS) | refine yld hS (h := ?_) | (refine yst hS (h := ?_); clear hS; intro _ hS))
  go_ret
  obtain ⟨P, rfl⟩ := nameB hS 1 rfl
  exact ⟨P, rfl, hS.sublist (.cons _ (.cons_cons _ .slnil))⟩

set_option maxHeartbeats 2000000 in
theorem rdNew_no (w : World) (c : Um.Cf) (h : Nat) (ky : Int) (hk : ¬ ky < 0) (hk2 : ¬ c.k ≤ ky) (hn : Um.ook h c.s = false) (hh : Um.Word h) :
    Calls Tryz.prog 11 #[(.agg #[.int .i64 (c.t), .int .i64 (c.s), .int .i64 (c.k), .int .i64 (c.g), .int .u64 (c.q : Int)]), .int .u64 (h : Nat), .int .i64 ky] w fun r w' => ∃ P, r = .returned (.pointer (some ⟨P, 0, none⟩)) ∧ Sx [] w w' [(P, [.int .i64 0, .int .i64 0, .int .u64 0, .int .u64 0, .nilFunc, .int .i64 0, .pointer none, .pointer none, .pointer none, .pointer none, .nilFunc, .int .i64 2])] [] := by
  have hS := Sx.new w
  have d1 : decide (ky < 0) = false := decide_eq_false hk
  have d2 : decide (c.k ≤ ky) = false := decide_eq_false hk2
  have HK := hide (fun u => kOf_any h c.s u hh)
  rw [hn] at HK
  clear hn hh
  go_enter Tryz.func11, Tryz.ntmps11
  go_wp2_with (first | (refine ybox hS (h := ?_); clear hS; intro _ _ hS) | (refine yall hS (h := ?_); clear hS; intro _ _ hS) | refine yld hS (h := ?_) | (refine yst hS (h := ?_); clear hS; intro _ hS))
  refine ((unhide HK) _).mono ?_
  rintro r u ⟨rfl, hb⟩
  replace hS := hS.call hb
  clear hb
  go_wp2_with (first | (refine ybox hS (h := ?_); clear hS; intro _ _ hS) | (refine yall hS (h := ?_); clear hS; intro _ _ hS) | refine yld hS (h := ?_) | (refine yst hS (h := ?_); clear hS; intro _ hS))
  go_ret
  obtain ⟨P, rfl⟩ := nameB hS 1 rfl
  exact ⟨P, rfl, hS.sublist (.cons _ (.cons_cons _ .slnil))⟩

set_option maxHeartbeats 4000000 in
theorem rdNew_yes (w : World) (c : Um.Cf) (h : Nat) (ky : Int) (hk : ¬ ky < 0) (hk2 : ¬ c.k ≤ ky) (hn : Um.ook h c.s = true) (hh : Um.Word h) :
    Calls Tryz.prog 11 #[(.agg #[.int .i64 (c.t), .int .i64 (c.s), .int .i64 (c.k), .int .i64 (c.g), .int .u64 (c.q : Int)]), .int .u64 (h : Nat), .int .i64 ky] w fun r w' => ∃ P G la cl sb, r = .returned (.pointer (some ⟨P, 0, none⟩)) ∧ StB la 1 st12 sb ∧ (∀ p ∈ sb, w.heap.size ≤ p.1) ∧ Sx [] w w' [(G, [.int .i64 (Um.svN h), .int .u64 ((0 : Nat) : Int), .int .u64 (h : Nat), .slice la 1 cl, .func (.func 85) #[.pointer (some ⟨G, 0, none⟩)] #[], .int .i64 0, .int .u64 ((0 : Nat) : Int)]), (P, [.int .i64 (Um.svN h), .int .i64 ky, .int .u64 0, .int .u64 0, .nilFunc, .int .i64 0, .pointer (some ⟨G, 0, none⟩), .pointer none, .pointer none, .pointer none, .func (.func 45) #[.pointer (some ⟨P, 0, none⟩)] #[], .int .i64 0])] sb := by
  have hS := Sx.new w
  have d1 : decide (ky < 0) = false := decide_eq_false hk
  have d2 : decide (c.k ≤ ky) = false := decide_eq_false hk2
  have HK := hide (fun u => kOf_any h c.s u hh)
  rw [hn, Um.os_yes hn, ← (Um.ook_facts hn).2.2] at HK
  have HH := hide hh
  clear hn hh
  go_enter Tryz.func11, Tryz.ntmps11
  go_wp2_with (first | (refine ybox hS (h := ?_); clear hS; intro _ _ hS) | (refine yall hS (h := ?_); clear hS; intro _ _ hS) | refine yld hS (h := ?_) | (refine yst hS (h := ?_); clear hS; intro _ hS))
  refine ((unhide HK) _).mono ?_
  rintro r u ⟨rfl, hb⟩
  replace hS := hS.call hb
  clear hb
  go_wp2_with (first | (first | (refine ybox hS (h := ?_); clear hS; intro _ _ hS) | (refine yall hS (h := ?_); clear hS; intro _ _ hS) | refine yld hS (h := ?_) | (refine yst hS (h := ?_); clear hS; intro _ hS)) | (refine wpx_build1 hS rfl _ rfl _ rfl _ (by intro _; simp only [Act.put, List.setIfInBounds_toArray, List.set_cons_zero, List.set_cons_succ]; first | done | exact rfl) ?_; clear hS; intro _ _ hS; dsimp only [List.cons_append, List.nil_append] at hS))
  refine (gNew_f h (unhide HH) (told1 (hS.get 1 rfl))).mono ?_
  rintro r u ⟨G, la, cl, sb, rfl, hSB, hLO, hS2⟩
  have hsz := hS.size
  have hSn := hS.plus hS2.bel hS2 hLO
  have HSB := hide hSB
  have HLO := hide (fun p (hp : p ∈ sb) => Nat.le_trans hsz (hLO p hp))
  clear hS hS2 hSB hLO hsz
  have hS := hSn
  clear hSn
  dsimp only [List.cons_append, List.nil_append] at hS
  go_wp2_with (first | (refine ybox hS (h := ?_); clear hS; intro _ _ hS) | (refine yall hS (h := ?_); clear hS; intro _ _ hS) | refine yld hS (h := ?_) | (refine yst hS (h := ?_); clear hS; intro _ hS))
  go_ret
  obtain ⟨P, rfl⟩ := nameB hS 3 rfl
  exact ⟨P, G, la, cl, sb, rfl, unhide HSB, unhide HLO, hS.sublist (.cons _ (.cons _ (.cons_cons _ (.cons_cons _ .slnil))))⟩

theorem rdNew_p (hS : Sx bs w0 w l e) (c : Um.Cf) (h : Nat) (ky : Int) (hh : Um.Word h) (m : Um.Mm) :
    Calls Tryz.prog 11 #[(.agg #[.int .i64 (c.t), .int .i64 (c.s), .int .i64 (c.k), .int .i64 (c.g), .int .u64 (c.q : Int)]), .int .u64 (h : Nat), .int .i64 ky] w fun r w' => ∃ P cs hb sb, r = .returned (.pointer (some ⟨P, 0, none⟩)) ∧ RdAt P h ky (Um.svN h) sb (Um.rdbeg c h ky m) cs hb ∧ Sx bs w0 w' (l ++ ((P, cs) :: hb)) (e ++ sb) := by
  by_cases hk : ky < 0
  · refine (rdNew_k1 w c h ky hk).mono ?_
    rintro r w' ⟨P, rfl, hS2⟩
    refine ⟨P, _, [], [], rfl, ?_, hS.plus hS2.bel hS2 (fun p hp => by cases hp)⟩
    rw [Um.rdbeg_key (.inl hk)]
    exact .inl ⟨rfl, ⟨_, _, _, _, _, _, _, _, _, _, rfl⟩, rfl⟩
  by_cases hk2 : c.k ≤ ky
  · refine (rdNew_k2 w c h ky hk hk2).mono ?_
    rintro r w' ⟨P, rfl, hS2⟩
    refine ⟨P, _, [], [], rfl, ?_, hS.plus hS2.bel hS2 (fun p hp => by cases hp)⟩
    rw [Um.rdbeg_key (.inr hk2)]
    exact .inl ⟨rfl, ⟨_, _, _, _, _, _, _, _, _, _, rfl⟩, rfl⟩
  have hk3 : ¬ (ky < 0 ∨ c.k ≤ ky) := fun q => q.elim hk hk2
  cases hn : Um.ook h c.s with
  | false =>
    refine (rdNew_no w c h ky hk hk2 hn hh).mono ?_
    rintro r w' ⟨P, rfl, hS2⟩
    refine ⟨P, _, [], [], rfl, ?_, hS.plus hS2.bel hS2 (fun p hp => by cases hp)⟩
    rw [Um.rdbeg_no hk3 hn]
    exact .inl ⟨rfl, ⟨_, _, _, _, _, _, _, _, _, _, rfl⟩, rfl⟩
  | true =>
    refine (rdNew_yes w c h ky hk hk2 hn hh).mono ?_
    rintro r w' ⟨P, G, la, cl, sb, rfl, hSB, hLO, hS2⟩
    have hS3 := hS2.perm12 (.swap _ _ [])
    refine ⟨P, _, [(G, entL G h la 1 cl (Um.enew m))], sb, rfl, ?_, hS.plus hS3.bel hS3 hLO⟩
    rw [Um.rdbeg_yes hk3 hn]
    exact .inr (.inl ⟨rfl, rfl, _, _, _, _, _, _, G, cl, la, hSB, rfl, rfl⟩)

theorem Sx.noE (hS : Sx bs w0 w l e) : Sx bs w0 w l [] := hS.sub (fun p hp => hp) hS.nd (fun p hp => by cases hp)

theorem RdAt.beg {key : Int} {m : Um.Mm} (hA : RdAt P h ky sl e (Um.rdbeg c h key m) cs hb) (m' : Um.Mm) : RdAt P h ky sl e (Um.rdbeg c h key m') cs hb := by
  unfold Um.rdbeg at *
  split at hA
  · rename_i h1
    rw [if_pos h1]
    exact hA
  · rename_i h1
    rw [if_neg h1]
    split at hA
    · rename_i h2
      rw [if_pos h2]
      exact hA
    · rename_i h2
      rw [if_neg h2]
      exact hA

theorem rdbeg_ook {c : Um.Cf} {h : Nat} {ky : Int} {m : Um.Mm} (q : (Um.rdbeg c h ky m).dn = false) : Um.ook h c.s = true := by
  unfold Um.rdbeg at q
  split at q
  · cases q
  · split at q
    · assumption
    · cases q

theorem RdAt.ended {o : Um.Rd} (hA : RdAt P h ky sl e o cs hb) (hd : o.dn = true) : hb = [] := by
  rcases hA with ⟨_, _, q⟩ | ⟨q, _⟩ | ⟨q, _⟩ | ⟨q, _⟩ | ⟨q, _⟩ | ⟨q, _⟩ | ⟨q, _⟩ | ⟨q, _⟩
  · exact q
  all_goals
    rw [hd] at q
    cases q

theorem RdAt.done2 {o : Um.Rd} (hA : RdAt P h ky sl e o cs hb) (hd : o.dn = true) : cs[10]? = some .nilFunc ∧ cs[11]? = some (.int .i64 o.e) := by
  rcases hA with ⟨_, ⟨v0, v1, v2, v3, v4, v5, v6, v7, v8, v9, rfl⟩, _⟩ | ⟨q, _⟩ | ⟨q, _⟩ | ⟨q, _⟩ | ⟨q, _⟩ | ⟨q, _⟩ | ⟨q, _⟩ | ⟨q, _⟩
  · exact ⟨rfl, rfl⟩
  all_goals
    rw [hd] at q
    cases q

/-- two callees' blocks, in the other order -/
theorem Sx.two12 {x y z a b d : List (Nat × List Value)} (h : Sx bs w0 w (((l ++ x) ++ y) ++ z) (((e ++ a) ++ b) ++ d)) : Sx bs w0 w (((l ++ y) ++ x) ++ z) (((e ++ b) ++ a) ++ d) := by
  have p : (((l ++ y) ++ x) ++ z).Perm (((l ++ x) ++ y) ++ z) := by
    refine List.Perm.append_right z ?_
    rw [List.append_assoc, List.append_assoc]
    exact List.Perm.append_left l List.perm_append_comm
  have h2 := h.perm12 p
  refine h2.sub (fun q hq => hq) h2.nd (fun q hq => ?_)
  simp only [List.mem_append] at hq ⊢
  rcases hq with ((q1 | q1) | q1) | q1 <;> simp [q1]

theorem Sx.two12l {x y a b : List (Nat × List Value)} (h : Sx bs w0 w ((l ++ x) ++ y) ((e ++ a) ++ b)) : Sx bs w0 w ((l ++ y) ++ x) ((e ++ b) ++ a) := by
  have h2 := Sx.two12 (l := l) (e := e) (x := x) (y := y) (z := []) (a := a) (b := b) (d := []) (by rw [List.append_nil, List.append_nil]; exact h)
  rwa [List.append_nil, List.append_nil] at h2

theorem perm_can {x y : Nat × List Value} {h1 h2 : List (Nat × List Value)} : ((l ++ [x, y]) ++ (h1 ++ h2)).Perm ((l ++ (x :: h1)) ++ (y :: h2)) := by
  rw [List.append_assoc, List.append_assoc]
  refine List.Perm.append_left l ?_
  show (x :: y :: (h1 ++ h2)).Perm (x :: (h1 ++ y :: h2))
  exact .cons _ List.perm_middle.symm

theorem put3_app {i j k : Nat} {a b d a' b' d' : Nat × List Value} (hi : l[i]? = some a) (hj : l[j]? = some b) (hk : l[k]? = some d) : putL (l ++ hx) [(i, a'), (j, b'), (k, d')] = putL l [(i, a'), (j, b'), (k, d')] ++ hx := by
  have li := put_get_lt hi
  have lj := put_get_lt hj
  have lk := put_get_lt hk
  show (((l ++ hx).set i a').set j b').set k d' = ((l.set i a').set j b').set k d' ++ hx
  rw [List.set_append_left _ _ li, List.set_append_left _ _ (by rw [List.length_set]; exact lj), List.set_append_left _ _ (by rw [List.length_set, List.length_set]; exact lk)]

theorem rdStep_h (hS : Sx bs w0 w (l ++ (hx ++ hb)) e) (i j k : Nat) (o O : Um.Rd) (hO : O = Um.rdstep c h inn12 ky sl o) (hA : RdAt P h ky sl e o cs hb) (hi : l[i]? = some (B, memL c C o.m)) (hj : l[j]? = some (C, rowW o.m.ws c.n)) (hk : l[k]? = some (P, cs)) (hij : i ≠ j) (hik : i ≠ k) (hjk : j ≠ k) (hr : c.r = true) (hh : Um.Word h) (ho : Um.Rok c o) (hn : o.dn = false → Um.ook h c.s = true) (hsb : -9223372036854775808 ≤ sl ∧ sl ≤ 9223372036854775807) (hkb : -9223372036854775808 ≤ ky ∧ ky ≤ 9223372036854775807) :
    Calls Tryz.prog 17 #[.pointer (some ⟨P, 0, none⟩), .pointer (some ⟨B, 0, none⟩)] w fun r w' => r = .returned (.tuple #[]) ∧ Um.Rok c O ∧ ∃ cs' hb' sb, RdAt P h ky sl (e ++ sb) O cs' hb' ∧ Sx bs w0 w' (putL l [(i, B, memL c C O.m), (j, C, rowW O.m.ws c.n), (k, P, cs')] ++ (hx ++ hb')) (e ++ sb) := by
  rw [← List.append_assoc] at hS
  refine (rdStep_any (l := l ++ hx) hS i j k o O hO hA (List.getElem?_append_left (put_get_lt hi) ▸ hi) (List.getElem?_append_left (put_get_lt hj) ▸ hj) (List.getElem?_append_left (put_get_lt hk) ▸ hk) hij hik hjk hr hh ho hn hsb hkb).mono ?_
  rintro r w' ⟨e1, e2, cs', hb', sb, e3, e4⟩
  rw [put3_app hi hj hk, List.append_assoc] at e4
  exact ⟨e1, e2, cs', hb', sb, e3, e4⟩

set_option maxHeartbeats 4000000 in
theorem rdEnds_x (hS : Sx bs w0 w (l ++ (hx ++ hb)) e) (i j k : Nat) (o : Um.Rd) (hA : RdAt P h ky sl e o cs hb) (hi : l[i]? = some (B, memL c C o.m)) (hj : l[j]? = some (C, rowW o.m.ws c.n)) (hk : l[k]? = some (P, cs)) (hij : i ≠ j) (hik : i ≠ k) (hjk : j ≠ k) (hr : c.r = true) (hh : Um.Word h) (ho : Um.Rok c o) (hn : o.dn = false → Um.ook h c.s = true) (hsb : -9223372036854775808 ≤ sl ∧ sl ≤ 9223372036854775807) (hkb : -9223372036854775808 ≤ ky ∧ ky ≤ 9223372036854775807) (most : Nat) (hm : most ≤ 1000) (H : Um.Rd) (hH : H = Um.rdit c h inn12 ky sl o most) :
    Calls Tryz.prog 20 #[.pointer (some ⟨P, 0, none⟩), .pointer (some ⟨B, 0, none⟩), .int .i64 (most : Nat)] w fun r w' => ∃ N : Nat, r = .returned (.int .i64 (N : Nat)) ∧ N ≤ most ∧ (N < most → (Um.rdit c h inn12 ky sl o N).dn = true) ∧ (∀ q, q < N → (Um.rdit c h inn12 ky sl o q).dn = false) ∧ Um.Rok c H ∧ ∃ cs' hb' sb, RdAt P h ky sl (e ++ sb) H cs' hb' ∧ Sx bs w0 w' (putL l [(i, B, memL c C H.m), (j, C, rowW H.m.ws c.n), (k, P, cs')] ++ (hx ++ hb')) (e ++ sb) := by
  have HR := hide hr
  have HO := hide (show ∀ k, Um.Rok c (Um.rdit c h inn12 ky sl o k) from fun k => Um.rok_it ho k)
  have HH := hide hH
  have HHH := hide hh
  have HBD := hide (And.intro hsb hkb)
  have HN := hide (show ∀ k, (Um.rdit c h inn12 ky sl o k).dn = false → Um.ook h c.s = true from fun k hk => hn (by
    cases hq : o.dn with
    | false => rfl
    | true => rw [Um.rdit_done (q := 0) hq (Nat.zero_le k)] at hk; rw [← hk]; exact hq.symm))
  have HL := hide (And.intro (put_get_lt hi) (And.intro (put_get_lt hj) (put_get_lt hk)))
  have HD3 := hide (And.intro hij (And.intro hik hjk))
  have H0 := hide (show ∃ cs' hb' sb, RdAt P h ky sl (e ++ sb) (Um.rdit c h inn12 ky sl o 0) cs' hb' ∧ Sx bs w0 w (putL l [(i, B, memL c C (Um.rdit c h inn12 ky sl o 0).m), (j, C, rowW (Um.rdit c h inn12 ky sl o 0).m.ws c.n), (k, P, cs')] ++ (hx ++ hb')) (e ++ sb) from ⟨cs, hb, [], hA.nil, by
    rw [List.append_nil, show putL l [(i, B, memL c C (Um.rdit c h inn12 ky sl o 0).m), (j, C, rowW (Um.rdit c h inn12 ky sl o 0).m.ws c.n), (k, P, cs)] = l from put_same3 hi hj hk]
    exact hS⟩)
  clear hS hA hi hj hk hr ho hH hh hsb hkb hn hij hik hjk
  go_enter Tryz.func20, Tryz.ntmps20
  go_wp2_with fail
  go_loopw [9] (fun iv wr => ∃ q : Nat, q ≤ most ∧ iv = .int .i64 q ∧ Hid (∀ k, k < q → (Um.rdit c h inn12 ky sl o k).dn = false) ∧ Hid (∃ cs' hb' sb, RdAt P h ky sl (e ++ sb) (Um.rdit c h inn12 ky sl o q) cs' hb' ∧ Sx bs w0 wr (putL l [(i, B, memL c C (Um.rdit c h inn12 ky sl o q).m), (j, C, rowW (Um.rdit c h inn12 ky sl o q).m.ws c.n), (k, P, cs')] ++ (hx ++ hb')) (e ++ sb))) (fun iv _ => most - (intOf iv).toNat)
  case atStart => exact ⟨0, Nat.zero_le _, rfl, hide (fun _ h => absurd h (Nat.not_lt_zero _)), H0⟩
  case round =>
    clear H0
    rename_i wr
    obtain ⟨q, hq, rfl, HQ, HS3⟩ := hrel
    obtain ⟨cs1, hb1, sb1, hA1, hS1⟩ := unhide HS3
    have hg := put3_get (l := l) (a := (B, memL c C (Um.rdit c h inn12 ky sl o q).m)) (b := (C, rowW (Um.rdit c h inn12 ky sl o q).m.ws c.n)) (d := (P, cs1)) (unhide HL).1 (unhide HL).2.1 (unhide HL).2.2 (unhide HD3).1 (unhide HD3).2.1 (unhide HD3).2.2
    by_cases hlt : q < most
    · have hlti : (q : Int) < (most : Int) := by omega
      have HD := hide (rdDone_any hA1 (hS1.get k (List.getElem?_append_left (put_get_lt hg.2.2) ▸ hg.2.2)))
      cases hd : (Um.rdit c h inn12 ky sl o q).dn with
      | true =>
        have HE := hide (show Um.rdit c h inn12 ky sl o q = H by rw [unhide HH]; exact (Um.rdit_done hd (by omega)).symm)
        rw [hd] at HD
        have Hd := hide hd
        clear hS1 hA1 hg hd
        go_wp2_with fail
        refine (unhide HD).mono ?_
        rintro r u ⟨rfl, rfl⟩
        clear HD
        go_wp2
        go_ret
        refine ⟨q, rfl, hq, fun _ => unhide Hd, unhide HQ, ?_⟩
        have hS5 := unhide HS3
        have hO5 := (unhide HO) q
        rw [unhide HE] at hS5 hO5
        exact ⟨hO5, hS5⟩
      | false =>
        rw [hd] at HD
        have Hd := hide hd
        have HA1 := hide hA1
        have HS1 := hide hS1
        have HG := hide hg
        clear hS1 hA1 hg hd HS3
        go_wp2_with fail
        refine (unhide HD).mono ?_
        rintro r u ⟨rfl, rfl⟩
        clear HD
        go_wp2_with fail
        refine (rdStep_h (unhide HS1) i j k _ (Um.rdit c h inn12 ky sl o (q + 1)) rfl (unhide HA1) (unhide HG).1 (unhide HG).2.1 (unhide HG).2.2 (unhide HD3).1 (unhide HD3).2.1 (unhide HD3).2.2 (unhide HR) (unhide HHH) ((unhide HO) q) ((unhide HN) q) (unhide HBD).1 (unhide HBD).2).mono ?_
        rintro r u ⟨rfl, _, cs2, hb2, sb2, hA2, hS2⟩
        rw [put3_twice (unhide HD3).1 (unhide HD3).2.1 (unhide HD3).2.2, List.append_assoc] at hS2
        rw [List.append_assoc] at hA2
        have HS6 := hide (show ∃ cs' hb' sb, RdAt P h ky sl (e ++ sb) (Um.rdit c h inn12 ky sl o (q + 1)) cs' hb' ∧ Sx bs w0 u (putL l [(i, B, memL c C (Um.rdit c h inn12 ky sl o (q + 1)).m), (j, C, rowW (Um.rdit c h inn12 ky sl o (q + 1)).m.ws c.n), (k, P, cs')] ++ (hx ++ hb')) (e ++ sb) from ⟨cs2, hb2, sb1 ++ sb2, hA2, hS2⟩)
        clear hS2 hA2 HS1 HA1 HG
        go_wp2
        refine ⟨⟨q + 1, by omega, by go_num, hide (fun k hk => ?_), HS6⟩, by simp [intOf]; omega⟩
        by_cases e : k = q
        · subst e; exact unhide Hd
        · exact (unhide HQ) k (by omega)
    · have hge : ¬ (q : Int) < (most : Int) := by omega
      obtain rfl : q = most := by omega
      clear hS1 hA1 hg
      go_wp2
      go_ret
      have hS5 := unhide HS3
      have hO5 := (unhide HO) q
      rw [← unhide HH] at hS5 hO5
      exact ⟨q, rfl, Nat.le_refl _, fun h => absurd h (Nat.lt_irrefl _), unhide HQ, hO5, hS5⟩

end

set_option maxHeartbeats 1000000 in
theorem of12_any (a b : Int) (w : World) : Calls Tryz.prog 25 #[.int .i64 a, .int .i64 b] w fun r w' => r = .returned (.agg #[.int .i64 a, .int .i64 b]) ∧ Below w.heap.size w w' := by
  go_enter Tryz.func25, Tryz.ntmps25
  go_wp2
  exact bodyPost_ret (v := (.agg #[.int .i64 a, .int .i64 b])) (by simp [results, Tryz.results25, go_sem]) rfl ⟨rfl, (Below.refl _ _).alloc (Nat.le_refl _) _⟩

end Go.Proofs.YtapgghciieloaaaGreat

/-
  The walk of layer 12's first look: a key that another active one writes is read; one key that there is not; one slot that there is not.
-/
namespace Go.Proofs.YtapgghciieloaaaGreat
set_option maxRecDepth 100000
open Go.RowKit Go.Sort
set_option linter.unusedVariables false
set_option linter.unusedSimpArgs false

theorem perm3r {x y : Nat × List Value} {h : List (Nat × List Value)} : (x :: y :: h).Perm ((h ++ [x]) ++ [y]) := by
  rw [List.append_assoc]
  exact List.perm_append_comm (l₁ := [x, y]) (l₂ := h)

def rc0 : Um.Cf := ⟨1, 2, 1, 0, 0⟩
def rm1 : Um.Mm := Um.mtouch rc0 ⟨fun _ => 0, 0, Um.noT⟩ 2 4 0 0 268435456
def rm2 : Um.Mm := Um.mtouch rc0 rm1 2 4 1 0 268435456
def rm3 : Um.Mm := Um.mtouch rc0 rm2 2 8 0 0 8192
def ra12 : Um.Rd := Um.rdit rc0 1 inn12 0 0 (Um.rdbeg rc0 1 0 rm3) 50
def rm4 : Um.Mm := Um.mtouch rc0 ra12.m 1 4 0 0 0
def rm5 : Um.Mm := Um.mtouch rc0 rm4 1 4 1 0 0
def rm6 : Um.Mm := Um.mtouch rc0 rm5 1 8 0 0 0

theorem rc0_r : rc0.r = true := by decide +kernel

theorem ra_n {n : Nat} (h0 : n ≤ 50) (h1 : n < 50 → (Um.rdit rc0 1 inn12 0 0 (Um.rdbeg rc0 1 0 rm3) n).dn = true) (h2 : ∀ q, q < n → (Um.rdit rc0 1 inn12 0 0 (Um.rdbeg rc0 1 0 rm3) q).dn = false) : n = 11 := by
  have hN : (Um.rdit rc0 1 inn12 0 0 (Um.rdbeg rc0 1 0 rm3) 11).dn = true := by decide +kernel
  have hf : (Um.rdit rc0 1 inn12 0 0 (Um.rdbeg rc0 1 0 rm3) 10).dn = false := by decide +kernel
  rcases Nat.lt_trichotomy n 11 with h | h | h
  · have h3 := h1 (by omega)
    have h4 := Um.rdit_done h3 (show n ≤ 10 by omega)
    rw [h4, h3] at hf
    cases hf
  · exact h
  · have h3 := h2 11 h
    rw [hN] at h3
    cases h3

theorem nw12_2 (w : World) : Calls Tryz.prog 34 #[.int .i64 2, .int .i64 0] w fun r w' => r = .returned (.int .u64 ((268435456 : Nat) : Int)) ∧ Below w.heap.size w w' := by
  have h := rNew01_any 2 w
  rwa [show Um.packV 0 2 false false false 0 0 = 268435456 by decide +kernel] at h

theorem wi12_a (w : World) : Calls Tryz.prog 38 #[.int .u64 ((268435456 : Nat) : Int), .int .i64 0, .int .i64 1] w fun r w' => r = .returned (.int .u64 ((268435458 : Nat) : Int)) ∧ Below w.heap.size w w' := by
  have h := same_below (refWith_any 268435456 0 1 w (by unfold Um.Word; omega))
  rwa [show Um.withN 268435456 0 1 = 268435458 by decide +kernel] at h

theorem wi12_b (w : World) : Calls Tryz.prog 38 #[.int .u64 ((268435456 : Nat) : Int), .int .i64 1, .int .i64 0] w fun r w' => r = .returned (.int .u64 ((268439552 : Nat) : Int)) ∧ Below w.heap.size w w' := by
  have h := same_below (refWith_any 268435456 1 0 w (by unfold Um.Word; omega))
  rwa [show Um.withN 268435456 1 0 = 268439552 by decide +kernel] at h

set_option maxHeartbeats 8000000 in
theorem rAlive_any (w : World) : Calls Tryz.prog 12 #[] w fun e w' => e = .returned (.bool true) ∧ Below w.heap.size w w' := by
  have hS := Sx.new w
  go_enter Tryz.func12, Tryz.ntmps12
  go_wp2_with (first | (refine ybox hS (h := ?_); clear hS; intro _ _ hS) | (refine yall hS (h := ?_); clear hS; intro _ _ hS) | refine yld hS (h := ?_) | (refine yst hS (h := ?_); clear hS; intro _ hS))
  refine (new_x hS rc0 rc0_r).mono ?_
  rintro r u ⟨B, C, rfl, hWn, hSn⟩
  clear hS
  have hS := hSn
  clear hSn
  dsimp only [putL, List.set, List.cons_append, List.nil_append] at hS
  have HW0 := hide hWn
  clear hWn
  go_wp2_with fail
  refine (of12_any 4 0 _).mono ?_
  rintro r u ⟨rfl, hb⟩
  replace hS := hS.call hb
  clear hb
  go_wp2_with fail
  refine (nw12_2 _).mono ?_
  rintro r u ⟨rfl, hb⟩
  replace hS := hS.call hb
  clear hb
  go_wp2_with fail
  refine (mStore_x hS 1 2 rfl rfl (by decide) rc0_r (unhide HW0) 4 0 268435456 (by unfold Um.Word; omega) (by decide) (by decide) rm1 rfl).mono ?_
  rintro r u ⟨rfl, hWn, hSn⟩
  clear hS
  have hS := hSn
  clear hSn
  dsimp only [putL, List.set, List.cons_append, List.nil_append] at hS
  have HW1 := hide hWn
  clear hWn
  go_wp2_with fail
  refine (of12_any 4 1 _).mono ?_
  rintro r u ⟨rfl, hb⟩
  replace hS := hS.call hb
  clear hb
  go_wp2_with fail
  refine (nw12_2 _).mono ?_
  rintro r u ⟨rfl, hb⟩
  replace hS := hS.call hb
  clear hb
  go_wp2_with fail
  refine (mStore_x hS 1 2 rfl rfl (by decide) rc0_r (unhide HW1) 4 1 268435456 (by unfold Um.Word; omega) (by decide) (by decide) rm2 rfl).mono ?_
  rintro r u ⟨rfl, hWn, hSn⟩
  clear hS
  have hS := hSn
  clear hSn
  dsimp only [putL, List.set, List.cons_append, List.nil_append] at hS
  have HW2 := hide hWn
  clear hWn
  go_wp2_with fail
  refine (of12_any 8 0 _).mono ?_
  rintro r u ⟨rfl, hb⟩
  replace hS := hS.call hb
  clear hb
  go_wp2_with fail
  refine (mStore_x hS 1 2 rfl rfl (by decide) rc0_r (unhide HW2) 8 0 8192 (by unfold Um.Word; omega) (by decide) (by decide) rm3 rfl).mono ?_
  rintro r u ⟨rfl, hWn, hSn⟩
  clear hS
  have hS := hSn
  clear hSn
  dsimp only [putL, List.set, List.cons_append, List.nil_append] at hS
  have HW3 := hide hWn
  clear hWn
  obtain ⟨CF, rfl⟩ := nameB hS 0 rfl
  go_upto_region 8 with fail
  go_cut [1, 2, 4, 5, 6] (fun s1 s2 s4 s5 s6 wx => s1 = .pointer (some ⟨CF, 0, none⟩) ∧ s2 = .pointer (some ⟨B, 0, none⟩) ∧ ∃ Pa Pb Pd csa csb csd hba hbb hbd sa sb sd, s4 = .pointer (some ⟨Pa, 0, none⟩) ∧ s5 = .pointer (some ⟨Pb, 0, none⟩) ∧ s6 = .pointer (some ⟨Pd, 0, none⟩) ∧ RdAt Pa 1 0 (Um.svN 1) sa (Um.rdbeg rc0 1 0 rm3) csa hba ∧ RdAt Pb 1 1 (Um.svN 1) sb (Um.rdbeg rc0 1 1 rm3) csb hbb ∧ RdAt Pd 3 0 (Um.svN 3) sd (Um.rdbeg rc0 3 0 rm3) csd hbd ∧ Sx [] w wx (((([(CF, [.int .i64 1, .int .i64 2, .int .i64 1, .int .i64 0, .int .u64 0]), (B, memL rc0 C rm3), (C, rowW rm3.ws rc0.n)]) ++ ((Pa, csa) :: hba)) ++ ((Pb, csb) :: hbb)) ++ ((Pd, csd) :: hbd)) ((([] ++ sa) ++ sb) ++ sd))
  case first =>
    have k0 := fun w' (hq : BlkAt w' CF [.int .i64 1, .int .i64 2, .int .i64 1, .int .i64 0, .int .u64 0]) => hq.cell 0 _ rfl
    have k1 := fun w' (hq : BlkAt w' CF [.int .i64 1, .int .i64 2, .int .i64 1, .int .i64 0, .int .u64 0]) => hq.cell 1 _ rfl
    have k2 := fun w' (hq : BlkAt w' CF [.int .i64 1, .int .i64 2, .int .i64 1, .int .i64 0, .int .u64 0]) => hq.cell 2 _ rfl
    have k3 := fun w' (hq : BlkAt w' CF [.int .i64 1, .int .i64 2, .int .i64 1, .int .i64 0, .int .u64 0]) => hq.cell 3 _ rfl
    have k4 := fun w' (hq : BlkAt w' CF [.int .i64 1, .int .i64 2, .int .i64 1, .int .i64 0, .int .u64 0]) => hq.cell 4 _ rfl
    have HP := hide (hS.get 0 rfl)
    have HS3 := hide hS
    clear hS
    go_region_held3 (fun w' => BlkAt w' CF [.int .i64 1, .int .i64 2, .int .i64 1, .int .i64 0, .int .u64 0]) (first | exact (unhide HP).drew | exact BlkAt.below (by assumption) (by assumption) | assumption) (first | (go_at_call 11; refine (rdNew_p (by first | exact hSa | exact (unhide HS3).drew) rc0 _ _ (by unfold Um.Word; decide) rm3).mono ?_; rintro e u5 ⟨Pn, csn, hbn, sbn, rfl, hAn, hSa⟩; have hPn := hSa.get 0 rfl))
    all_goals
      go_wp2_with fail
      go_meet
      refine ⟨rfl, rfl, _, _, _, _, _, _, _, _, _, _, _, _, rfl, rfl, rfl, by assumption, by assumption, by assumption, ?_⟩
      first | exact hSa | exact hSa.two12l | exact Sx.two12 hSa | exact (Sx.two12 hSa.two12l) | exact (Sx.two12 hSa).two12l | exact (Sx.two12 (Sx.two12 hSa).two12l)
  case rest =>
  clear hS
  obtain ⟨rfl, rfl, Pa, Pb, Pd, csa, csb, csd, hba, hbb, hbd, sa, sb, sd, rfl, rfl, rfl, hAa, hAb, hAd, hS⟩ := hcut
  have hb0 := hAb.ended (by decide +kernel)
  have hd0 := hAd.ended (by decide +kernel)
  subst hb0 hd0
  have zb := hAb.done2 (by decide +kernel)
  have zd := hAd.done2 (by decide +kernel)
  rw [show (Um.rdbeg rc0 1 1 rm3).e = 5 by decide +kernel] at zb
  rw [show (Um.rdbeg rc0 3 0 rm3).e = 2 by decide +kernel] at zd
  have HZB := hide zb
  have HZD := hide zd
  have hAa2 := hAa.mono (e' := (([] ++ sa) ++ sb) ++ sd) (fun p hp => by simp [hp])
  have HA := hide hAa2
  clear zb zd hAa hAb hAd hAa2
  have hS2 := hS.perm12 (l' := [(CF, [.int .i64 1, .int .i64 2, .int .i64 1, .int .i64 0, .int .u64 0]), (B, memL rc0 C rm3), (C, rowW rm3.ws rc0.n), (Pa, csa), (Pb, csb), (Pd, csd)] ++ ([] ++ hba)) (.cons _ (.cons _ (.cons _ (.cons _ perm3r))))
  clear hS
  have hS := hS2
  clear hS2
  go_wp2_with fail
  refine (rdEnds_x (c := rc0) (h := 1) (sl := 0) (ky := 0) hS 1 2 3 (Um.rdbeg rc0 1 0 rm3) (unhide HA) rfl rfl rfl (by decide) (by decide) (by decide) rc0_r (by unfold Um.Word; decide) (Um.rok_beg (unhide HW3)) (fun _ => by decide +kernel) (by decide) (by decide) 50 (by decide) ra12 rfl).mono ?_
  rintro r u ⟨n, rfl, hn1, hn2, hn3, hOn, cs2, hb2, sb2, hA2, hSn⟩
  clear hS
  have hS := hSn
  clear hSn
  dsimp only [putL, List.set, List.cons_append, List.nil_append] at hS
  obtain rfl : n = 11 := ra_n hn1 hn2 hn3
  have HOA := hide hOn
  have HA2 := hide hA2
  clear hn1 hn2 hn3 hOn hA2 HA
  go_wp2_with fail
  refine (rDone_n (hS.get 4 rfl) (unhide HZB).1).mono ?_
  rintro r u ⟨rfl, rfl⟩
  go_wp2_with fail
  refine (rError_n (hS.get 4 rfl) (unhide HZB).1 (unhide HZB).2).mono ?_
  rintro r u ⟨rfl, rfl⟩
  go_wp2_with fail
  refine (rDone_n (hS.get 5 rfl) (unhide HZD).1).mono ?_
  rintro r u ⟨rfl, rfl⟩
  go_wp2_with fail
  refine (rError_n (hS.get 5 rfl) (unhide HZD).1 (unhide HZD).2).mono ?_
  rintro r u ⟨rfl, rfl⟩
  go_wp2_with fail
  refine (rdError_any (unhide HA2) (by decide +kernel) (hS.get 3 rfl)).mono ?_
  rintro r u ⟨rfl, rfl⟩
  rw [show ra12.e = 0 by decide +kernel]
  go_wp2_with fail
  refine (of12_any 4 0 _).mono ?_
  rintro r u ⟨rfl, hb⟩
  replace hS := hS.call hb
  clear hb
  go_wp2_with fail
  refine (mLoad_x hS 1 2 rfl rfl (by decide) rc0_r (unhide HOA).wd 4 0 (by decide) (by decide) rm4 rfl).mono ?_
  rintro r u ⟨rfl, hWn, hSn⟩
  clear hS
  have hS := hSn
  clear hSn
  dsimp only [putL, List.set, List.cons_append, List.nil_append] at hS
  have HW4 := hide hWn
  clear hWn
  rw [show ((rm4.l.old : Nat) : Int) = ((268435458 : Nat) : Int) by decide +kernel]
  go_wp2_with fail
  refine (nw12_2 _).mono ?_
  rintro r u ⟨rfl, hb⟩
  replace hS := hS.call hb
  clear hb
  go_wp2_with fail
  refine (wi12_a _).mono ?_
  rintro r u ⟨rfl, hb⟩
  replace hS := hS.call hb
  clear hb
  go_wp2_with fail
  refine (of12_any 4 1 _).mono ?_
  rintro r u ⟨rfl, hb⟩
  replace hS := hS.call hb
  clear hb
  go_wp2_with fail
  refine (mLoad_x hS 1 2 rfl rfl (by decide) rc0_r (unhide HW4) 4 1 (by decide) (by decide) rm5 rfl).mono ?_
  rintro r u ⟨rfl, hWn, hSn⟩
  clear hS
  have hS := hSn
  clear hSn
  dsimp only [putL, List.set, List.cons_append, List.nil_append] at hS
  have HW5 := hide hWn
  clear hWn
  rw [show ((rm5.l.old : Nat) : Int) = ((268439552 : Nat) : Int) by decide +kernel]
  go_wp2_with fail
  refine (nw12_2 _).mono ?_
  rintro r u ⟨rfl, hb⟩
  replace hS := hS.call hb
  clear hb
  go_wp2_with fail
  refine (wi12_b _).mono ?_
  rintro r u ⟨rfl, hb⟩
  replace hS := hS.call hb
  clear hb
  go_wp2_with fail
  refine (of12_any 8 0 _).mono ?_
  rintro r u ⟨rfl, hb⟩
  replace hS := hS.call hb
  clear hb
  go_wp2_with fail
  refine (mLoad_x hS 1 2 rfl rfl (by decide) rc0_r (unhide HW5) 8 0 (by decide) (by decide) rm6 rfl).mono ?_
  rintro r u ⟨rfl, hWn, hSn⟩
  clear hS
  have hS := hSn
  clear hSn
  dsimp only [putL, List.set, List.cons_append, List.nil_append] at hS
  clear hWn
  rw [show ((rm6.l.old : Nat) : Int) = 8193 by decide +kernel]
  have hB := hS.bel
  clear hS
  go_wp2
  go_ret
  exact ⟨rfl, hB⟩

end Go.Proofs.YtapgghciieloaaaGreat

/-
  Plain arithmetic of layer 12: what a read comes to, whatever its ticket and its key; twice; in either order. No Go in sight.
-/
namespace Um
set_option maxRecDepth 100000

/-- what a read comes to, alone: from these words to those, and what it tells -/
def RdSum (c : Cf) (h : Nat) (inn : Nat → Bool) (ky : Int) (ws ws' : Nat → Nat) (e : Int) : Prop :=
  ((ky < 0 ∨ c.k ≤ ky) ∧ e = 5 ∧ ws' = ws) ∨ (¬ (ky < 0 ∨ c.k ≤ ky) ∧ ook h c.s = false ∧ e = 2 ∧ ws' = ws) ∨
  (¬ (ky < 0 ∨ c.k ≤ ky) ∧ ook h c.s = true ∧ flN h inn (ws (c.cl 4 (svN h)).toNat) ≠ 0 ∧ e = flN h inn (ws (c.cl 4 (svN h)).toNat) ∧ ws' = ws) ∨
  (¬ (ky < 0 ∨ c.k ≤ ky) ∧ ook h c.s = true ∧ flN h inn (ws (c.cl 4 (svN h)).toNat) = 0 ∧ Rsum c ky (svN h) ws ws' e)

section
variable {c : Cf} {h : Nat} {inn : Nat → Bool} {ky : Int}

theorem reach_end {o o' : Rd} {key slot : Int} {B k : Nat} (h1 : Rch c h inn key slot o o' B) (hd : o'.dn = true) (hk : B ≤ k) : rdit c h inn key slot o k = o' := by
  obtain ⟨q, hq, e⟩ := h1
  rw [rdit_done (q := q) (by rw [e]; exact hd) (by omega), e]

theorem rd_all (hr : c.r = true) (m : Mm) {k : Nat} (hk : 70 ≤ k) (A : Rd) (hA : A = rdit c h inn ky (svN h) (rdbeg c h ky m) k) : A.dn = true ∧ RdSum c h inn ky m.ws A.m.ws A.e := by
  by_cases hk1 : ky < 0 ∨ c.k ≤ ky
  · have e : A = { rdnew m with dn := true, e := 5 } := by rw [hA, rdbeg_key hk1]; exact rdit_done (q := 0) rfl (Nat.zero_le k)
    rw [e]
    exact ⟨rfl, .inl ⟨hk1, rfl, rfl⟩⟩
  · cases hn : ook h c.s with
    | false =>
      have e : A = { rdnew m with dn := true, e := 2 } := by rw [hA, rdbeg_no hk1 hn]; exact rdit_done (q := 0) rfl (Nat.zero_le k)
      rw [e]
      exact ⟨rfl, .inr (.inl ⟨hk1, hn, rfl, rfl⟩)⟩
    | true =>
      rw [rdbeg_yes hk1 hn] at hA
      by_cases hf : flN h inn (m.ws (c.cl 4 (svN h)).toNat) = 0
      · obtain ⟨o', r1, r2, r3⟩ := read_sum (key := ky) hr hn rfl (by omega) (by omega) m hf
        have e : A = o' := by rw [hA]; exact reach_end r1 r2 hk
        rw [e]
        exact ⟨r2, .inr (.inr (.inr ⟨hk1, hn, hf, r3⟩))⟩
      · obtain ⟨o', r1, r2, r3, r4⟩ := read_barred (key := ky) (slot := svN h) hr hn m hf
        have e : A = o' := by rw [hA]; exact reach_end r1 r2 (by omega)
        rw [e]
        exact ⟨r2, .inr (.inr (.inl ⟨hk1, hn, hf, r3, r4⟩))⟩

theorem slot_in (hn : ook h c.s = true) : 0 ≤ svN h ∧ svN h < c.s := ⟨(ook_facts hn).1, (ook_facts hn).2.1⟩

/-- behind a read that went well it is entered as ahead -/
theorem fl_kept (hr : c.r = true) (hn : ook h c.s = true) (hk1 : ¬ (ky < 0 ∨ c.k ≤ ky)) {ws ws' : Nat → Nat} {e : Int} (hA : Rsum c ky (svN h) ws ws' e) (he : e = 0) : flN h inn (ws' (c.cl 4 (svN h)).toNat) = flN h inn (ws (c.cl 4 (svN h)).toNat) := by
  obtain ⟨h0, h1⟩ := slot_in hn
  have hok : ∀ x ∈ othersN (ws (c.cl 8 ky).toNat) 1 (svN h), cfl c 1 (svN h) (ws (c.cl 5 (svN h)).toNat) ws x ≠ 3 := by
    refine Decidable.byContradiction fun q => ?_
    have := (hA.no q).1
    omega
  rw [(hA.ok hok).2]
  exact fl_aft (aft hr h0 h1 (by omega) (by omega) ws _ _ ot_facts) h inn

theorem twice_all (hr : c.r = true) (hi : inn 5 = false) {ws ws1 ws2 : Nat → Nat} {e1 e2 : Int} (hA : RdSum c h inn ky ws ws1 e1) (hB : RdSum c h inn ky ws1 ws2 e2) : ws2 = ws1 ∧ (e1 = 0 → e2 = 0) ∧ (e1 ≠ 0 → e2 ≠ 0) := by
  rcases hA with ⟨a1, a2, a3⟩ | ⟨a1, a2, a3, a4⟩ | ⟨a1, a2, a3, a4, a5⟩ | ⟨a1, a2, a3, a4⟩
  · rcases hB with ⟨b1, b2, b3⟩ | ⟨b1, _⟩ | ⟨b1, _⟩ | ⟨b1, _⟩
    · exact ⟨b3, by omega, by omega⟩
    all_goals exact absurd a1 b1
  · rcases hB with ⟨b1, b2, b3⟩ | ⟨b1, b2, b3, b4⟩ | ⟨b1, b2, _⟩ | ⟨b1, b2, _⟩
    · exact absurd b1 a1
    · exact ⟨b4, by omega, by omega⟩
    all_goals
      rw [a2] at b2
      cases b2
  · rcases hB with ⟨b1, b2, b3⟩ | ⟨b1, b2, b3, b4⟩ | ⟨b1, b2, b3, b4, b5⟩ | ⟨b1, b2, b3, b4⟩
    · exact absurd b1 a1
    · rw [a2] at b2
      cases b2
    · rw [a5] at b3 b4
      exact ⟨b5, by omega, by omega⟩
    · rw [a5] at b3
      exact absurd b3 a3
  · obtain ⟨h0, h1⟩ := slot_in a2
    rcases hB with ⟨b1, b2, b3⟩ | ⟨b1, b2, b3, b4⟩ | ⟨b1, b2, b3, b4, b5⟩ | ⟨b1, b2, b3, b4⟩
    · exact absurd b1 a1
    · rw [a2] at b2
      cases b2
    · refine ⟨b5, fun q => ?_, fun q => ?_⟩
      · rw [fl_kept hr a2 a1 a4 q] at b3
        exact absurd a3 b3
      · rw [b4]
        exact b3
    · by_cases q : e1 = 0
      · obtain ⟨t1, t2⟩ := read_twice hr h0 h1 (by omega) (by omega) a4 q b4
        exact ⟨t2, fun _ => t1, fun w => absurd q w⟩
      · have := (read_failed (inn := inn) hr h0 h1 (by omega) (by omega) a3 hi a4 q).2
        omega

theorem order_all (hr : c.r = true) {ka kb : Int} (a0 : 0 ≤ ka) (a1 : ka < c.k) (b0 : 0 ≤ kb) (b1 : kb < c.k) {ws wa wab wb wba : Nat → Nat} {ea eb xb xa : Int}
    (hA : RdSum c h inn ka ws wa ea) (hAB : RdSum c h inn kb wa wab eb) (hB : RdSum c h inn kb ws wb xb) (hBA : RdSum c h inn ka wb wba xa) : ((ea = 0 ∧ eb = 0) ↔ (xb = 0 ∧ xa = 0)) ∧ (ea = 0 ∧ eb = 0 → wab = wba) := by
  rcases hA with ⟨q, _⟩ | ⟨q1, q2, q3, q4⟩ | ⟨q1, q2, q3, q4, q5⟩ | ⟨q1, q2, q3, q4⟩
  · omega
  · have : xb = 2 := by
      rcases hB with ⟨q, _⟩ | ⟨_, _, q, _⟩ | ⟨_, q, _⟩ | ⟨_, q, _⟩
      · omega
      · exact q
      all_goals
        rw [q2] at q
        cases q
    exact ⟨by constructor <;> (intro w; omega), fun w => by omega⟩
  · have : xb ≠ 0 := by
      rcases hB with ⟨q, _⟩ | ⟨_, q, _⟩ | ⟨_, _, p1, p2, _⟩ | ⟨_, _, p1, _⟩
      · omega
      · rw [q2] at q
        cases q
      · omega
      · exact absurd p1 q3
    exact ⟨by constructor <;> (intro w; omega), fun w => by omega⟩
  · obtain ⟨h0, h1⟩ := slot_in q2
    have rB : Rsum c kb (svN h) ws wb xb := by
      rcases hB with ⟨q, _⟩ | ⟨_, q, _⟩ | ⟨_, _, p1, _⟩ | ⟨_, _, _, p⟩
      · omega
      · rw [q2] at q
        cases q
      · exact absurd q3 p1
      · exact p
    have rAB : ea = 0 → Rsum c kb (svN h) wa wab eb := by
      intro w
      have hf := fl_kept (inn := inn) hr q2 q1 q4 w
      rcases hAB with ⟨q, _⟩ | ⟨_, q, _⟩ | ⟨_, _, p1, _⟩ | ⟨_, _, _, p⟩
      · omega
      · rw [q2] at q
        cases q
      · rw [hf] at p1
        exact absurd q3 p1
      · exact p
    have rBA : xb = 0 → Rsum c ka (svN h) wb wba xa := by
      intro w
      have hf := fl_kept (ky := kb) (inn := inn) hr q2 (by omega) rB w
      rcases hBA with ⟨q, _⟩ | ⟨_, q, _⟩ | ⟨_, _, p1, _⟩ | ⟨_, _, _, p⟩
      · omega
      · rw [q2] at q
        cases q
      · rw [hf] at p1
        exact absurd q3 p1
      · exact p
    have hiff := read_order hr h0 h1 a0 a1 b0 b1 q4 rAB rB rBA
    refine ⟨hiff, fun w => ?_⟩
    obtain ⟨w1, w2⟩ := w
    obtain ⟨w3, w4⟩ := hiff.1 ⟨w1, w2⟩
    exact read_order_ws hr h0 h1 a0 a1 b0 b1 q4 (rAB w1) rB (rBA w3) w1 w2 w3 w4

end

end Um

/-
  What layer 9's first law is handed: how many steps there are, and what is written meanwhile.
-/
namespace Go.Proofs.YtapgghciieloaaaGreat
set_option maxRecDepth 100000
open Go.ChangeShapes Go.WideShapes Go.ChangeAt Go.RowKit

theorem open_turns9 {H : Type} {enc : TypeId × Value → H} {W : World} {base : Nat} {v : Value} {d : DataW H} {p : List MemPlace}
    (hv : Value.okWide Tryz.prog W .any base 76 v) (h : DataW.Trod enc Tryz.prog W 0 (fun _ => true) true 76 v d p) :
    ∃ (la : Option Addr) (nl cl : Nat) (Z : Nat → Bool), v = .slice la nl cl ∧ nl ≤ cl ∧ RowOf W la nl (fun i => .bool (Z i)) := by
  obtain ⟨a0, len0, cap0, rfl⟩ := okWide_slice Tryz.underlying76 hv
  obtain ⟨fuel, hf⟩ := h
  obtain ⟨la, nl, cl, Z, e, hnc, hZ⟩ := open_bools hf
  simp [Value.cells] at e
  obtain ⟨rfl, rfl, rfl⟩ := e
  exact ⟨_, _, _, Z, rfl, hnc, hZ⟩

end Go.Proofs.YtapgghciieloaaaGreat

/-
  Plain arithmetic of layer 12: two that read one key at once. No Go in sight.
-/
namespace Um
set_option maxRecDepth 100000

/-- two reads of one key over a memory -/
structure TwoR (c : Cf) (m : Mm) (a b : Rd) : Prop where
  k : m.ws (c.cl 8 0).toNat < 4
  a : Sr 0 (m.ws (c.cl 8 0).toNat) (m.ws (c.cl 4 0).toNat) a
  b : Sr 1 (m.ws (c.cl 8 0).toNat) (m.ws (c.cl 4 1).toNat) b

section
variable {c : Cf} {inn : Nat → Bool}

theorem ook1 {c : Cf} (h2 : 2 ≤ c.s) : ook 1 c.s = true := by
  have h0 : tsN 1 = 0 := by decide +kernel
  have h1 : tgN 1 ≤ 1073741823 := by decide +kernel
  exact ook_iff.2 ⟨by omega, by omega, h1, by omega⟩

theorem ook2 {c : Cf} (h2 : 2 ≤ c.s) : ook 2 c.s = true := by
  have h0 : tsN 2 = 1 := by decide +kernel
  have h1 : tgN 2 ≤ 1073741823 := by decide +kernel
  exact ook_iff.2 ⟨by omega, by omega, h1, by omega⟩

theorem two_a (hr : c.r = true) (h2 : 2 ≤ c.s) (hi : inn 2 = true) {m : Mm} {a b : Rd} (h : TwoR c m a b) (O : Rd) (hO : O = rdstep c 1 inn 0 0 (setR m a)) : TwoR c O.m O b := by
  obtain ⟨s1, s2, _⟩ := sr_step (i := 0) hr (ook1 h2) (by decide +kernel) (by decide +kernel) (.inl rfl) hi (o := setR m a) h.k (h.a.at m)
  rw [← hO] at s1 s2
  exact ⟨s2.k, s1, sr_other hr (.inl rfl) (.inr rfl) (by decide) (by omega) s2 h.b⟩

theorem two_b (hr : c.r = true) (h2 : 2 ≤ c.s) (hi : inn 2 = true) {m : Mm} {a b : Rd} (h : TwoR c m a b) (O : Rd) (hO : O = rdstep c 2 inn 0 1 (setR m b)) : TwoR c O.m a O := by
  obtain ⟨s1, s2, _⟩ := sr_step (i := 1) hr (ook2 h2) (by decide +kernel) (by decide +kernel) (.inr rfl) hi (o := setR m b) h.k (h.b.at m)
  rw [← hO] at s1 s2
  exact ⟨s2.k, sr_other hr (.inr rfl) (.inl rfl) (by decide) (by omega) s2 h.a, s1⟩

theorem sr_dn {i : Int} {K S : Nat} {o : Rd} (h : Sr i K S o) (hd : o.dn = true) : S = actW ∧ o.e = 0 ∧ hasN K 0 i = true := by
  refine ⟨(h.ad hd).1, (h.ad hd).2, h.k6 ?_⟩
  rcases h.nx with q | q | q | q | q
  · rw [(h.a0 q).1] at hd
    cases hd
  · rw [(h.a1 (.inl q)).1] at hd
    cases hd
  · rw [(h.a1 (.inr (.inl q))).1] at hd
    cases hd
  · rw [(h.a1 (.inr (.inr q))).1] at hd
    cases hd
  · exact q

theorem three : ∀ K : Nat, K < 4 → hasN K 0 0 = true → hasN K 0 1 = true → K = 3 := by
  intro K hK
  match K, hK with
  | 0, _ => decide +kernel
  | 1, _ => decide +kernel
  | 2, _ => decide +kernel
  | 3, _ => decide +kernel

theorem two_ends (hr : c.r = true) (h2 : 2 ≤ c.s) (hi : inn 2 = true) {m : Mm} {a b : Rd} (h : TwoR c m a b) (A : Rd) (hA : A = rdit c 1 inn 0 0 (setR m a) 100) (E : Rd) (hE : E = rdit c 2 inn 0 1 (setR A.m b) 100) :
    A.dn = true ∧ A.e = 0 ∧ E.dn = true ∧ E.e = 0 ∧ E.m.ws (c.cl 8 0).toNat = 3 ∧ E.m.ws (c.cl 4 0).toNat = actW ∧ E.m.ws (c.cl 4 1).toNat = actW := by
  obtain ⟨s1, s2, s3⟩ := sr_ends (i := 0) hr (ook1 h2) (by decide +kernel) (by decide +kernel) (.inl rfl) hi (o := setR m a) h.k (h.a.at m) (k := 100) (by decide) A hA
  have hB := sr_other hr (.inl rfl) (.inr rfl) (by decide) (by omega) s3 h.b
  obtain ⟨t1, t2, t3⟩ := sr_ends (i := 1) hr (ook2 h2) (by decide +kernel) (by decide +kernel) (.inr rfl) hi (o := setR A.m b) s3.k (hB.at A.m) (k := 100) (by decide) E hE
  have hA2 := sr_other hr (.inr rfl) (.inl rfl) (by decide) (by omega) t3 s1
  obtain ⟨p1, p2, p3⟩ := sr_dn hA2 s2
  obtain ⟨q1, q2, q3⟩ := sr_dn t1 t2
  exact ⟨s2, p2, t2, q2, three _ t3.k p3 q3, p1, q1⟩

theorem two_new (hr : c.r = true) (h2 : 2 ≤ c.s) (m1 m2 : Mm) (h1 : m1 = mtouch c ⟨fun _ => 0, 0, noT⟩ 2 4 0 0 268435456) (hm2 : m2 = mtouch c m1 2 4 1 0 268435456) (m : Mm) : TwoR c m2 (rdbeg c 1 0 m) (rdbeg c 2 0 m) := by
  have hb := c.rb hr
  have hk : ¬ ((0 : Int) < 0 ∨ c.k ≤ 0) := by omega
  obtain ⟨c4, _⟩ := sl_cells (c := c) hr (f := 0) (by decide) (by omega)
  obtain ⟨d4, _⟩ := sl_cells (c := c) hr (f := 1) (by decide) (by omega)
  obtain ⟨k1, k2, _⟩ := key_cells hr (slot := 0) (key := 0) (by decide) (by omega) (by decide) (by omega)
  obtain ⟨_, k3, _⟩ := key_cells hr (slot := 1) (key := 0) (by decide) (by omega) (by decide) (by omega)
  have hne := cl4_ne hr (x := 0) (y := 1) (by decide) (by omega) (by decide) (by omega) (by decide)
  have e8 : m2.ws (c.cl 8 0).toNat = 0 := by
    rw [hm2, put_ws, if_neg (by omega), h1, put_ws, if_neg (by omega)]
  have e0 : m2.ws (c.cl 4 0).toNat = actW := by
    rw [hm2, put_ws, if_neg (by omega), h1, put_ws, if_pos (by omega)]
    rfl
  have e1 : m2.ws (c.cl 4 1).toNat = actW := by
    rw [hm2, put_ws, if_pos (by omega)]
    rfl
  rw [rdbeg_yes hk (ook1 h2), rdbeg_yes hk (ook2 h2)]
  exact ⟨by rw [e8]; decide, by rw [e0]; exact sr_new 0 _ m, by rw [e1]; exact sr_new 1 _ m⟩

end

end Um

/-
  Plain arithmetic of layer 12: what a read changes at all. No Go in sight.
-/
namespace Um
set_option maxRecDepth 100000

section
variable {c : Cf} {h : Nat} {inn : Nat → Bool} {ky slot : Int}

/-- bits that a read leaves in its own status -/
def still (j : Nat) : Prop := (12 ≤ j ∧ j < 24) ∨ 30 ≤ j

theorem still_bsw (ws : Nat → Nat) (i : Nat) {j : Nat} (hj : still j) : (bsw c slot ws i).testBit j = (ws i).testBit j := by
  unfold bsw
  split
  · unfold bzN
    rw [testBit_setN, if_neg (by unfold still at hj; omega)]
  · rfl

theorem still_lvw (ws : Nat → Nat) (i : Nat) {j : Nat} (hj : still j) : (lvw c slot 5 ws i).testBit j = (ws i).testBit j := by
  unfold lvw
  split
  · rw [move_bits (lst_lt 5 (ws i)), if_neg (by unfold still at hj; omega), if_neg (by unfold still at hj; omega)]
  · rfl

theorem lvw_other (ws : Nat → Nat) {st : Int} {i : Nat} (hi : (i : Int) ≠ c.cl 4 slot) : lvw c slot st ws i = ws i := if_neg hi
theorem bsw_other (ws : Nat → Nat) {i : Nat} (hi : (i : Int) ≠ c.cl 4 slot) : bsw c slot ws i = ws i := if_neg hi

theorem parts_still {x y : Nat} (hb : ∀ j, still j → x.testBit j = y.testBit j) : gnN x = gnN y ∧ part x 12 12 = part y 12 12 := by
  refine ⟨?_, ?_⟩
  · apply Nat.eq_of_testBit_eq
    intro j
    unfold gnN
    rw [testBit_part, testBit_part, hb (j + 30) (.inr (by omega))]
  · apply Nat.eq_of_testBit_eq
    intro j
    rw [testBit_part, testBit_part]
    by_cases hj : j < 12
    · rw [hb (j + 12) (.inl (by omega))]
    · rw [decide_eq_false hj, Bool.false_and, Bool.false_and]

/-- words behind a read that was entered: laid over these, W0 -/
theorem only_lay (hr : c.r = true) (h0 : 0 ≤ slot) (h1 : slot < c.s) (k0 : 0 ≤ ky) (k1 : ky < c.k) (ws W0 : Nat → Nat) (P : Int → Bool) (L : List Int) (hL : ∀ x ∈ L, 0 ≤ x ∧ x ≠ slot ∧ (P x = true → x < c.s))
    (hW : ∀ i : Nat, (i : Int) ≠ c.cl 4 slot → W0 i = mkw c 0 ky slot ws i) (hS : ∀ i : Nat, (i : Int) = c.cl 4 slot → ∀ j, still j → (W0 i).testBit j = (ws i).testBit j) (i : Nat) :
    ((i : Int) = c.cl 4 slot → ∀ j, still j → (layL c 1 0 slot P W0 L i).testBit j = (ws i).testBit j) ∧
    ((i : Int) ≠ c.cl 4 slot → (i : Int) = c.cl 8 ky → layL c 1 0 slot P W0 L i = withN (ws i) 0 slot) ∧
    ((i : Int) ≠ c.cl 4 slot → (i : Int) ≠ c.cl 8 ky → layL c 1 0 slot P W0 L i = ws i ∨ ((∃ x, x < c.s ∧ 0 ≤ x ∧ (i : Int) = c.cl 4 x) ∧ layL c 1 0 slot P W0 L i = withN (ws i) 1 slot)) := by
  refine ⟨fun e j hj => ?_, fun e1 e2 => ?_, fun e1 e2 => ?_⟩
  · rw [layL_own (so := 1) hr h0 h1 P (show far 0 j by unfold far; unfold still at hj; omega) L W0 hL i e]
    exact hS i e j hj
  · rw [layL_other (so := 1) (sw := 0) P L W0 i e1 (fun x hx q => ?_), hW i e1]
    · exact if_pos e2
    · by_cases x1 : x < c.s
      · have := (key_other hr (hL x hx).1 x1 k0 k1).1
        omega
      · have := cl_none (a := 4) hr (.inl rfl) x1
        omega
  · have hw : W0 i = ws i := by rw [hW i e1]; exact if_neg e2
    by_cases hx : ∃ x ∈ L, (i : Int) = c.cl 4 x
    · obtain ⟨x, hx1, hx2⟩ := hx
      rcases layL_status (so := 1) (sw := 0) P L W0 i e1 with q | q
      · rw [q, hw]
        exact .inl rfl
      · rw [q, hw]
        refine .inr ⟨⟨x, ?_, (hL x hx1).1, hx2⟩, rfl⟩
        refine Decidable.byContradiction fun x1 => ?_
        have := cl_none (a := 4) hr (.inl rfl) x1
        omega
    · rw [layL_other (so := 1) (sw := 0) P L W0 i e1 (fun x hx1 q => hx ⟨x, hx1, q⟩), hw]
      exact .inl rfl

theorem only_all (hr : c.r = true) {ws ws' : Nat → Nat} {e : Int} (hA : RdSum c h inn ky ws ws' e) {i : Nat} (hi : i < c.n) (hd : ws' i ≠ ws i) :
    0 ≤ ky ∧ ky < c.k ∧ ook h c.s = true ∧
    (((atK c.r c.t c.s c.k (i : Int) = 8 ∧ atO c.r c.t c.s c.k (i : Int) = ky) ∧ ws' i = withN (ws i) 0 (svN h)) ∨
     ((atK c.r c.t c.s c.k (i : Int) = 4 ∧ atO c.r c.t c.s c.k (i : Int) = svN h) ∧ gnN (ws' i) = gnN (ws i) ∧ part (ws' i) 12 12 = part (ws i) 12 12) ∨
     ((atK c.r c.t c.s c.k (i : Int) = 4 ∧ atO c.r c.t c.s c.k (i : Int) ≠ svN h) ∧ ws' i = withN (ws i) 1 (svN h))) := by
  rcases hA with ⟨_, _, a3⟩ | ⟨_, _, _, a3⟩ | ⟨_, _, _, _, a3⟩ | ⟨a1, a2, a3, a4⟩
  · exact absurd (by rw [a3]) hd
  · exact absurd (by rw [a3]) hd
  · exact absurd (by rw [a3]) hd
  · have k0 : 0 ≤ ky := by omega
    have k1 : ky < c.k := by omega
    refine ⟨k0, k1, a2, ?_⟩
    obtain ⟨h0, h1⟩ := slot_in a2
    obtain ⟨c4, _⟩ := sl_cells (c := c) hr h0 h1
    obtain ⟨d8, dne, _⟩ := key_cells hr h0 h1 k0 k1
    have main : ∃ (W0 : Nat → Nat) (P : Int → Bool) (L : List Int), (∀ x ∈ L, 0 ≤ x ∧ x ≠ svN h ∧ (P x = true → x < c.s)) ∧ (∀ i : Nat, (i : Int) ≠ c.cl 4 (svN h) → W0 i = mkw c 0 ky (svN h) ws i) ∧ (∀ i : Nat, (i : Int) = c.cl 4 (svN h) → ∀ j, still j → (W0 i).testBit j = (ws i).testBit j) ∧
        ((i : Int) ≠ c.cl 4 (svN h) → ws' i = layL c 1 0 (svN h) P W0 L i) ∧ ((i : Int) = c.cl 4 (svN h) → ∀ j, still j → (ws' i).testBit j = (layL c 1 0 (svN h) P W0 L i).testBit j) := by
      have hPL : ∀ L' : List Int, (∀ x ∈ L', x ∈ othersN (ws (c.cl 8 ky).toNat) 1 (svN h)) → ∀ x ∈ L', 0 ≤ x ∧ x ≠ svN h ∧ (Pc c (svN h) (ws (c.cl 5 (svN h)).toNat) ws x = true → x < c.s) := fun L' hL' x hx => ⟨(ot_facts x (hL' x hx)).1, (ot_facts x (hL' x hx)).2, fun hp => P_in hr hp⟩
      have hmk : ∀ (ws2 : Nat → Nat) (i : Nat), (i : Int) = c.cl 4 (svN h) → mkw c 0 ky (svN h) ws2 i = ws2 i := fun ws2 i e => if_neg (by rw [e]; exact (key_other hr h0 h1 k0 k1).1)
      by_cases hok : ∀ x ∈ othersN (ws (c.cl 8 ky).toNat) 1 (svN h), cfl c 1 (svN h) (ws (c.cl 5 (svN h)).toNat) ws x ≠ 3
      · refine ⟨mkw c 0 ky (svN h) ws, _, _, hPL (othersN (ws (c.cl 8 ky).toNat) 1 (svN h)) (fun _ hx => hx), fun _ _ => rfl, fun i e j hj => by rw [hmk ws i e], fun _ => by rw [(a4.ok hok).2], fun _ j _ => by rw [(a4.ok hok).2]⟩
      · obtain ⟨_, L', q2, q3⟩ := a4.no hok
        refine ⟨mkw c 0 ky (svN h) (bsw c (svN h) ws), _, L', hPL L' q2, fun i e => ?_, fun i e j hj => ?_, fun e => ?_, fun e j hj => ?_⟩
        · show (if (i : Int) = c.cl 8 ky then withN (bsw c (svN h) ws i) 0 (svN h) else bsw c (svN h) ws i) = (if (i : Int) = c.cl 8 ky then withN (ws i) 0 (svN h) else ws i)
          rw [bsw_other ws e]
        · rw [hmk _ i e]
          exact still_bsw ws i hj
        · rw [q3]
          exact lvw_other _ e
        · rw [q3]
          exact still_lvw _ i hj
    obtain ⟨W0, P, L, m1, m2, m3, m4, m5⟩ := main
    obtain ⟨t1, t2, t3⟩ := only_lay hr h0 h1 k0 k1 ws W0 P L m1 m2 m3 i
    have ia := at_iff hr (a := 4) (b := svN h) (by omega) hi
    have ib := at_iff hr (a := 8) (b := ky) (by omega) hi
    by_cases e1 : (i : Int) = c.cl 4 (svN h)
    · exact .inr (.inl ⟨ia.1 e1, parts_still (fun j hj => (m5 e1 j hj).trans (t1 e1 j hj))⟩)
    · by_cases e2 : (i : Int) = c.cl 8 ky
      · exact .inl ⟨ib.1 e2, (m4 e1).trans (t2 e1 e2)⟩
      · rcases t3 e1 e2 with q | ⟨⟨x, x1, x0, hx⟩, q⟩
        · exact absurd ((m4 e1).trans q) hd
        · have ix := (at_iff hr (a := 4) (b := x) (by have := (sl_cells (c := c) hr x0 x1).1; omega) hi).1 hx
          exact .inr (.inr ⟨⟨ix.1, fun w => e1 (ia.2 ⟨ix.1, w⟩)⟩, (m4 e1).trans q⟩)

end

end Um

/-
  Plain arithmetic of layer 11: a join that is alone, as a law asks of it; laid again. No Go in sight.
-/
namespace Um
set_option maxRecDepth 100000

/-- one that is not there, or was committed ahead -/
def goneN (W N sn : Nat) : Prop := stN W < 2 ∨ 4 < stN W ∨ (stN W = 4 ∧ past N sn = true)

/-- the same, as a law reckons it -/
def goneB (W N sn : Nat) : Bool := decide (stN W < 2 ∨ 4 < stN W ∨ (stN W = 4 ∧ past N sn = true))

theorem goneB_iff {W N sn : Nat} : goneB W N sn = true ↔ goneN W N sn := decide_eq_true_iff

theorem jtg_gone {sd b : Int} {sn W N : Nat} (h : goneN W N sn) : jtg sd b sn W N = 1 := by
  unfold goneN at h
  unfold jtg
  rw [if_pos h]

theorem jtg_has {sd b : Int} {sn W N : Nat} (h : ¬ goneN W N sn) (hh : hasN W sd b = true) : jtg sd b sn W N = 2 := by
  unfold goneN at h
  unfold jtg
  rw [if_neg h, if_pos hh]

theorem jtg_fail {sd b : Int} {sn W N : Nat} (h : ¬ goneN W N sn) (hh : hasN W sd b = false) (h2 : stN W ≠ 2) (ha : anyN W (1 - sd) = true) : jtg sd b sn W N = 3 := by
  unfold goneN at h
  unfold jtg
  rw [if_neg h, if_neg (by rw [hh]; decide), if_pos ⟨h2, ha⟩]

theorem jtg_lay {sd b : Int} {sn W N : Nat} (h : ¬ goneN W N sn) (hh : hasN W sd b = false) (h2 : stN W = 2 ∨ anyN W (1 - sd) = false) : jtg sd b sn W N = 2 := by
  unfold goneN at h
  unfold jtg
  rw [if_neg h, if_neg (by rw [hh]; decide), if_neg]
  rintro ⟨q1, q2⟩
  rcases h2 with h2 | h2
  · exact q1 h2
  · rw [h2] at q2; cases q2

section
variable {c : Cf} {sl sd b : Int} {sn : Nat}

end

end Um

/-
  The walks of what layer 12's laws are made of: the word of a spot, words with another one at a spot, does a transaction not go on, why is it not entered.
-/
namespace Go.Proofs.YtapgghciieloaaaGreat
set_option maxRecDepth 100000
open Go.RowKit Go.Sort Go.Shelf
set_option linter.unusedVariables false
set_option linter.unusedSimpArgs false

/-- a spot's cell, as a number -/
theorem cell_num {c : Um.Cf} {kd i : Int} (hp : 0 ≤ c.cl kd i) : ∃ n0 : Nat, (n0 : Int) = c.cl kd i ∧ n0 < c.n ∧ (c.cl kd i).toNat = n0 := ⟨(c.cl kd i).toNat, by omega, Um.Cf.cl_lt (by omega), rfl⟩

theorem rCellC (c : Um.Cf) {kd i : Int} {n0 : Nat} (hn : (n0 : Int) = c.cl kd i) (W : World) :
    Calls Tryz.prog 62 #[(.agg #[.int .i64 (c.t), .int .i64 (c.s), .int .i64 (c.k), .int .i64 (c.g), .int .u64 (c.q : Int)]), .int .i64 kd, .int .i64 i] W fun e w' => e = .returned (.int .i64 (n0 : Int)) ∧ Below W.heap.size W w' :=
  (rCell_any c.t c.s c.k c.g c.q kd i W).mono (fun r w' h => ⟨h.1.trans (by rw [hn]; rfl), h.2⟩)

/-- a slice of words that is not empty: its block, its cells -/
theorem words_at {W : World} {v : Value} {n : Nat} {ws : Nat → Nat} (h : IsWords W v n ws) (hn : 0 < n) : ∃ b off cap, v = .slice (some ⟨b, off, none⟩) n cap ∧ n ≤ cap ∧ cap ≤ maxLen ∧ b < W.heap.size ∧ ∀ j, j < n → W.cell? ⟨b, off + j, none⟩ = some (.int .u64 (ws j)) ∧ Um.Word (ws j) := by
  rcases h with ⟨_, _, _, e⟩ | ⟨b, off, cap, e, _, h1, h2, h3, h4⟩
  · omega
  · exact ⟨b, off, cap, e, h1, h2, h3, h4⟩

theorem words_word12 {W : World} {v : Value} {n : Nat} {ws : Nat → Nat} (h : IsWords W v n ws) {i : Nat} (hi : i < n) : Um.Word (ws i) := by
  obtain ⟨_, _, _, _, _, _, _, h4⟩ := words_at h (by omega)
  exact (h4 i hi).2

set_option maxHeartbeats 2000000 in
theorem lAt_any (c : Um.Cf) {v : Value} {ws : Nat → Nat} {kd i : Int} (w : World) (hI : IsWords w v c.n ws) (hp : 0 ≤ c.cl kd i) :
    Calls Tryz.prog 23 #[(.agg #[.int .i64 (c.t), .int .i64 (c.s), .int .i64 (c.k), .int .i64 (c.g), .int .u64 (c.q : Int)]), v, .int .i64 kd, .int .i64 i] w fun r w' => r = .returned (.int .u64 (ws (c.cl kd i).toNat : Nat)) ∧ Below w.heap.size w w' := by
  obtain ⟨n0, e0, l0, t0⟩ := cell_num hp
  obtain ⟨b, off, cap, rfl, h1, h2, h3, h4⟩ := words_at hI (by omega)
  have HC := hide (rCellC c e0)
  have l0' : (n0 : Int) < (c.n : Int) := by omega
  have HX := hide (h4 n0 l0).1
  rw [t0]
  clear hI e0 hp h4
  have hS := Sx.new w
  go_enter Tryz.func23, Tryz.ntmps23
  go_wp2_with (first | (refine ybox hS (h := ?_); clear hS; intro _ _ hS) | (refine yall hS (h := ?_); clear hS; intro _ _ hS) | refine yld hS (h := ?_) | (refine yst hS (h := ?_); clear hS; intro _ hS))
  refine ((unhide HC) _).mono ?_
  rintro r u ⟨rfl, hb⟩
  replace hS := hS.call hb
  clear hb HC
  have q9 := (hS.bel.cell (p := ⟨b, off + n0, none⟩) h3).trans (unhide HX)
  go_wp2_with fail
  have hB := hS.bel
  clear hS q9
  go_wp2
  go_ret
  exact ⟨rfl, hB⟩

set_option maxHeartbeats 4000000 in
theorem lPut_any (c : Um.Cf) {v : Value} {ws : Nat → Nat} {kd i : Int} {y : Nat} (w : World) (hI : IsWords w v c.n ws) (hp : 0 ≤ c.cl kd i) (hy : Um.Word y) :
    Calls Tryz.prog 24 #[(.agg #[.int .i64 (c.t), .int .i64 (c.s), .int .i64 (c.k), .int .i64 (c.g), .int .u64 (c.q : Int)]), v, (.agg #[.int .i64 kd, .int .i64 i]), .int .u64 (y : Nat)] w fun r w' => ∃ v', r = .returned v' ∧ IsWords w' v' c.n (Um.putW ws (c.cl kd i).toNat y) ∧ Below w.heap.size w w' := by
  obtain ⟨n0, e0, l0, t0⟩ := cell_num hp
  obtain ⟨g, off, cap, rfl, h1, h2, hg, h4⟩ := words_at hI (by omega)
  have HC := hide (rCellC c e0)
  have l0' : (n0 : Int) < (c.n : Int) := by omega
  have hn0 : 0 < c.n := by omega
  have hn1 := c.n_le
  have hb8 : c.n * 8 ≤ 140737488355328 := by omega
  have HX := hide h4
  rw [t0]
  clear hI e0 hp h4
  have hS := St.new w
  go_enter Tryz.func24, Tryz.ntmps24
  go_wp2_with (first | (refine wpl_empty hS rfl rfl ?_; clear hS; intro _ _ hS) | (refine wpl_clone hS rfl _ _ rfl _ rfl _ _ _ _ rfl ws (fun j hj => (hS.bel.cell (p := ⟨g, off + j, none⟩) hg).trans ((unhide HX) j hj).1) hn0 hb8 ?_; clear hS; intro g' cg w' hS hc1 hc2; dsimp only [List.cons_append, List.nil_append] at hS) | (first | (refine wpl_box hS rfl _ _ rfl _ rfl _ (by intro _; simp only [Act.put, List.setIfInBounds_toArray, List.set_cons_zero, List.set_cons_succ]; first | done | exact rfl) ?_; clear hS; intro _ _ hS; dsimp only [blit, List.set, List.cons_append, List.nil_append, Value.cells, List.toList_toArray] at hS) | (refine wpl_alloc hS rfl _ rfl _ (zer_any rfl) _ (by intro _; simp only [Act.put, List.setIfInBounds_toArray, List.set_cons_zero, List.set_cons_succ]; first | done | exact rfl) ?_; clear hS; intro _ _ hS; dsimp only [blit, List.set, List.cons_append, List.nil_append, Value.cells, List.toList_toArray] at hS) | (refine wpl_ld hS rfl _ _ rfl _ _ rfl ?_; (first | refine ⟨0, _, rfl, ?_⟩ | refine ⟨1, _, rfl, ?_⟩ | refine ⟨2, _, rfl, ?_⟩ | refine ⟨3, _, rfl, ?_⟩ | refine ⟨4, _, rfl, ?_⟩ | refine ⟨5, _, rfl, ?_⟩ | refine ⟨6, _, rfl, ?_⟩ | refine ⟨7, _, rfl, ?_⟩ | refine ⟨8, _, rfl, ?_⟩ | refine ⟨9, _, rfl, ?_⟩); first | refine .inl ⟨_, one_any rfl, rfl, _, (by simp only [Act.put, List.setIfInBounds_toArray, List.set_cons_zero, List.set_cons_succ]; first | done | exact rfl), ?_⟩ | refine .inr ⟨_, _, row_any rfl, rfl, (by dsimp only [cutL, List.drop, List.take]; first | done | exact rfl), _, (by simp only [Act.put, List.setIfInBounds_toArray, List.set_cons_zero, List.set_cons_succ]; first | done | exact rfl), ?_⟩) | (refine wpl_st hS rfl _ _ _ rfl rfl _ _ rfl ?_; (first | refine ⟨0, _, rfl, ?_⟩ | refine ⟨1, _, rfl, ?_⟩ | refine ⟨2, _, rfl, ?_⟩ | refine ⟨3, _, rfl, ?_⟩ | refine ⟨4, _, rfl, ?_⟩ | refine ⟨5, _, rfl, ?_⟩ | refine ⟨6, _, rfl, ?_⟩ | refine ⟨7, _, rfl, ?_⟩ | refine ⟨8, _, rfl, ?_⟩ | refine ⟨9, _, rfl, ?_⟩); refine ⟨_, (by first | exact shA rfl | exact shI rfl | exact shB rfl | exact shS rfl | exact shP rfl | exact shF rfl | exact shN rfl), _, siz_any rfl, (by exact rfl), (by exact rfl), (by exact rfl), ?_⟩; clear hS; intro _ hS; dsimp only [blit, List.set, List.cons_append, List.nil_append, Value.cells, List.toList_toArray] at hS)))
  refine ((unhide HC) _).mono ?_
  rintro r u ⟨rfl, hb⟩
  replace hS := hS.call hb
  clear hb HC
  have x1 : (n0 : Int) < (c.n : Int) := by omega
  go_wp2_with (first | (refine wpl_storeW hS 2 rfl _ _ rfl rfl _ _ rfl _ _ rfl l0 _ rfl ?_; clear hS; intro _ hS; dsimp only [List.set] at hS) | (first | (refine wpl_box hS rfl _ _ rfl _ rfl _ (by intro _; simp only [Act.put, List.setIfInBounds_toArray, List.set_cons_zero, List.set_cons_succ]; first | done | exact rfl) ?_; clear hS; intro _ _ hS; dsimp only [blit, List.set, List.cons_append, List.nil_append, Value.cells, List.toList_toArray] at hS) | (refine wpl_alloc hS rfl _ rfl _ (zer_any rfl) _ (by intro _; simp only [Act.put, List.setIfInBounds_toArray, List.set_cons_zero, List.set_cons_succ]; first | done | exact rfl) ?_; clear hS; intro _ _ hS; dsimp only [blit, List.set, List.cons_append, List.nil_append, Value.cells, List.toList_toArray] at hS) | (refine wpl_ld hS rfl _ _ rfl _ _ rfl ?_; (first | refine ⟨0, _, rfl, ?_⟩ | refine ⟨1, _, rfl, ?_⟩ | refine ⟨2, _, rfl, ?_⟩ | refine ⟨3, _, rfl, ?_⟩ | refine ⟨4, _, rfl, ?_⟩ | refine ⟨5, _, rfl, ?_⟩ | refine ⟨6, _, rfl, ?_⟩ | refine ⟨7, _, rfl, ?_⟩ | refine ⟨8, _, rfl, ?_⟩ | refine ⟨9, _, rfl, ?_⟩); first | refine .inl ⟨_, one_any rfl, rfl, _, (by simp only [Act.put, List.setIfInBounds_toArray, List.set_cons_zero, List.set_cons_succ]; first | done | exact rfl), ?_⟩ | refine .inr ⟨_, _, row_any rfl, rfl, (by dsimp only [cutL, List.drop, List.take]; first | done | exact rfl), _, (by simp only [Act.put, List.setIfInBounds_toArray, List.set_cons_zero, List.set_cons_succ]; first | done | exact rfl), ?_⟩) | (refine wpl_st hS rfl _ _ _ rfl rfl _ _ rfl ?_; (first | refine ⟨0, _, rfl, ?_⟩ | refine ⟨1, _, rfl, ?_⟩ | refine ⟨2, _, rfl, ?_⟩ | refine ⟨3, _, rfl, ?_⟩ | refine ⟨4, _, rfl, ?_⟩ | refine ⟨5, _, rfl, ?_⟩ | refine ⟨6, _, rfl, ?_⟩ | refine ⟨7, _, rfl, ?_⟩ | refine ⟨8, _, rfl, ?_⟩ | refine ⟨9, _, rfl, ?_⟩); refine ⟨_, (by first | exact shA rfl | exact shI rfl | exact shB rfl | exact shS rfl | exact shP rfl | exact shF rfl | exact shN rfl), _, siz_any rfl, (by exact rfl), (by exact rfl), (by exact rfl), ?_⟩; clear hS; intro _ hS; dsimp only [blit, List.set, List.cons_append, List.nil_append, Value.cells, List.toList_toArray] at hS)))
  have HS := hide hS
  clear hS
  go_wp2
  go_ret
  have hB := (unhide HS).get 2 rfl
  refine ⟨_, rfl, .inr ⟨g', 0, cg, rfl, hn0, hc1, hc2, hB.lt, fun j hj => ⟨?_, ?_⟩⟩, (unhide HS).bel⟩
  · rw [Nat.zero_add]
    exact hB.cell j _ (rowW_get _ c.n j hj)
  · unfold Um.putW
    split
    · exact hy
    · exact ((unhide HX) j hj).2

set_option maxHeartbeats 1000000 in
theorem lGone_n1 (s n sn : Nat) (w : World) (hs : Um.Word s) (h : Um.stN s < 2) : Calls Tryz.prog 65 #[.int .u64 (s : Nat), .int .u64 (n : Nat), .int .u64 (sn : Nat)] w fun r w' => r = .returned (.bool true) ∧ Below w.heap.size w w' := by
  have a1p : ((Um.stN s : Nat) : Int) < 2 := by omega
  have a1 : decide (((Um.stN s : Nat) : Int) < 2) = true := decide_eq_true a1p
  have HC := hide (fun u => rState_b s u hs)
  generalize ((Um.stN s : Nat) : Int) = st at *
  go_enter Tryz.func65, Tryz.ntmps65
  go_wp2_with fail
  refine ((unhide HC) _).mono ?_
  rintro r u ⟨rfl, hb⟩
  go_wp2
  go_ret
  exact ⟨rfl, hb⟩

set_option maxHeartbeats 1000000 in
theorem lGone_n2 (s n sn : Nat) (w : World) (hs : Um.Word s) (h : ¬ Um.stN s < 2) (h2 : 4 < Um.stN s) : Calls Tryz.prog 65 #[.int .u64 (s : Nat), .int .u64 (n : Nat), .int .u64 (sn : Nat)] w fun r w' => r = .returned (.bool true) ∧ Below w.heap.size w w' := by
  have a1p : ¬ ((Um.stN s : Nat) : Int) < 2 := by omega
  have a1 : decide (((Um.stN s : Nat) : Int) < 2) = false := decide_eq_false a1p
  have a2p : (4 : Int) < ((Um.stN s : Nat) : Int) := by omega
  have a2 : decide ((4 : Int) < ((Um.stN s : Nat) : Int)) = true := decide_eq_true a2p
  have HC := hide (fun u => rState_b s u hs)
  generalize ((Um.stN s : Nat) : Int) = st at *
  go_enter Tryz.func65, Tryz.ntmps65
  go_wp2_with fail
  refine ((unhide HC) _).mono ?_
  rintro r u ⟨rfl, hb⟩
  go_wp2
  go_ret
  exact ⟨rfl, hb⟩

set_option maxHeartbeats 1000000 in
theorem lGone_n3 (s n sn : Nat) (w : World) (hs : Um.Word s) (h : ¬ Um.stN s < 2) (h2 : ¬ 4 < Um.stN s) (h3 : Um.stN s ≠ 4) : Calls Tryz.prog 65 #[.int .u64 (s : Nat), .int .u64 (n : Nat), .int .u64 (sn : Nat)] w fun r w' => r = .returned (.bool false) ∧ Below w.heap.size w w' := by
  have a1p : ¬ ((Um.stN s : Nat) : Int) < 2 := by omega
  have a1 : decide (((Um.stN s : Nat) : Int) < 2) = false := decide_eq_false a1p
  have a2p : ¬ (4 : Int) < ((Um.stN s : Nat) : Int) := by omega
  have a2 : decide ((4 : Int) < ((Um.stN s : Nat) : Int)) = false := decide_eq_false a2p
  have a3p : ¬ ((Um.stN s : Nat) : Int) = 4 := by omega
  have a3 : (((Um.stN s : Nat) : Int) == 4) = false := by simpa using a3p
  have HC := hide (fun u => rState_b s u hs)
  generalize ((Um.stN s : Nat) : Int) = st at *
  go_enter Tryz.func65, Tryz.ntmps65
  go_wp2_with fail
  refine ((unhide HC) _).mono ?_
  rintro r u ⟨rfl, hb⟩
  go_wp2
  go_ret
  exact ⟨rfl, hb⟩

set_option maxHeartbeats 1000000 in
theorem lGone_n4 (s n sn : Nat) (w : World) (hs : Um.Word s) (h : ¬ Um.stN s < 2) (h2 : ¬ 4 < Um.stN s) (h3 : Um.stN s = 4) (h4 : n = 0) : Calls Tryz.prog 65 #[.int .u64 (s : Nat), .int .u64 (n : Nat), .int .u64 (sn : Nat)] w fun r w' => r = .returned (.bool false) ∧ Below w.heap.size w w' := by
  have a1p : ¬ ((Um.stN s : Nat) : Int) < 2 := by omega
  have a1 : decide (((Um.stN s : Nat) : Int) < 2) = false := decide_eq_false a1p
  have a2p : ¬ (4 : Int) < ((Um.stN s : Nat) : Int) := by omega
  have a2 : decide ((4 : Int) < ((Um.stN s : Nat) : Int)) = false := decide_eq_false a2p
  have a3p : ((Um.stN s : Nat) : Int) = 4 := by omega
  have a3 : (((Um.stN s : Nat) : Int) == 4) = true := by simpa using a3p
  subst h4
  have HC := hide (fun u => rState_b s u hs)
  generalize ((Um.stN s : Nat) : Int) = st at *
  go_enter Tryz.func65, Tryz.ntmps65
  go_wp2_with fail
  refine ((unhide HC) _).mono ?_
  rintro r u ⟨rfl, hb⟩
  go_wp2
  go_ret
  exact ⟨rfl, hb⟩

set_option maxHeartbeats 1000000 in
theorem lGone_n5 (s n sn : Nat) (w : World) (hs : Um.Word s) (h : ¬ Um.stN s < 2) (h2 : ¬ 4 < Um.stN s) (h3 : Um.stN s = 4) (h4 : n ≠ 0) (h5 : n ≤ sn) : Calls Tryz.prog 65 #[.int .u64 (s : Nat), .int .u64 (n : Nat), .int .u64 (sn : Nat)] w fun r w' => r = .returned (.bool true) ∧ Below w.heap.size w w' := by
  have a1p : ¬ ((Um.stN s : Nat) : Int) < 2 := by omega
  have a1 : decide (((Um.stN s : Nat) : Int) < 2) = false := decide_eq_false a1p
  have a2p : ¬ (4 : Int) < ((Um.stN s : Nat) : Int) := by omega
  have a2 : decide ((4 : Int) < ((Um.stN s : Nat) : Int)) = false := decide_eq_false a2p
  have a3p : ((Um.stN s : Nat) : Int) = 4 := by omega
  have a3 : (((Um.stN s : Nat) : Int) == 4) = true := by simpa using a3p
  have a4p : ¬ ((n : Nat) : Int) = 0 := by omega
  have a4 : (((n : Nat) : Int) != 0) = true := by simpa using a4p
  have a5p : ((n : Nat) : Int) ≤ ((sn : Nat) : Int) := by omega
  have a5 : decide (((n : Nat) : Int) ≤ ((sn : Nat) : Int)) = true := decide_eq_true a5p
  have HC := hide (fun u => rState_b s u hs)
  generalize ((Um.stN s : Nat) : Int) = st at *
  go_enter Tryz.func65, Tryz.ntmps65
  go_wp2_with fail
  refine ((unhide HC) _).mono ?_
  rintro r u ⟨rfl, hb⟩
  go_wp2
  go_ret
  exact ⟨rfl, hb⟩

set_option maxHeartbeats 1000000 in
theorem lGone_n6 (s n sn : Nat) (w : World) (hs : Um.Word s) (h : ¬ Um.stN s < 2) (h2 : ¬ 4 < Um.stN s) (h3 : Um.stN s = 4) (h4 : n ≠ 0) (h5 : ¬ n ≤ sn) : Calls Tryz.prog 65 #[.int .u64 (s : Nat), .int .u64 (n : Nat), .int .u64 (sn : Nat)] w fun r w' => r = .returned (.bool false) ∧ Below w.heap.size w w' := by
  have a1p : ¬ ((Um.stN s : Nat) : Int) < 2 := by omega
  have a1 : decide (((Um.stN s : Nat) : Int) < 2) = false := decide_eq_false a1p
  have a2p : ¬ (4 : Int) < ((Um.stN s : Nat) : Int) := by omega
  have a2 : decide ((4 : Int) < ((Um.stN s : Nat) : Int)) = false := decide_eq_false a2p
  have a3p : ((Um.stN s : Nat) : Int) = 4 := by omega
  have a3 : (((Um.stN s : Nat) : Int) == 4) = true := by simpa using a3p
  have a4p : ¬ ((n : Nat) : Int) = 0 := by omega
  have a4 : (((n : Nat) : Int) != 0) = true := by simpa using a4p
  have a5p : ¬ ((n : Nat) : Int) ≤ ((sn : Nat) : Int) := by omega
  have a5 : decide (((n : Nat) : Int) ≤ ((sn : Nat) : Int)) = false := decide_eq_false a5p
  have HC := hide (fun u => rState_b s u hs)
  generalize ((Um.stN s : Nat) : Int) = st at *
  go_enter Tryz.func65, Tryz.ntmps65
  go_wp2_with fail
  refine ((unhide HC) _).mono ?_
  rintro r u ⟨rfl, hb⟩
  go_wp2
  go_ret
  exact ⟨rfl, hb⟩

theorem lGone_any (s n sn : Nat) (w : World) (hs : Um.Word s) : Calls Tryz.prog 65 #[.int .u64 (s : Nat), .int .u64 (n : Nat), .int .u64 (sn : Nat)] w fun r w' => r = .returned (.bool (Um.goneB s n sn)) ∧ Below w.heap.size w w' := by
  unfold Um.goneB
  by_cases h1 : Um.stN s < 2
  · rw [decide_eq_true (.inl h1)]
    exact lGone_n1 s n sn w hs h1
  by_cases h2 : 4 < Um.stN s
  · rw [decide_eq_true (.inr (.inl h2))]
    exact lGone_n2 s n sn w hs h1 h2
  by_cases h3 : Um.stN s = 4
  · by_cases h4 : n = 0
    · rw [decide_eq_false (by rintro (q | q | ⟨_, q⟩); exact h1 q; exact h2 q; exact absurd (of_decide_eq_true q).1 (by omega))]
      exact lGone_n4 s n sn w hs h1 h2 h3 h4
    · by_cases h5 : n ≤ sn
      · rw [decide_eq_true (.inr (.inr ⟨h3, decide_eq_true ⟨by omega, h5⟩⟩))]
        exact lGone_n5 s n sn w hs h1 h2 h3 h4 h5
      · rw [decide_eq_false (by rintro (q | q | ⟨_, q⟩); exact h1 q; exact h2 q; exact h5 (of_decide_eq_true q).2)]
        exact lGone_n6 s n sn w hs h1 h2 h3 h4 h5
  · rw [decide_eq_false (by rintro (q | q | ⟨q, _⟩); exact h1 q; exact h2 q; exact h3 q)]
    exact lGone_n3 s n sn w hs h1 h2 h3

set_option maxHeartbeats 2000000 in
theorem lBarred_g (c : Um.Cf) {v : Value} {ws : Nat → Nat} (h : Nat) (w : World) (hr : c.r = true) (hI : IsWords w v c.n ws) (hh : Um.Word h) (hn : Um.ook h c.s = true) (hf : ¬ ((Um.gnN (ws (c.cl 4 (Um.svN h)).toNat) : Nat) : Int) = Um.tgN h) :
    Calls Tryz.prog 21 #[(.agg #[.int .i64 (c.t), .int .i64 (c.s), .int .i64 (c.k), .int .i64 (c.g), .int .u64 (c.q : Int)]), v, .int .u64 (h : Nat)] w fun r w' => r = .returned (.int .i64 2) ∧ Below w.heap.size w w' := by
  obtain ⟨c4, _⟩ := Um.sl_cells (c := c) hr (Um.ook_facts hn).1 (Um.ook_facts hn).2.1
  obtain ⟨W, hW⟩ : ∃ W, W = ws (c.cl 4 (Um.svN h)).toNat := ⟨_, rfl⟩
  have HK := hide (fun u => krOf_any h c.s u hh)
  rw [hn, Um.os_yes hn, Um.og_yes hn, ← (Um.ook_facts hn).2.2] at HK
  have HA := hide (fun u (hI : IsWords u v c.n ws) => lAt_any c (kd := 4) (i := Um.svN h) u hI (by omega))
  have HWW := hide (show Um.Word W by rw [hW]; exact words_word12 hI (Um.Cf.cl_lt (by omega)))
  rw [← hW] at HA hf
  have HI := hide hI
  clear hW hI c4 hr hn hh
  have a1 : (((Um.gnN W : Nat) : Int) != Um.tgN h) = true := by simpa using hf
  clear hf
  have hS := Sx.new w
  go_enter Tryz.func21, Tryz.ntmps21
  go_wp2_with (first | (refine ybox hS (h := ?_); clear hS; intro _ _ hS) | (refine yall hS (h := ?_); clear hS; intro _ _ hS) | refine yld hS (h := ?_) | (refine yst hS (h := ?_); clear hS; intro _ hS))
  refine ((unhide HK) _).mono ?_
  rintro r u ⟨rfl, rfl⟩
  go_wp2_with (first | (refine ybox hS (h := ?_); clear hS; intro _ _ hS) | (refine yall hS (h := ?_); clear hS; intro _ _ hS) | refine yld hS (h := ?_) | (refine yst hS (h := ?_); clear hS; intro _ hS))
  refine ((unhide HA) _ ((unhide HI).below hS.bel (Nat.le_refl _))).mono ?_
  rintro r u ⟨rfl, hb⟩
  replace hS := hS.call hb
  clear hb HA HK
  go_wp2_with fail
  refine (rGen_b W _ (unhide HWW)).mono ?_
  rintro r u ⟨rfl, hb⟩
  replace hS := hS.call hb
  clear hb
  have hB := hS.bel
  clear hS
  go_wp2
  go_ret
  exact ⟨rfl, hB⟩

set_option maxHeartbeats 2000000 in
theorem lBarred_s (c : Um.Cf) {v : Value} {ws : Nat → Nat} (h : Nat) (w : World) (hr : c.r = true) (hI : IsWords w v c.n ws) (hh : Um.Word h) (hn : Um.ook h c.s = true) (hg : ((Um.gnN (ws (c.cl 4 (Um.svN h)).toNat) : Nat) : Int) = Um.tgN h) (hf : Um.stN (ws (c.cl 4 (Um.svN h)).toNat) < 2) :
    Calls Tryz.prog 21 #[(.agg #[.int .i64 (c.t), .int .i64 (c.s), .int .i64 (c.k), .int .i64 (c.g), .int .u64 (c.q : Int)]), v, .int .u64 (h : Nat)] w fun r w' => r = .returned (.int .i64 2) ∧ Below w.heap.size w w' := by
  obtain ⟨c4, _⟩ := Um.sl_cells (c := c) hr (Um.ook_facts hn).1 (Um.ook_facts hn).2.1
  obtain ⟨W, hW⟩ : ∃ W, W = ws (c.cl 4 (Um.svN h)).toNat := ⟨_, rfl⟩
  have HK := hide (fun u => krOf_any h c.s u hh)
  rw [hn, Um.os_yes hn, Um.og_yes hn, ← (Um.ook_facts hn).2.2] at HK
  have HA := hide (fun u (hI : IsWords u v c.n ws) => lAt_any c (kd := 4) (i := Um.svN h) u hI (by omega))
  have HWW := hide (show Um.Word W by rw [hW]; exact words_word12 hI (Um.Cf.cl_lt (by omega)))
  rw [← hW] at HA hf hg
  have HI := hide hI
  clear hW hI c4 hr hn hh
  have a1p : ((Um.gnN W : Nat) : Int) = Um.tgN h := hg
  have a1 : (((Um.gnN W : Nat) : Int) != Um.tgN h) = false := by rw [hg]; simp
  have a2p : ((Um.stN W : Nat) : Int) < 2 := by omega
  have a2 : decide (((Um.stN W : Nat) : Int) < 2) = true := decide_eq_true a2p
  clear hf hg
  have hS := Sx.new w
  go_enter Tryz.func21, Tryz.ntmps21
  go_wp2_with (first | (refine ybox hS (h := ?_); clear hS; intro _ _ hS) | (refine yall hS (h := ?_); clear hS; intro _ _ hS) | refine yld hS (h := ?_) | (refine yst hS (h := ?_); clear hS; intro _ hS))
  refine ((unhide HK) _).mono ?_
  rintro r u ⟨rfl, rfl⟩
  go_wp2_with (first | (refine ybox hS (h := ?_); clear hS; intro _ _ hS) | (refine yall hS (h := ?_); clear hS; intro _ _ hS) | refine yld hS (h := ?_) | (refine yst hS (h := ?_); clear hS; intro _ hS))
  refine ((unhide HA) _ ((unhide HI).below hS.bel (Nat.le_refl _))).mono ?_
  rintro r u ⟨rfl, hb⟩
  replace hS := hS.call hb
  clear hb HA HK
  go_wp2_with fail
  refine (rGen_b W _ (unhide HWW)).mono ?_
  rintro r u ⟨rfl, hb⟩
  replace hS := hS.call hb
  clear hb
  go_wp2_with fail
  refine (rState_b W _ (unhide HWW)).mono ?_
  rintro r u ⟨rfl, hb⟩
  replace hS := hS.call hb
  clear hb
  have hB := hS.bel
  clear hS
  go_wp2
  go_ret
  exact ⟨rfl, hB⟩

set_option maxHeartbeats 2000000 in
theorem lBarred_b (c : Um.Cf) {v : Value} {ws : Nat → Nat} (h : Nat) (w : World) (hr : c.r = true) (hI : IsWords w v c.n ws) (hh : Um.Word h) (hn : Um.ook h c.s = true) (hg : ((Um.gnN (ws (c.cl 4 (Um.svN h)).toNat) : Nat) : Int) = Um.tgN h) (h2 : ¬ Um.stN (ws (c.cl 4 (Um.svN h)).toNat) < 2) (hf : (ws (c.cl 4 (Um.svN h)).toNat).testBit 26 = true) :
    Calls Tryz.prog 21 #[(.agg #[.int .i64 (c.t), .int .i64 (c.s), .int .i64 (c.k), .int .i64 (c.g), .int .u64 (c.q : Int)]), v, .int .u64 (h : Nat)] w fun r w' => r = .returned (.int .i64 3) ∧ Below w.heap.size w w' := by
  obtain ⟨c4, _⟩ := Um.sl_cells (c := c) hr (Um.ook_facts hn).1 (Um.ook_facts hn).2.1
  obtain ⟨W, hW⟩ : ∃ W, W = ws (c.cl 4 (Um.svN h)).toNat := ⟨_, rfl⟩
  have HK := hide (fun u => krOf_any h c.s u hh)
  rw [hn, Um.os_yes hn, Um.og_yes hn, ← (Um.ook_facts hn).2.2] at HK
  have HA := hide (fun u (hI : IsWords u v c.n ws) => lAt_any c (kd := 4) (i := Um.svN h) u hI (by omega))
  have HWW := hide (show Um.Word W by rw [hW]; exact words_word12 hI (Um.Cf.cl_lt (by omega)))
  rw [← hW] at HA hf hg h2
  have HI := hide hI
  clear hW hI c4 hr hn hh
  have a1p : ((Um.gnN W : Nat) : Int) = Um.tgN h := hg
  have a1 : (((Um.gnN W : Nat) : Int) != Um.tgN h) = false := by rw [hg]; simp
  have a2p : ¬ ((Um.stN W : Nat) : Int) < 2 := by omega
  have a2 : decide (((Um.stN W : Nat) : Int) < 2) = false := decide_eq_false a2p
  have HB := hide hf
  clear hf hg h2
  have hS := Sx.new w
  go_enter Tryz.func21, Tryz.ntmps21
  go_wp2_with (first | (refine ybox hS (h := ?_); clear hS; intro _ _ hS) | (refine yall hS (h := ?_); clear hS; intro _ _ hS) | refine yld hS (h := ?_) | (refine yst hS (h := ?_); clear hS; intro _ hS))
  refine ((unhide HK) _).mono ?_
  rintro r u ⟨rfl, rfl⟩
  go_wp2_with (first | (refine ybox hS (h := ?_); clear hS; intro _ _ hS) | (refine yall hS (h := ?_); clear hS; intro _ _ hS) | refine yld hS (h := ?_) | (refine yst hS (h := ?_); clear hS; intro _ hS))
  refine ((unhide HA) _ ((unhide HI).below hS.bel (Nat.le_refl _))).mono ?_
  rintro r u ⟨rfl, hb⟩
  replace hS := hS.call hb
  clear hb HA HK
  go_wp2_with fail
  refine (rGen_b W _ (unhide HWW)).mono ?_
  rintro r u ⟨rfl, hb⟩
  replace hS := hS.call hb
  clear hb
  go_wp2_with fail
  refine (rState_b W _ (unhide HWW)).mono ?_
  rintro r u ⟨rfl, hb⟩
  replace hS := hS.call hb
  clear hb
  go_wp2_with fail
  refine (rBusy_x hS W (unhide HWW)).mono ?_
  rintro r u ⟨rfl, hSn⟩
  clear hS
  have hS := hSn
  clear hSn
  rw [unhide HB]
  have hB := hS.bel
  clear hS
  go_wp2
  go_ret
  exact ⟨rfl, hB⟩

set_option maxHeartbeats 2000000 in
theorem lBarred_n (c : Um.Cf) {v : Value} {ws : Nat → Nat} (h : Nat) (w : World) (hr : c.r = true) (hI : IsWords w v c.n ws) (hh : Um.Word h) (hn : Um.ook h c.s = true) (hg : ((Um.gnN (ws (c.cl 4 (Um.svN h)).toNat) : Nat) : Int) = Um.tgN h) (h2 : ¬ Um.stN (ws (c.cl 4 (Um.svN h)).toNat) < 2) (h3 : (ws (c.cl 4 (Um.svN h)).toNat).testBit 26 = false) (hf : ¬ Um.stN (ws (c.cl 4 (Um.svN h)).toNat) = 2) :
    Calls Tryz.prog 21 #[(.agg #[.int .i64 (c.t), .int .i64 (c.s), .int .i64 (c.k), .int .i64 (c.g), .int .u64 (c.q : Int)]), v, .int .u64 (h : Nat)] w fun r w' => r = .returned (.int .i64 4) ∧ Below w.heap.size w w' := by
  obtain ⟨c4, _⟩ := Um.sl_cells (c := c) hr (Um.ook_facts hn).1 (Um.ook_facts hn).2.1
  obtain ⟨W, hW⟩ : ∃ W, W = ws (c.cl 4 (Um.svN h)).toNat := ⟨_, rfl⟩
  have HK := hide (fun u => krOf_any h c.s u hh)
  rw [hn, Um.os_yes hn, Um.og_yes hn, ← (Um.ook_facts hn).2.2] at HK
  have HA := hide (fun u (hI : IsWords u v c.n ws) => lAt_any c (kd := 4) (i := Um.svN h) u hI (by omega))
  have HWW := hide (show Um.Word W by rw [hW]; exact words_word12 hI (Um.Cf.cl_lt (by omega)))
  rw [← hW] at HA hf hg h2 h3
  have HI := hide hI
  clear hW hI c4 hr hn hh
  have a1p : ((Um.gnN W : Nat) : Int) = Um.tgN h := hg
  have a1 : (((Um.gnN W : Nat) : Int) != Um.tgN h) = false := by rw [hg]; simp
  have a2p : ¬ ((Um.stN W : Nat) : Int) < 2 := by omega
  have a2 : decide (((Um.stN W : Nat) : Int) < 2) = false := decide_eq_false a2p
  have HB := hide h3
  have a3p : ¬ ((Um.stN W : Nat) : Int) = 2 := by omega
  have a3 : (((Um.stN W : Nat) : Int) != 2) = true := by simpa using a3p
  clear hf hg h2 h3
  have hS := Sx.new w
  go_enter Tryz.func21, Tryz.ntmps21
  go_wp2_with (first | (refine ybox hS (h := ?_); clear hS; intro _ _ hS) | (refine yall hS (h := ?_); clear hS; intro _ _ hS) | refine yld hS (h := ?_) | (refine yst hS (h := ?_); clear hS; intro _ hS))
  refine ((unhide HK) _).mono ?_
  rintro r u ⟨rfl, rfl⟩
  go_wp2_with (first | (refine ybox hS (h := ?_); clear hS; intro _ _ hS) | (refine yall hS (h := ?_); clear hS; intro _ _ hS) | refine yld hS (h := ?_) | (refine yst hS (h := ?_); clear hS; intro _ hS))
  refine ((unhide HA) _ ((unhide HI).below hS.bel (Nat.le_refl _))).mono ?_
  rintro r u ⟨rfl, hb⟩
  replace hS := hS.call hb
  clear hb HA HK
  go_wp2_with fail
  refine (rGen_b W _ (unhide HWW)).mono ?_
  rintro r u ⟨rfl, hb⟩
  replace hS := hS.call hb
  clear hb
  go_wp2_with fail
  refine (rState_b W _ (unhide HWW)).mono ?_
  rintro r u ⟨rfl, hb⟩
  replace hS := hS.call hb
  clear hb
  go_wp2_with fail
  refine (rBusy_x hS W (unhide HWW)).mono ?_
  rintro r u ⟨rfl, hSn⟩
  clear hS
  have hS := hSn
  clear hSn
  rw [unhide HB]
  go_wp2_with fail
  refine (rState_b W _ (unhide HWW)).mono ?_
  rintro r u ⟨rfl, hb⟩
  replace hS := hS.call hb
  clear hb
  have hB := hS.bel
  clear hS
  go_wp2
  go_ret
  exact ⟨rfl, hB⟩

set_option maxHeartbeats 2000000 in
theorem lBarred_o (c : Um.Cf) {v : Value} {ws : Nat → Nat} (h : Nat) (w : World) (hr : c.r = true) (hI : IsWords w v c.n ws) (hh : Um.Word h) (hn : Um.ook h c.s = true) (hg : ((Um.gnN (ws (c.cl 4 (Um.svN h)).toNat) : Nat) : Int) = Um.tgN h) (h3 : (ws (c.cl 4 (Um.svN h)).toNat).testBit 26 = false) (hf : Um.stN (ws (c.cl 4 (Um.svN h)).toNat) = 2) :
    Calls Tryz.prog 21 #[(.agg #[.int .i64 (c.t), .int .i64 (c.s), .int .i64 (c.k), .int .i64 (c.g), .int .u64 (c.q : Int)]), v, .int .u64 (h : Nat)] w fun r w' => r = .returned (.int .i64 0) ∧ Below w.heap.size w w' := by
  obtain ⟨c4, _⟩ := Um.sl_cells (c := c) hr (Um.ook_facts hn).1 (Um.ook_facts hn).2.1
  obtain ⟨W, hW⟩ : ∃ W, W = ws (c.cl 4 (Um.svN h)).toNat := ⟨_, rfl⟩
  have HK := hide (fun u => krOf_any h c.s u hh)
  rw [hn, Um.os_yes hn, Um.og_yes hn, ← (Um.ook_facts hn).2.2] at HK
  have HA := hide (fun u (hI : IsWords u v c.n ws) => lAt_any c (kd := 4) (i := Um.svN h) u hI (by omega))
  have HWW := hide (show Um.Word W by rw [hW]; exact words_word12 hI (Um.Cf.cl_lt (by omega)))
  rw [← hW] at HA hf hg h3
  have HI := hide hI
  clear hW hI c4 hr hn hh
  have a1p : ((Um.gnN W : Nat) : Int) = Um.tgN h := hg
  have a1 : (((Um.gnN W : Nat) : Int) != Um.tgN h) = false := by rw [hg]; simp
  have a2p : ¬ ((Um.stN W : Nat) : Int) < 2 := by omega
  have a2 : decide (((Um.stN W : Nat) : Int) < 2) = false := decide_eq_false a2p
  have HB := hide h3
  have a3p : ((Um.stN W : Nat) : Int) = 2 := by omega
  have a3 : (((Um.stN W : Nat) : Int) != 2) = false := by rw [a3p]; simp
  clear hf hg h3
  have hS := Sx.new w
  go_enter Tryz.func21, Tryz.ntmps21
  go_wp2_with (first | (refine ybox hS (h := ?_); clear hS; intro _ _ hS) | (refine yall hS (h := ?_); clear hS; intro _ _ hS) | refine yld hS (h := ?_) | (refine yst hS (h := ?_); clear hS; intro _ hS))
  refine ((unhide HK) _).mono ?_
  rintro r u ⟨rfl, rfl⟩
  go_wp2_with (first | (refine ybox hS (h := ?_); clear hS; intro _ _ hS) | (refine yall hS (h := ?_); clear hS; intro _ _ hS) | refine yld hS (h := ?_) | (refine yst hS (h := ?_); clear hS; intro _ hS))
  refine ((unhide HA) _ ((unhide HI).below hS.bel (Nat.le_refl _))).mono ?_
  rintro r u ⟨rfl, hb⟩
  replace hS := hS.call hb
  clear hb HA HK
  go_wp2_with fail
  refine (rGen_b W _ (unhide HWW)).mono ?_
  rintro r u ⟨rfl, hb⟩
  replace hS := hS.call hb
  clear hb
  go_wp2_with fail
  refine (rState_b W _ (unhide HWW)).mono ?_
  rintro r u ⟨rfl, hb⟩
  replace hS := hS.call hb
  clear hb
  go_wp2_with fail
  refine (rBusy_x hS W (unhide HWW)).mono ?_
  rintro r u ⟨rfl, hSn⟩
  clear hS
  have hS := hSn
  clear hSn
  rw [unhide HB]
  go_wp2_with fail
  refine (rState_b W _ (unhide HWW)).mono ?_
  rintro r u ⟨rfl, hb⟩
  replace hS := hS.call hb
  clear hb
  have hB := hS.bel
  clear hS
  go_wp2
  go_ret
  exact ⟨rfl, hB⟩

set_option maxHeartbeats 2000000 in
theorem lBarred_none (c : Um.Cf) (v : Value) (h : Nat) (w : World) (hh : Um.Word h) (hn : Um.ook h c.s = false) :
    Calls Tryz.prog 21 #[(.agg #[.int .i64 (c.t), .int .i64 (c.s), .int .i64 (c.k), .int .i64 (c.g), .int .u64 (c.q : Int)]), v, .int .u64 (h : Nat)] w fun r w' => r = .returned (.int .i64 2) ∧ Below w.heap.size w w' := by
  have HK := hide (fun u => krOf_any h c.s u hh)
  rw [hn] at HK
  clear hn hh
  have hS := Sx.new w
  go_enter Tryz.func21, Tryz.ntmps21
  go_wp2_with (first | (refine ybox hS (h := ?_); clear hS; intro _ _ hS) | (refine yall hS (h := ?_); clear hS; intro _ _ hS) | refine yld hS (h := ?_) | (refine yst hS (h := ?_); clear hS; intro _ hS))
  refine ((unhide HK) _).mono ?_
  rintro r u ⟨rfl, rfl⟩
  have hB := hS.bel
  clear hS HK
  go_wp2
  go_ret
  exact ⟨rfl, hB⟩

/-- why a read is not entered, if its ticket names a transaction -/
theorem lBarred_any (c : Um.Cf) {v : Value} {ws : Nat → Nat} (h : Nat) (w : World) (hr : c.r = true) (hI : IsWords w v c.n ws) (hh : Um.Word h) :
    Calls Tryz.prog 21 #[(.agg #[.int .i64 (c.t), .int .i64 (c.s), .int .i64 (c.k), .int .i64 (c.g), .int .u64 (c.q : Int)]), v, .int .u64 (h : Nat)] w fun r w' => r = .returned (.int .i64 (if Um.ook h c.s = true then Um.flN h inn12 (ws (c.cl 4 (Um.svN h)).toNat) else 2)) ∧ Below w.heap.size w w' := by
  cases hn : Um.ook h c.s with
  | false =>
    rw [if_neg (by decide)]
    exact lBarred_none c v h w hh hn
  | true =>
    rw [if_pos rfl]
    unfold Um.flN
    by_cases hg : ((Um.gnN (ws (c.cl 4 (Um.svN h)).toNat) : Nat) : Int) = Um.tgN h
    · by_cases h2 : Um.stN (ws (c.cl 4 (Um.svN h)).toNat) < 2
      · rw [if_pos (by omega)]
        exact lBarred_s c h w hr hI hh hn hg h2
      · rw [if_neg (by omega)]
        cases h3 : (ws (c.cl 4 (Um.svN h)).toNat).testBit 26 with
        | true =>
          rw [if_pos rfl]
          exact lBarred_b c h w hr hI hh hn hg h2 h3
        | false =>
          rw [if_neg (by decide)]
          by_cases h4 : Um.stN (ws (c.cl 4 (Um.svN h)).toNat) = 2
          · rw [h4, show inn12 2 = true by decide +kernel, if_pos rfl]
            exact lBarred_o c h w hr hI hh hn hg h3 h4
          · have hlt : Um.stN (ws (c.cl 4 (Um.svN h)).toNat) < 8 := Um.part_lt _ 27 3
            have hi : inn12 (Um.stN (ws (c.cl 4 (Um.svN h)).toNat)) = false := by
              generalize Um.stN (ws (c.cl 4 (Um.svN h)).toNat) = z at h2 h4 hlt
              rcases (by omega : z = 3 ∨ z = 4 ∨ z = 5 ∨ z = 6 ∨ z = 7) with rfl | rfl | rfl | rfl | rfl <;> decide +kernel
            rw [hi, if_neg (by decide)]
            exact lBarred_n c h w hr hI hh hn hg h2 h3 h4
    · rw [if_pos (.inl hg)]
      exact lBarred_g c h w hr hI hh hn hg

end Go.Proofs.YtapgghciieloaaaGreat
