/-
  Texts that the laws stand on, merged (JoinRA, BlkO, ReadR, ReadR3, ReadR2, ReadR4, ReadR5, ReadR6, ReadR7, ReadR8, ReadR9).
-/
import Derived.Test.YtapgghciieloaaaGreatQ11
import Derived.Test.YtapgghciieloaaaGreatQ12
import Derived.Test.YtapgghciieloaaaGreatQ15
import Derived.Test.YtapgghciieloaaaGreatQ16
import Derived.Test.YtapgghciieloaaaGreatQ18
import Derived.Test.YtapgghciieloaaaGreatQ19
import Derived.Test.YtapgghciieloaaaGreatQ20
import Derived.Test.YtapgghciieloaaaGreatQ21
import Derived.Test.YtapgghciieloaaaGreatQ3
import Derived.Test.YtapgghciieloaaaGreatQ9
import Derived.Lib.QuietBelow

namespace Go.Proofs.YtapgghciieloaaaGreat
section
set_option maxRecDepth 100000
open Go.RowKit Go.Sort
def joinV (sl sd b : Int) (sn : Nat) (o : Um.Js) : Value := .agg #[.int .i64 sl, .int .i64 sd, .int .i64 b, .int .u64 (sn : Nat), .int .i64 ((o.nx : Nat) : Int), .int .u64 (o.s : Nat), .int .i64 ((o.r : Nat) : Int)]
def ownV (sl sd b : Int) (o : Um.Ls) : Value := .agg #[.int .i64 sl, .int .i64 sd, .int .i64 b, .bool o.lk, .int .u64 (o.s : Nat), .bool o.dn]
theorem jg_jjd (sd b : Int) (M : Um.Mm) (nx s : Nat) : Jg sd b s ((nx : Nat) : Int) (((Um.jjd sd b M nx s).nx : Nat) : Int) (((Um.jjd sd b M nx s).r : Nat) : Int) := by
  unfold Jg Um.jjd
  refine ⟨fun h => ?_, fun h h2 h3 => ?_, fun h h2 => ?_⟩
  · rw [if_pos h]; exact ⟨rfl, rfl⟩
  · rw [if_neg (by rw [h]; decide), if_pos ⟨h2, h3⟩]; exact ⟨rfl, rfl⟩
  · have hno : ¬ (Um.stN s ≠ 2 ∧ Um.anyN s (1 - sd) = true) := by
      rintro ⟨q1, q2⟩
      rcases h2 with h2 | h2
      · exact q1 h2
      · rw [h2] at q2; cases q2
    rw [if_neg (by rw [h]; decide), if_neg hno]; exact ⟨rfl, rfl⟩
set_option maxHeartbeats 1000000 in
theorem rStep11_any (w : World) (c : Um.Cf) (sl sd b : Int) (sn : Nat) (o O2 : Um.Js) (hO : O2 = Um.jstep c sl sd b sn o) (g cg : Nat) (ho : Um.Jok c o) (hd0 : -1 ≤ sd) (hd1 : sd ≤ 2) (hB : BlkAt w g (rowW o.m.ws c.n)) (hr : c.r = true) (h1 : c.n ≤ cg) (h2 : cg ≤ maxLen) :
    Calls Tryz.prog 96 #[joinV sl sd b sn o, (.agg #[.int .i64 c.t, .int .i64 c.s, .int .i64 c.k, .int .i64 c.g, .int .u64 c.q, (.slice (some ⟨g, 0, none⟩) c.n cg), .int .i64 o.m.cnt, .int .i64 o.m.l.kind, .int .i64 o.m.l.a, .int .i64 o.m.l.b, .int .u64 (o.m.l.old : Nat), .int .u64 (o.m.l.new : Nat), .bool o.m.l.done])] w fun r w' => ∃ g' cg', r = .returned (.tuple #[joinV sl sd b sn O2, (.agg #[.int .i64 c.t, .int .i64 c.s, .int .i64 c.k, .int .i64 c.g, .int .u64 c.q, (.slice (some ⟨g', 0, none⟩) c.n cg'), .int .i64 O2.m.cnt, .int .i64 O2.m.l.kind, .int .i64 O2.m.l.a, .int .i64 O2.m.l.b, .int .u64 (O2.m.l.old : Nat), .int .u64 (O2.m.l.new : Nat), .bool O2.m.l.done])]) ∧ c.n ≤ cg' ∧ cg' ≤ maxLen ∧ Fr w g g' ∧ BlkAt w' g' (rowW O2.m.ws c.n) ∧ Below w.heap.size w w' := by
  obtain ⟨m, nx, s, r⟩ := o
  obtain ⟨i1, i2, i3, i4⟩ := ho
  dsimp only at *
  by_cases hz : r = 0
  · subst hz
    rcases (by omega : nx = 0 ∨ nx = 1 ∨ nx = 2) with rfl | rfl | rfl
    · obtain ⟨M, hM⟩ : ∃ M, M = Um.mtouch c m 1 4 sl 0 0 := ⟨_, rfl⟩
      have eO : O2 = (if Um.stN M.l.old = 4 then ⟨M, 1, M.l.old, 0⟩ else if Um.stN M.l.old = 2 ∨ Um.stN M.l.old = 3 then Um.jjd sd b M 0 M.l.old else ⟨M, 0, M.l.old, 1⟩) := by rw [hO, hM]; rfl
      by_cases g4 : Um.stN M.l.old = 4
      · rw [if_pos g4] at eO
        subst eO
        refine (rStep11_look4 w c m M g cg sl sd b sn s g4 hB hr i1 h1 h2 hM).mono ?_
        rintro r w' ⟨g', cg', e1, q1, q2, hFr, _, hG, hb⟩
        exact ⟨g', cg', e1, q1, q2, hFr, hG, hb⟩
      rw [if_neg g4] at eO
      by_cases g23 : Um.stN M.l.old = 2 ∨ Um.stN M.l.old = 3
      · rw [if_pos g23] at eO
        have hj := jg_jjd sd b M 0 M.l.old
        have hm := (Um.jjd_r sd b M 0 M.l.old).2.1
        have hs := (Um.jjd_r sd b M 0 M.l.old).2.2.1
        rw [← eO] at hj hm hs
        have hV : joinV sl sd b sn O2 = .agg #[.int .i64 sl, .int .i64 sd, .int .i64 b, .int .u64 (sn : Nat), .int .i64 ((O2.nx : Nat) : Int), .int .u64 (M.l.old : Nat), .int .i64 ((O2.r : Nat) : Int)] := by unfold joinV; rw [hs]
        rw [hV, hm]
        rcases g23 with g2 | g3
        · refine (rStep11_look2 w c m M g cg sl sd b sn s _ _ hd0 hd1 hj g2 hB hr i1 h1 h2 hM).mono ?_
          rintro r w' ⟨g', cg', e1, q1, q2, hFr, _, hG, hb⟩
          exact ⟨g', cg', e1, q1, q2, hFr, hG, hb⟩
        · refine (rStep11_look3 w c m M g cg sl sd b sn s _ _ hd0 hd1 hj g3 hB hr i1 h1 h2 hM).mono ?_
          rintro r w' ⟨g', cg', e1, q1, q2, hFr, _, hG, hb⟩
          exact ⟨g', cg', e1, q1, q2, hFr, hG, hb⟩
      · rw [if_neg g23] at eO
        subst eO
        refine (rStep11_lookn w c m M g cg sl sd b sn s (fun q => g23 (.inl q)) (fun q => g23 (.inr q)) g4 hB hr i1 h1 h2 hM).mono ?_
        rintro r w' ⟨g', cg', e1, q1, q2, hFr, _, hG, hb⟩
        exact ⟨g', cg', e1, q1, q2, hFr, hG, hb⟩
    · obtain ⟨M, hM⟩ : ∃ M, M = Um.mtouch c m 1 6 sl 0 0 := ⟨_, rfl⟩
      have eO : O2 = (if Um.past M.l.old sn = true then ⟨M, 1, s, 1⟩ else Um.jjd sd b M 1 s) := by rw [hO, hM]; rfl
      cases hp : Um.past M.l.old sn with
      | true =>
        rw [if_pos hp] at eO
        subst eO
        refine (rStep11_past w c m M g cg sl sd b sn s hp hB hr i1 h1 h2 hM).mono ?_
        rintro r w' ⟨g', cg', e1, q1, q2, hFr, _, hG, hb⟩
        exact ⟨g', cg', e1, q1, q2, hFr, hG, hb⟩
      | false =>
        rw [if_neg (by rw [hp]; decide)] at eO
        have hj := jg_jjd sd b M 1 s
        have hm := (Um.jjd_r sd b M 1 s).2.1
        have hs := (Um.jjd_r sd b M 1 s).2.2.1
        rw [← eO] at hj hm hs
        have hV : joinV sl sd b sn O2 = .agg #[.int .i64 sl, .int .i64 sd, .int .i64 b, .int .u64 (sn : Nat), .int .i64 ((O2.nx : Nat) : Int), .int .u64 (s : Nat), .int .i64 ((O2.r : Nat) : Int)] := by unfold joinV; rw [hs]
        rw [hV, hm]
        refine (rStep11_judge w c m M g cg sl sd b sn s _ _ hd0 hd1 i2 hj hp hB hr i1 h1 h2 hM).mono ?_
        rintro r w' ⟨g', cg', e1, q1, q2, hFr, _, hG, hb⟩
        exact ⟨g', cg', e1, q1, q2, hFr, hG, hb⟩
    · obtain ⟨M, hM⟩ : ∃ M, M = Um.mtouch c m 3 4 sl s (Um.withN s sd b) := ⟨_, rfl⟩
      have eO : O2 = ⟨M, 0, s, if M.l.done then 2 else 0⟩ := by rw [hO, hM]; rfl
      obtain ⟨rr, hrr⟩ : ∃ rr : Nat, rr = (if M.l.done then 2 else 0) := ⟨_, rfl⟩
      rw [← hrr] at eO
      subst eO
      refine (rStep11_lay w c m M g cg sl sd b sn s ((rr : Nat) : Int) ⟨fun q => by rw [hrr, q]; rfl, fun q => by rw [hrr, q]; rfl⟩ i2 hB hr i1 h1 h2 hM).mono ?_
      rintro r w' ⟨g', cg', e1, q1, q2, hFr, _, hG, hb⟩
      exact ⟨g', cg', e1, q1, q2, hFr, hG, hb⟩
  · have eO : O2 = ⟨m, nx, s, r⟩ := by rw [hO]; exact Um.jstep_end hz
    subst eO
    refine (rStep11_done w c m g cg sl sd b sn s _ ((r : Nat) : Int) (by omega) hB hr i1 h1 h2).mono ?_
    rintro r w' ⟨g', cg', e1, q1, q2, hFr, _, hG, hb⟩
    exact ⟨g', cg', e1, q1, q2, hFr, hG, hb⟩
theorem rGo11_any (w : World) (c : Um.Cf) (sl sd b : Int) (o O2 : Um.Ls) (hO : O2 = Um.wstep c sl sd b o) (g cg : Nat) (ho : Um.Lok c o) (hB : BlkAt w g (rowW o.m.ws c.n)) (hr : c.r = true) (h1 : c.n ≤ cg) (h2 : cg ≤ maxLen) :
    Calls Tryz.prog 53 #[ownV sl sd b o, (.agg #[.int .i64 c.t, .int .i64 c.s, .int .i64 c.k, .int .i64 c.g, .int .u64 c.q, (.slice (some ⟨g, 0, none⟩) c.n cg), .int .i64 o.m.cnt, .int .i64 o.m.l.kind, .int .i64 o.m.l.a, .int .i64 o.m.l.b, .int .u64 (o.m.l.old : Nat), .int .u64 (o.m.l.new : Nat), .bool o.m.l.done])] w fun r w' => ∃ g' cg', r = .returned (.tuple #[ownV sl sd b O2, (.agg #[.int .i64 c.t, .int .i64 c.s, .int .i64 c.k, .int .i64 c.g, .int .u64 c.q, (.slice (some ⟨g', 0, none⟩) c.n cg'), .int .i64 O2.m.cnt, .int .i64 O2.m.l.kind, .int .i64 O2.m.l.a, .int .i64 O2.m.l.b, .int .u64 (O2.m.l.old : Nat), .int .u64 (O2.m.l.new : Nat), .bool O2.m.l.done])]) ∧ c.n ≤ cg' ∧ cg' ≤ maxLen ∧ Fr w g g' ∧ BlkAt w' g' (rowW O2.m.ws c.n) ∧ Below w.heap.size w w' := by
  obtain ⟨m, lk, s, dn⟩ := o
  obtain ⟨i1, i2⟩ := ho
  dsimp only at *
  cases dn with
  | true =>
    have eO : O2 = ⟨m, lk, s, true⟩ := by rw [hO]; exact Um.wstep_done rfl
    subst eO
    refine (rOwn11_done w c m g cg sl sd b s lk hB hr i1 h1 h2).mono ?_
    rintro r w' ⟨g', cg', e1, q1, q2, hFr, _, hG, hb⟩
    exact ⟨g', cg', e1, q1, q2, hFr, hG, hb⟩
  | false =>
    cases lk with
    | false =>
      obtain ⟨M, hM⟩ : ∃ M, M = Um.mtouch c m 1 4 sl 0 0 := ⟨_, rfl⟩
      have eO : O2 = ⟨M, true, M.l.old, decide (Um.withN M.l.old sd b = M.l.old)⟩ := by rw [hO, hM]; rfl
      by_cases he : Um.withN M.l.old sd b = M.l.old
      · rw [decide_eq_true he] at eO
        subst eO
        refine (rOwn11_look_t w c m M g cg sl sd b s he hB hr i1 h1 h2 hM).mono ?_
        rintro r w' ⟨g', cg', e1, q1, q2, hFr, _, hG, hb⟩
        exact ⟨g', cg', e1, q1, q2, hFr, hG, hb⟩
      · rw [decide_eq_false he] at eO
        subst eO
        refine (rOwn11_look_f w c m M g cg sl sd b s he hB hr i1 h1 h2 hM).mono ?_
        rintro r w' ⟨g', cg', e1, q1, q2, hFr, _, hG, hb⟩
        exact ⟨g', cg', e1, q1, q2, hFr, hG, hb⟩
    | true =>
      have eO : O2 = ⟨Um.mtouch c m 3 4 sl s (Um.withN s sd b), false, s, (Um.mtouch c m 3 4 sl s (Um.withN s sd b)).l.done⟩ := hO
      subst eO
      refine (rOwn11_lay w c m _ g cg sl sd b s i2 hB hr i1 h1 h2 rfl).mono ?_
      rintro r w' ⟨g', cg', e1, q1, q2, hFr, _, hG, hb⟩
      exact ⟨g', cg', e1, q1, q2, hFr, hG, hb⟩
end
section
set_option maxRecDepth 100000
open Go.RowKit Go.Sort
theorem run_load1_old {P : Program} {w : World} {b o : Nat} (ty : TypeId) (v : Value) (hc : w.cell? ⟨b, o, none⟩ = some v) (d : TypeDesc) (hu : P.underlying ty = some d) (hd : d.isRow = false) :
    (Instr.loadAt ty (.pointer (some ⟨b, o, none⟩))).run P w = .ok v w := by
  have hagg : (isAgg ty).run P w = .ok false w := by
    unfold isAgg
    rw [Sem.run_bind, run_underlying hu w]
    cases d <;> simp_all
  simp [Instr.loadAt, Instr.sureAddr, loadVar, Sem.run_bind, hagg, hc]
end
section
set_option maxRecDepth 100000
open Go.RowKit Go.Sort
set_option linter.unusedVariables false
set_option linter.unusedSimpArgs false
structure R12 where
  key : Int
  slot : Int
  nx : Int
  n : Nat
  w : Nat
  oa : Option Addr
  on : Nat
  oc : Nat
  gh : Nat
  va : Option Addr
  vn : Nat
  vc : Nat
  gt : Bool
  gs : Nat
  gw : Nat
  ge : Int
  gn : Bool
  jl : Int
  jd : Int
  jb : Int
  jn : Nat
  jx : Int
  js : Nat
  jr : Int
  ol : Int
  od : Int
  ob : Int
  ok : Bool
  oS : Nat
  oD : Bool
  ll : Int
  lt : Int
  lk : Bool
  ls : Nat
  ld : Bool
  td : Int
  e : Int
  dn : Bool
def R12.V (r : R12) : Value := .agg #[.int .i64 r.key, .int .i64 r.slot, .int .i64 r.nx, .int .u64 (r.n : Nat), .int .u64 (r.w : Nat), .slice r.oa r.on r.oc, .int .u64 (r.gh : Nat), .slice r.va r.vn r.vc, .bool r.gt, .int .u64 (r.gs : Nat), .int .u64 (r.gw : Nat), .int .i64 r.ge, .bool r.gn, .int .i64 r.jl, .int .i64 r.jd, .int .i64 r.jb, .int .u64 (r.jn : Nat), .int .i64 r.jx, .int .u64 (r.js : Nat), .int .i64 r.jr, .int .i64 r.ol, .int .i64 r.od, .int .i64 r.ob, .bool r.ok, .int .u64 (r.oS : Nat), .bool r.oD, .int .i64 r.ll, .int .i64 r.lt, .bool r.lk, .int .u64 (r.ls : Nat), .bool r.ld, .int .i64 r.td, .int .i64 r.e, .bool r.dn]
theorem IsRow.cut {W : World} {a : Option Addr} {n cap : Nat} {x : Int} {xs : List Int} (h : IsRow W (.slice a n cap) (x :: xs)) :
    ∃ b off, a = some ⟨b, off, none⟩ ∧ n = xs.length + 1 ∧ n ≤ cap ∧ cap ≤ maxLen ∧ b < W.heap.size ∧ W.cell? ⟨b, off, none⟩ = some (.int .i64 x) ∧ IsRow W (.slice (some ⟨b, off + 1, none⟩) xs.length (cap - 1)) xs := by
  rcases h with ⟨_, h⟩ | ⟨b, off, cap', h, h1, h2, h3, h4⟩
  · cases h
  · simp only [Value.slice.injEq, List.length_cons] at h
    obtain ⟨rfl, rfl, rfl⟩ := h
    simp only [List.length_cons] at h1 h4
    refine ⟨b, off, rfl, rfl, h1, h2, h3, by have := h4 0 (by omega); simpa using this, .inr ⟨b, off + 1, cap - 1, rfl, by omega, by omega, h3, fun j hj => ?_⟩⟩
    have := h4 (j + 1) (by omega)
    simpa [Nat.add_assoc, Nat.add_comm 1 j] using this
set_option maxHeartbeats 2000000 in
theorem rLeaves12_any (r : R12) (st td : Int) (w : World) :
    Calls Tryz.prog 97 #[r.V, .int .i64 st, .int .i64 td] w fun e w' => e = .returned (R12.V { r with ll := r.slot, lt := st, lk := false, ls := 0, ld := false, td := td, nx := 6 }) ∧ Below w.heap.size w w' := by
  have hS := Sx.new w
  unfold R12.V
  go_enter Tryz.func97, Tryz.ntmps97
  go_wp2_with (first | (refine ybox hS (h := ?_); clear hS; intro _ _ hS) | (refine yall hS (h := ?_); clear hS; intro _ _ hS) | refine yld hS (h := ?_) | (refine yst hS (h := ?_); clear hS; intro _ hS))
  have hZ := hS.get 1 rfl
  exact bodyPost_ret (v := (R12.V { r with ll := r.slot, lt := st, lk := false, ls := 0, ld := false, td := td, nx := 6 })) (results_one Tryz.results97 rfl hZ (row_any2 rfl) rfl) rfl ⟨rfl, hS.bel⟩
theorem yif_old {P : Program} {ops : Array Oper} {S : World → Prop} {o : Oper} {a : Act} (hw : Region.wanted o (yielded ops a.tmps) = true) (ty : TypeId) (x : Operand) (ho : o.op = .load ty x) (b off : Nat) (hx : a.eval x = .pointer (some ⟨b, off, none⟩)) (v : Value) (hS : ∀ w, S w → w.cell? ⟨b, off, none⟩ = some v) (hr : One P ty) : YieldsIf P ops S o v a := by
  obtain ⟨d, hu, hd⟩ := hr
  exact .inl ⟨hw, fun w h => by unfold execOp; rw [ho]; simp [hx, run_load1_old (P := P) ty v (hS w h) d hu hd]⟩
set_option maxHeartbeats 4000000 in
theorem rGoes12_nil (r : R12) (w : World) (h0 : r.on = 0) :
    Calls Tryz.prog 54 #[r.V] w fun e w' => e = .returned (R12.V { r with ll := r.slot, lt := -1, lk := false, ls := 0, ld := false, td := 0, nx := 6 }) ∧ Below w.heap.size w w' := by
  have hS := Sx.new w
  have g1 : ((r.on : Nat) : Int) = 0 := by omega
  have HL := hide (fun w => rLeaves12_any r (-1) 0 w)
  clear h0
  unfold R12.V at HL ⊢
  go_enter Tryz.func54, Tryz.ntmps54
  go_wp2_with (first | (refine ybox hS (h := ?_); clear hS; intro _ _ hS) | (refine yall hS (h := ?_); clear hS; intro _ _ hS) | refine yld hS (h := ?_) | (refine yst hS (h := ?_); clear hS; intro _ hS))
  refine ((unhide HL) _).mono ?_
  rintro e u ⟨rfl, hb⟩
  replace hS := hS.call hb
  clear hb HL
  go_wp2_with (first | (refine ybox hS (h := ?_); clear hS; intro _ _ hS) | (refine yall hS (h := ?_); clear hS; intro _ _ hS) | refine yld hS (h := ?_) | (refine yst hS (h := ?_); clear hS; intro _ hS))
  have hZ := hS.get 1 rfl
  exact bodyPost_ret (v := (R12.V { r with ll := r.slot, lt := -1, lk := false, ls := 0, ld := false, td := 0, nx := 6 })) (results_one Tryz.results54 rfl hZ (row_any2 rfl) rfl) rfl ⟨rfl, hS.bel⟩
set_option maxHeartbeats 8000000 in
theorem rGoes12_cons (r : R12) (w : World) (x : Int) (b off : Nat) (ha : r.oa = some ⟨b, off, none⟩) (hp : 0 < r.on) (hlt : b < w.heap.size) (hc : w.cell? ⟨b, off, none⟩ = some (.int .i64 x)) :
    Calls Tryz.prog 54 #[r.V] w fun e w' => e = .returned (R12.V { r with jl := x, jd := 1, jb := r.slot, jn := r.n, jx := 0, js := 0, jr := 0, nx := 4 }) ∧ Below w.heap.size w w' := by
  have hS := Sx.new w
  have g1 : ¬ ((r.on : Nat) : Int) = 0 := by omega
  have g2 : (((r.on : Nat) : Int) == 0) = false := by simpa using g1
  have g3 : (0 : Int) < ((r.on : Nat) : Int) := by omega
  unfold R12.V
  go_enter Tryz.func54, Tryz.ntmps54
  go_wp2_with (first | (refine ybox hS (h := ?_); clear hS; intro _ _ hS) | (refine yall hS (h := ?_); clear hS; intro _ _ hS) | refine yld hS (h := ?_) | (refine yst hS (h := ?_); clear hS; intro _ hS))
  obtain ⟨RB, rfl⟩ := nameB hS 0 rfl
  obtain ⟨R0, rfl⟩ := nameB hS 1 rfl
  refine wp_region_ogt (fun ts D ts' w' => ts' = putS ts [(9, cond (D 0) (.pointer (some ⟨RB, 5, none⟩)) undef), (10, cond (D 1) (.slice r.oa r.on r.oc) undef), (11, cond (D 2) (.pointer (some ⟨b, off, none⟩)) undef), (12, cond (D 3) (.int .i64 x) undef), (13, cond (D 4) (.pointer (some ⟨RB, 1, none⟩)) undef), (14, cond (D 5) (.int .i64 r.slot) undef), (15, cond (D 6) (.pointer (some ⟨RB, 3, none⟩)) undef), (16, cond (D 7) (.int .u64 (r.n : Nat)) undef), (17, cond (D 8) (.agg #[.int .i64 x, .int .i64 1, .int .i64 r.slot, .int .u64 (r.n : Nat), .int .i64 0, .int .u64 0, .int .i64 0]) undef), (18, cond (D 9) (.pointer (some ⟨RB, 13, none⟩)) undef)] ∧ Sx [] w w' [(RB, cond (D 10) [.int .i64 r.key, .int .i64 r.slot, .int .i64 r.nx, .int .u64 (r.n : Nat), .int .u64 (r.w : Nat), .slice r.oa r.on r.oc, .int .u64 (r.gh : Nat), .slice r.va r.vn r.vc, .bool r.gt, .int .u64 (r.gs : Nat), .int .u64 (r.gw : Nat), .int .i64 r.ge, .bool r.gn, .int .i64 x, .int .i64 1, .int .i64 r.slot, .int .u64 (r.n : Nat), .int .i64 0, .int .u64 0, .int .i64 0, .int .i64 r.ol, .int .i64 r.od, .int .i64 r.ob, .bool r.ok, .int .u64 (r.oS : Nat), .bool r.oD, .int .i64 r.ll, .int .i64 r.lt, .bool r.lk, .int .u64 (r.ls : Nat), .bool r.ld, .int .i64 r.td, .int .i64 r.e, .bool r.dn] [.int .i64 r.key, .int .i64 r.slot, .int .i64 r.nx, .int .u64 (r.n : Nat), .int .u64 (r.w : Nat), .slice r.oa r.on r.oc, .int .u64 (r.gh : Nat), .slice r.va r.vn r.vc, .bool r.gt, .int .u64 (r.gs : Nat), .int .u64 (r.gw : Nat), .int .i64 r.ge, .bool r.gn, .int .i64 r.jl, .int .i64 r.jd, .int .i64 r.jb, .int .u64 (r.jn : Nat), .int .i64 r.jx, .int .u64 (r.js : Nat), .int .i64 r.jr, .int .i64 r.ol, .int .i64 r.od, .int .i64 r.ob, .bool r.ok, .int .u64 (r.oS : Nat), .bool r.oD, .int .i64 r.ll, .int .i64 r.lt, .bool r.lk, .int .u64 (r.ls : Nat), .bool r.ld, .int .i64 r.td, .int .i64 r.e, .bool r.dn]), (R0, [.int .i64 0, .int .i64 0, .int .i64 0, .int .u64 0, .int .u64 0, .slice none 0 0, .int .u64 0, .slice none 0 0, .bool false, .int .u64 0, .int .u64 0, .int .i64 0, .bool false, .int .i64 0, .int .i64 0, .int .i64 0, .int .u64 0, .int .i64 0, .int .u64 0, .int .i64 0, .int .i64 0, .int .i64 0, .int .i64 0, .bool false, .int .u64 0, .bool false, .int .i64 0, .int .i64 0, .bool false, .int .u64 0, .bool false, .int .i64 0, .int .i64 0, .bool false])] []) (by kernel_rfl) (by kernel_rfl) ?start ?steps ?ends
  case start => exact ⟨rfl, hS.drew⟩
  case steps =>
    intro i o hi D ts' w' hD hpre hI
    obtain ⟨rfl, hS⟩ := hI
    dsimp only [putS, List.set]
    match i, hi with
    | 0, hi =>
      cases hi
      refine wpOp_step rfl (fun K hK => ?_)
      refine stp_val rfl (yif_by rfl _ (fun w => by go_simp; first | done | exact rfl)) rfl ?_
      exact hK _ _ ⟨_, rfl, rfl, hS⟩
    | 1, hi =>
      cases hi
      have d0 : D 0 = true := og_pre hpre (by kernel_rfl)
      refine wpOp_step rfl (fun K hK => ?_)
      refine stp_val rfl (by refine yif_load1 (S := fun q => q = w') rfl _ (.tmp 9) rfl RB 5 ?_ _ (fun _ h => h ▸ hS.get 0 rfl) (one_any2 rfl) (.slice r.oa r.on r.oc) (by cases D 10 <;> rfl); exact cond_at d0 rfl) rfl ?_
      exact hK _ _ ⟨_, rfl, rfl, hS⟩
    | 2, hi =>
      cases hi
      have d1 : D 1 = true := og_pre hpre (by kernel_rfl)
      refine wpOp_step rfl (fun K hK => ?_)
      refine stp_val rfl (yif_by rfl _ (fun w => by simp only [d1, cond_true]; rw [ha]; go_simp; first | done | exact rfl)) rfl ?_
      exact hK _ _ ⟨_, rfl, rfl, hS⟩
    | 3, hi =>
      cases hi
      have d2 : D 2 = true := og_pre hpre (by kernel_rfl)
      refine wpOp_step rfl (fun K hK => ?_)
      refine stp_val rfl (by refine yif_old (S := fun q => q = w') rfl _ (.tmp 11) rfl b off ?_ _ (fun q e => e ▸ ((hS.bel.cell (p := ⟨b, off, none⟩) hlt).trans hc)) (one_any2 rfl); exact cond_at d2 rfl) rfl ?_
      exact hK _ _ ⟨_, rfl, rfl, hS⟩
    | 4, hi =>
      cases hi
      refine wpOp_step rfl (fun K hK => ?_)
      refine stp_val rfl (yif_by rfl _ (fun w => by go_simp; first | done | exact rfl)) rfl ?_
      exact hK _ _ ⟨_, rfl, rfl, hS⟩
    | 5, hi =>
      cases hi
      have d4 : D 4 = true := og_pre hpre (by kernel_rfl)
      refine wpOp_step rfl (fun K hK => ?_)
      refine stp_val rfl (by refine yif_load1 (S := fun q => q = w') rfl _ (.tmp 13) rfl RB 1 ?_ _ (fun _ h => h ▸ hS.get 0 rfl) (one_any2 rfl) (.int .i64 r.slot) (by cases D 10 <;> rfl); exact cond_at d4 rfl) rfl ?_
      exact hK _ _ ⟨_, rfl, rfl, hS⟩
    | 6, hi =>
      cases hi
      refine wpOp_step rfl (fun K hK => ?_)
      refine stp_val rfl (yif_by rfl _ (fun w => by go_simp; first | done | exact rfl)) rfl ?_
      exact hK _ _ ⟨_, rfl, rfl, hS⟩
    | 7, hi =>
      cases hi
      have d6 : D 6 = true := og_pre hpre (by kernel_rfl)
      refine wpOp_step rfl (fun K hK => ?_)
      refine stp_val rfl (by refine yif_load1 (S := fun q => q = w') rfl _ (.tmp 15) rfl RB 3 ?_ _ (fun _ h => h ▸ hS.get 0 rfl) (one_any2 rfl) (.int .u64 (r.n : Nat)) (by cases D 10 <;> rfl); exact cond_at d6 rfl) rfl ?_
      exact hK _ _ ⟨_, rfl, rfl, hS⟩
    | 8, hi =>
      cases hi
      have d3 : D 3 = true := og_pre hpre (by kernel_rfl)
      have d5 : D 5 = true := og_pre hpre (by kernel_rfl)
      have d7 : D 7 = true := og_pre hpre (by kernel_rfl)
      refine wpOp_step rfl (fun K hK => ?_)
      refine stp_val rfl (yif_by rfl _ (fun w => by simp only [d3, d5, d7, cond_true]; go_simp; first | done | exact rfl)) rfl ?_
      exact hK _ _ ⟨_, rfl, rfl, hS⟩
    | 9, hi =>
      cases hi
      refine wpOp_step rfl (fun K hK => ?_)
      refine stp_val rfl (yif_by rfl _ (fun w => by go_simp; first | done | exact rfl)) rfl ?_
      exact hK _ _ ⟨_, rfl, rfl, hS⟩
    | 10, hi =>
      cases hi
      have d8 : D 8 = true := og_pre hpre (by kernel_rfl)
      have d9 : D 9 = true := og_pre hpre (by kernel_rfl)
      refine wpOp_step rfl (fun K hK => ?_)
      simp only [hD, cond_false] at hS
      refine stx_store hS 0 rfl _ _ _ rfl _ _ (cond_at d9 rfl) _ rfl _ (cond_at d8 rfl) _ rfl _ (siz_any2 rfl) (by exact rfl) (by exact rfl) (by exact rfl) rfl ?_
      intro u hS'
      exact hK _ _ ⟨_, rfl, rfl, hS'⟩
    | i + 11, hi => simp at hi
  case ends =>
    intro D ts' w' hall hI
    obtain ⟨rfl, hS⟩ := hI
    have d0 : D 0 = true := hall 0 (by decide)
    have d1 : D 1 = true := hall 1 (by decide)
    have d2 : D 2 = true := hall 2 (by decide)
    have d3 : D 3 = true := hall 3 (by decide)
    have d4 : D 4 = true := hall 4 (by decide)
    have d5 : D 5 = true := hall 5 (by decide)
    have d6 : D 6 = true := hall 6 (by decide)
    have d7 : D 7 = true := hall 7 (by decide)
    have d8 : D 8 = true := hall 8 (by decide)
    have d9 : D 9 = true := hall 9 (by decide)
    have d10 : D 10 = true := hall 10 (by decide)
    simp only [d10, cond_true] at hS
    dsimp only [putS, List.set]
    simp only [d0, d1, d2, d3, d4, d5, d6, d7, d8, d9, cond_true]
    clear hall d0 d1 d2 d3 d4 d5 d6 d7 d8 d9 d10
    go_wp2_with (first | (refine ybox hS (h := ?_); clear hS; intro _ _ hS) | (refine yall hS (h := ?_); clear hS; intro _ _ hS) | refine yld hS (h := ?_) | (refine yst hS (h := ?_); clear hS; intro _ hS))
    have hZ := hS.get 1 rfl
    exact bodyPost_ret (v := (R12.V { r with jl := x, jd := 1, jb := r.slot, jn := r.n, jx := 0, js := 0, jr := 0, nx := 4 })) (results_one Tryz.results54 rfl hZ (row_any2 rfl) rfl) rfl ⟨rfl, hS.bel⟩
def R12.go (r : R12) : List Int → R12
  | [] => { r with ll := r.slot, lt := -1, lk := false, ls := 0, ld := false, td := 0, nx := 6 }
  | x :: _ => { r with jl := x, jd := 1, jb := r.slot, jn := r.n, jx := 0, js := 0, jr := 0, nx := 4 }
theorem rGoes12_any (r : R12) (xs : List Int) (w : World) (hI : IsRow w (.slice r.oa r.on r.oc) xs) : Calls Tryz.prog 54 #[r.V] w fun e w' => e = .returned (r.go xs).V ∧ Below w.heap.size w w' := by
  cases xs with
  | nil =>
    refine rGoes12_nil r w ?_
    rcases hI with ⟨h, _⟩ | ⟨b, off, cap, h, _⟩
    · simp only [Value.slice.injEq] at h; exact h.2.1
    · simp only [Value.slice.injEq] at h; exact h.2.1
  | cons x xs =>
    obtain ⟨b, off, h1, h2, _, _, h4, h5, _⟩ := hI.cut
    exact rGoes12_cons r w x b off h1 (by omega) h4 h5
theorem IsRow.turn {bs : List Nat} {A B : World} {v : Value} {xs : List Int} (h : IsRow A v xs) (t : Turn bs A B) (hn : ∀ b off n c, v = .slice (some ⟨b, off, none⟩) n c → b ∉ bs) : IsRow B v xs := by
  rcases h with h | ⟨b, off, cap, rfl, h1, h2, h3, h4⟩
  · exact .inl h
  · exact .inr ⟨b, off, cap, rfl, h1, h2, Nat.lt_of_lt_of_le h3 t.size, fun j hj => (t.cell h3 (hn b off _ _ rfl)).trans (h4 j hj)⟩
end
section
set_option maxRecDepth 100000
open Go.RowKit Go.Sort
set_option linter.unusedVariables false
set_option linter.unusedSimpArgs false
set_option maxHeartbeats 8000000 in
theorem rJoins12_2 (w : World) (c : Um.Cf) (m M : Um.Mm) (g cg : Nat) (r : R12) (jx2 : Int) (js2 : Nat) (x : Int) (ob of : Nat) (ha : r.oa = some ⟨ob, of, none⟩) (hp : 0 < r.on) (hlt : ob < w.heap.size) (hc : w.cell? ⟨ob, of, none⟩ = some (.int .i64 x)) (hB : BlkAt w g (rowW m.ws c.n))
    (HJ : ∀ u, BlkAt u g (rowW m.ws c.n) → Calls Tryz.prog 96 #[.agg #[.int .i64 r.jl, .int .i64 r.jd, .int .i64 r.jb, .int .u64 (r.jn : Nat), .int .i64 r.jx, .int .u64 (r.js : Nat), .int .i64 r.jr], (.agg #[.int .i64 c.t, .int .i64 c.s, .int .i64 c.k, .int .i64 c.g, .int .u64 c.q, (.slice (some ⟨g, 0, none⟩) c.n cg), .int .i64 m.cnt, .int .i64 m.l.kind, .int .i64 m.l.a, .int .i64 m.l.b, .int .u64 (m.l.old : Nat), .int .u64 (m.l.new : Nat), .bool m.l.done])] u fun e w' => ∃ g' cg', e = .returned (.tuple #[.agg #[.int .i64 r.jl, .int .i64 r.jd, .int .i64 r.jb, .int .u64 (r.jn : Nat), .int .i64 jx2, .int .u64 (js2 : Nat), .int .i64 2], (.agg #[.int .i64 c.t, .int .i64 c.s, .int .i64 c.k, .int .i64 c.g, .int .u64 c.q, (.slice (some ⟨g', 0, none⟩) c.n cg'), .int .i64 M.cnt, .int .i64 M.l.kind, .int .i64 M.l.a, .int .i64 M.l.b, .int .u64 (M.l.old : Nat), .int .u64 (M.l.new : Nat), .bool M.l.done])]) ∧ c.n ≤ cg' ∧ cg' ≤ maxLen ∧ Fr u g g' ∧ BlkAt w' g' (rowW M.ws c.n) ∧ Below u.heap.size u w') :
    Calls Tryz.prog 52 #[r.V, (.agg #[.int .i64 c.t, .int .i64 c.s, .int .i64 c.k, .int .i64 c.g, .int .u64 c.q, (.slice (some ⟨g, 0, none⟩) c.n cg), .int .i64 m.cnt, .int .i64 m.l.kind, .int .i64 m.l.a, .int .i64 m.l.b, .int .u64 (m.l.old : Nat), .int .u64 (m.l.new : Nat), .bool m.l.done])] w fun e w' => ∃ g' cg', e = .returned (.tuple #[R12.V { r with jx := jx2, js := js2, jr := 2, ol := r.slot, od := 0, ob := x, ok := false, oS := 0, oD := false, nx := 5 }, (.agg #[.int .i64 c.t, .int .i64 c.s, .int .i64 c.k, .int .i64 c.g, .int .u64 c.q, (.slice (some ⟨g', 0, none⟩) c.n cg'), .int .i64 M.cnt, .int .i64 M.l.kind, .int .i64 M.l.a, .int .i64 M.l.b, .int .u64 (M.l.old : Nat), .int .u64 (M.l.new : Nat), .bool M.l.done])]) ∧ c.n ≤ cg' ∧ cg' ≤ maxLen ∧ Fr w g g' ∧ BlkAt w' g' (rowW M.ws c.n) ∧ Below w.heap.size w w' := by
  have hS := Sx.read1 hB
  have HJ := hide HJ
  clear hB
  have g3 : (0 : Int) < ((r.on : Nat) : Int) := by omega
  unfold R12.V
  go_enter Tryz.func52, Tryz.ntmps52
  go_wp2_with (first | (refine ybox hS (h := ?_); clear hS; intro _ _ hS) | (refine yall hS (h := ?_); clear hS; intro _ _ hS) | refine yld hS (h := ?_) | (refine yst hS (h := ?_); clear hS; intro _ hS))
  have hSz := hS.size
  refine ((unhide HJ) _ (hS.getE 0 rfl)).mono ?_
  rintro e u ⟨g', cg', rfl, q1, q2, hFr, hG, hb⟩
  replace hS := hS.ref hb 0 rfl hFr hG
  have hFr := (Fr.refl w g).trans hFr hSz
  clear hb hG HJ hSz
  dsimp only [List.set] at hS
  go_wp2_with (first | (refine ybox hS (h := ?_); clear hS; intro _ _ hS) | (refine yall hS (h := ?_); clear hS; intro _ _ hS) | refine yld hS (h := ?_) | (refine yst hS (h := ?_); clear hS; intro _ hS))
  obtain ⟨RB, rfl⟩ := nameB hS 0 rfl
  obtain ⟨MB, rfl⟩ := nameB hS 1 rfl
  obtain ⟨R0, rfl⟩ := nameB hS 2 rfl
  obtain ⟨R1, rfl⟩ := nameB hS 3 rfl
  obtain ⟨JB, rfl⟩ := nameB hS 4 rfl
  obtain ⟨NB, rfl⟩ := nameB hS 5 rfl
  refine wp_region_ogt (fun ts D ts' w' => ts' = putS ts [(29, cond (D 0) (.pointer (some ⟨RB, 1, none⟩)) undef), (30, cond (D 1) (.int .i64 r.slot) undef), (31, cond (D 2) (.pointer (some ⟨RB, 5, none⟩)) undef), (32, cond (D 3) (.slice r.oa r.on r.oc) undef), (33, cond (D 4) (.pointer (some ⟨ob, of, none⟩)) undef), (34, cond (D 5) (.int .i64 x) undef), (35, cond (D 6) (.agg #[.int .i64 r.slot, .int .i64 0, .int .i64 x, .bool false, .int .u64 0, .bool false]) undef), (36, cond (D 7) (.pointer (some ⟨RB, 20, none⟩)) undef)] ∧ Sx [] w w' [(RB, cond (D 8) [.int .i64 r.key, .int .i64 r.slot, .int .i64 r.nx, .int .u64 (r.n : Nat), .int .u64 (r.w : Nat), .slice r.oa r.on r.oc, .int .u64 (r.gh : Nat), .slice r.va r.vn r.vc, .bool r.gt, .int .u64 (r.gs : Nat), .int .u64 (r.gw : Nat), .int .i64 r.ge, .bool r.gn, .int .i64 r.jl, .int .i64 r.jd, .int .i64 r.jb, .int .u64 (r.jn : Nat), .int .i64 jx2, .int .u64 (js2 : Nat), .int .i64 2, .int .i64 r.slot, .int .i64 0, .int .i64 x, .bool false, .int .u64 0, .bool false, .int .i64 r.ll, .int .i64 r.lt, .bool r.lk, .int .u64 (r.ls : Nat), .bool r.ld, .int .i64 r.td, .int .i64 r.e, .bool r.dn] [.int .i64 r.key, .int .i64 r.slot, .int .i64 r.nx, .int .u64 (r.n : Nat), .int .u64 (r.w : Nat), .slice r.oa r.on r.oc, .int .u64 (r.gh : Nat), .slice r.va r.vn r.vc, .bool r.gt, .int .u64 (r.gs : Nat), .int .u64 (r.gw : Nat), .int .i64 r.ge, .bool r.gn, .int .i64 r.jl, .int .i64 r.jd, .int .i64 r.jb, .int .u64 (r.jn : Nat), .int .i64 jx2, .int .u64 (js2 : Nat), .int .i64 2, .int .i64 r.ol, .int .i64 r.od, .int .i64 r.ob, .bool r.ok, .int .u64 (r.oS : Nat), .bool r.oD, .int .i64 r.ll, .int .i64 r.lt, .bool r.lk, .int .u64 (r.ls : Nat), .bool r.ld, .int .i64 r.td, .int .i64 r.e, .bool r.dn]), (MB, [.int .i64 c.t, .int .i64 c.s, .int .i64 c.k, .int .i64 c.g, .int .u64 c.q, (.slice (some ⟨g, 0, none⟩) c.n cg), .int .i64 m.cnt, .int .i64 m.l.kind, .int .i64 m.l.a, .int .i64 m.l.b, .int .u64 (m.l.old : Nat), .int .u64 (m.l.new : Nat), .bool m.l.done]), (R0, [.int .i64 0, .int .i64 0, .int .i64 0, .int .u64 0, .int .u64 0, .slice none 0 0, .int .u64 0, .slice none 0 0, .bool false, .int .u64 0, .int .u64 0, .int .i64 0, .bool false, .int .i64 0, .int .i64 0, .int .i64 0, .int .u64 0, .int .i64 0, .int .u64 0, .int .i64 0, .int .i64 0, .int .i64 0, .int .i64 0, .bool false, .int .u64 0, .bool false, .int .i64 0, .int .i64 0, .bool false, .int .u64 0, .bool false, .int .i64 0, .int .i64 0, .bool false]), (R1, [.int .i64 0, .int .i64 0, .int .i64 0, .int .i64 0, .int .u64 0, .slice none 0 0, .int .i64 0, .int .i64 0, .int .i64 0, .int .i64 0, .int .u64 0, .int .u64 0, .bool false]), (JB, [.int .i64 r.jl, .int .i64 r.jd, .int .i64 r.jb, .int .u64 (r.jn : Nat), .int .i64 jx2, .int .u64 (js2 : Nat), .int .i64 2]), (NB, [.int .i64 c.t, .int .i64 c.s, .int .i64 c.k, .int .i64 c.g, .int .u64 c.q, (.slice (some ⟨g', 0, none⟩) c.n cg'), .int .i64 M.cnt, .int .i64 M.l.kind, .int .i64 M.l.a, .int .i64 M.l.b, .int .u64 (M.l.old : Nat), .int .u64 (M.l.new : Nat), .bool M.l.done])] [(g', rowW M.ws c.n)]) (by kernel_rfl) (by kernel_rfl) ?start ?steps ?ends
  case start => exact ⟨rfl, hS.drew⟩
  case steps =>
    intro i o hi D ts' w' hD hpre hI
    obtain ⟨rfl, hS⟩ := hI
    dsimp only [putS, List.set]
    match i, hi with
    | 0, hi =>
      cases hi
      refine wpOp_step rfl (fun K hK => ?_)
      refine stp_val rfl (yif_by rfl _ (fun w => by go_simp; first | done | exact rfl)) rfl ?_
      exact hK _ _ ⟨_, rfl, rfl, hS⟩
    | 1, hi =>
      cases hi
      have d0 : D 0 = true := og_pre hpre (by kernel_rfl)
      refine wpOp_step rfl (fun K hK => ?_)
      refine stp_val rfl (by refine yif_load1 (S := fun q => q = w') rfl _ (.tmp 29) rfl RB 1 ?_ _ (fun _ h => h ▸ hS.get 0 rfl) (one_any2 rfl) (.int .i64 r.slot) (by cases D 8 <;> rfl); exact cond_at d0 rfl) rfl ?_
      exact hK _ _ ⟨_, rfl, rfl, hS⟩
    | 2, hi =>
      cases hi
      refine wpOp_step rfl (fun K hK => ?_)
      refine stp_val rfl (yif_by rfl _ (fun w => by go_simp; first | done | exact rfl)) rfl ?_
      exact hK _ _ ⟨_, rfl, rfl, hS⟩
    | 3, hi =>
      cases hi
      have d2 : D 2 = true := og_pre hpre (by kernel_rfl)
      refine wpOp_step rfl (fun K hK => ?_)
      refine stp_val rfl (by refine yif_load1 (S := fun q => q = w') rfl _ (.tmp 31) rfl RB 5 ?_ _ (fun _ h => h ▸ hS.get 0 rfl) (one_any2 rfl) (.slice r.oa r.on r.oc) (by cases D 8 <;> rfl); exact cond_at d2 rfl) rfl ?_
      exact hK _ _ ⟨_, rfl, rfl, hS⟩
    | 4, hi =>
      cases hi
      have d3 : D 3 = true := og_pre hpre (by kernel_rfl)
      refine wpOp_step rfl (fun K hK => ?_)
      refine stp_val rfl (yif_by rfl _ (fun w => by simp only [d3, cond_true]; rw [ha]; go_simp; first | done | exact rfl)) rfl ?_
      exact hK _ _ ⟨_, rfl, rfl, hS⟩
    | 5, hi =>
      cases hi
      have d4 : D 4 = true := og_pre hpre (by kernel_rfl)
      refine wpOp_step rfl (fun K hK => ?_)
      refine stp_val rfl (by refine yif_old (S := fun q => q = w') rfl _ (.tmp 33) rfl ob of ?_ _ (fun q e => e ▸ ((hS.bel.cell (p := ⟨ob, of, none⟩) hlt).trans hc)) (one_any2 rfl); exact cond_at d4 rfl) rfl ?_
      exact hK _ _ ⟨_, rfl, rfl, hS⟩
    | 6, hi =>
      cases hi
      have d1 : D 1 = true := og_pre hpre (by kernel_rfl)
      have d5 : D 5 = true := og_pre hpre (by kernel_rfl)
      refine wpOp_step rfl (fun K hK => ?_)
      refine stp_val rfl (yif_by rfl _ (fun w => by simp only [d1, d5, cond_true]; go_simp; first | done | exact rfl)) rfl ?_
      exact hK _ _ ⟨_, rfl, rfl, hS⟩
    | 7, hi =>
      cases hi
      refine wpOp_step rfl (fun K hK => ?_)
      refine stp_val rfl (yif_by rfl _ (fun w => by go_simp; first | done | exact rfl)) rfl ?_
      exact hK _ _ ⟨_, rfl, rfl, hS⟩
    | 8, hi =>
      cases hi
      have d6 : D 6 = true := og_pre hpre (by kernel_rfl)
      have d7 : D 7 = true := og_pre hpre (by kernel_rfl)
      refine wpOp_step rfl (fun K hK => ?_)
      simp only [hD, cond_false] at hS
      refine stx_store hS 0 rfl _ _ _ rfl _ _ (cond_at d7 rfl) _ rfl _ (cond_at d6 rfl) _ rfl _ (siz_any2 rfl) (by exact rfl) (by exact rfl) (by exact rfl) rfl ?_
      intro u hS'
      exact hK _ _ ⟨_, rfl, rfl, hS'⟩
    | i + 9, hi => simp at hi
  case ends =>
    intro D ts' w' hall hI
    obtain ⟨rfl, hS⟩ := hI
    have d0 : D 0 = true := hall 0 (by decide)
    have d1 : D 1 = true := hall 1 (by decide)
    have d2 : D 2 = true := hall 2 (by decide)
    have d3 : D 3 = true := hall 3 (by decide)
    have d4 : D 4 = true := hall 4 (by decide)
    have d5 : D 5 = true := hall 5 (by decide)
    have d6 : D 6 = true := hall 6 (by decide)
    have d7 : D 7 = true := hall 7 (by decide)
    have d8 : D 8 = true := hall 8 (by decide)
    simp only [d8, cond_true] at hS
    dsimp only [putS, List.set]
    simp only [d0, d1, d2, d3, d4, d5, d6, d7, cond_true]
    clear hall d0 d1 d2 d3 d4 d5 d6 d7 d8
    go_wp2_with (first | (refine ybox hS (h := ?_); clear hS; intro _ _ hS) | (refine yall hS (h := ?_); clear hS; intro _ _ hS) | refine yld hS (h := ?_) | (refine yst hS (h := ?_); clear hS; intro _ hS))
    refine wp_ret2 hS 0 5 2 3 (hQ := ?_)
    intro u hS'
    clear hS
    dsimp only [List.set] at hS' ⊢
    go_wp2
    have hZ := hS'.get 2 rfl
    have hY := hS'.get 3 rfl
    exact bodyPost_ret (v := .tuple #[R12.V { r with jx := jx2, js := js2, jr := 2, ol := r.slot, od := 0, ob := x, ok := false, oS := 0, oD := false, nx := 5 }, (.agg #[.int .i64 c.t, .int .i64 c.s, .int .i64 c.k, .int .i64 c.g, .int .u64 c.q, (.slice (some ⟨g', 0, none⟩) c.n cg'), .int .i64 M.cnt, .int .i64 M.l.kind, .int .i64 M.l.a, .int .i64 M.l.b, .int .u64 (M.l.old : Nat), .int .u64 (M.l.new : Nat), .bool M.l.done])]) (results_rows Tryz.results52 rfl rfl hZ hY (row_any2 rfl) (row_any2 rfl) rfl rfl) rfl ⟨g', cg', rfl, q1, q2, hFr, hS'.getE 0 rfl, hS'.bel⟩
end
section
set_option maxRecDepth 100000
open Go.RowKit Go.Sort
set_option linter.unusedVariables false
set_option linter.unusedSimpArgs false
set_option maxHeartbeats 8000000 in
theorem rJoins12_0 (w : World) (c : Um.Cf) (m M : Um.Mm) (g cg : Nat) (r : R12) (jx2 : Int) (js2 : Nat) (hB : BlkAt w g (rowW m.ws c.n))
    (HJ : ∀ u, BlkAt u g (rowW m.ws c.n) → Calls Tryz.prog 96 #[.agg #[.int .i64 r.jl, .int .i64 r.jd, .int .i64 r.jb, .int .u64 (r.jn : Nat), .int .i64 r.jx, .int .u64 (r.js : Nat), .int .i64 r.jr], (.agg #[.int .i64 c.t, .int .i64 c.s, .int .i64 c.k, .int .i64 c.g, .int .u64 c.q, (.slice (some ⟨g, 0, none⟩) c.n cg), .int .i64 m.cnt, .int .i64 m.l.kind, .int .i64 m.l.a, .int .i64 m.l.b, .int .u64 (m.l.old : Nat), .int .u64 (m.l.new : Nat), .bool m.l.done])] u fun e w' => ∃ g' cg', e = .returned (.tuple #[.agg #[.int .i64 r.jl, .int .i64 r.jd, .int .i64 r.jb, .int .u64 (r.jn : Nat), .int .i64 jx2, .int .u64 (js2 : Nat), .int .i64 0], (.agg #[.int .i64 c.t, .int .i64 c.s, .int .i64 c.k, .int .i64 c.g, .int .u64 c.q, (.slice (some ⟨g', 0, none⟩) c.n cg'), .int .i64 M.cnt, .int .i64 M.l.kind, .int .i64 M.l.a, .int .i64 M.l.b, .int .u64 (M.l.old : Nat), .int .u64 (M.l.new : Nat), .bool M.l.done])]) ∧ c.n ≤ cg' ∧ cg' ≤ maxLen ∧ Fr u g g' ∧ BlkAt w' g' (rowW M.ws c.n) ∧ Below u.heap.size u w') :
    Calls Tryz.prog 52 #[r.V, (.agg #[.int .i64 c.t, .int .i64 c.s, .int .i64 c.k, .int .i64 c.g, .int .u64 c.q, (.slice (some ⟨g, 0, none⟩) c.n cg), .int .i64 m.cnt, .int .i64 m.l.kind, .int .i64 m.l.a, .int .i64 m.l.b, .int .u64 (m.l.old : Nat), .int .u64 (m.l.new : Nat), .bool m.l.done])] w fun e w' => ∃ g' cg', e = .returned (.tuple #[R12.V { r with jx := jx2, js := js2, jr := 0 }, (.agg #[.int .i64 c.t, .int .i64 c.s, .int .i64 c.k, .int .i64 c.g, .int .u64 c.q, (.slice (some ⟨g', 0, none⟩) c.n cg'), .int .i64 M.cnt, .int .i64 M.l.kind, .int .i64 M.l.a, .int .i64 M.l.b, .int .u64 (M.l.old : Nat), .int .u64 (M.l.new : Nat), .bool M.l.done])]) ∧ c.n ≤ cg' ∧ cg' ≤ maxLen ∧ Fr w g g' ∧ BlkAt w' g' (rowW M.ws c.n) ∧ Below w.heap.size w w' := by
  have hS := Sx.read1 hB
  have HJ := hide HJ
  clear hB
  unfold R12.V
  go_enter Tryz.func52, Tryz.ntmps52
  go_wp2_with (first | (refine ybox hS (h := ?_); clear hS; intro _ _ hS) | (refine yall hS (h := ?_); clear hS; intro _ _ hS) | refine yld hS (h := ?_) | (refine yst hS (h := ?_); clear hS; intro _ hS))
  have hSz := hS.size
  refine ((unhide HJ) _ (hS.getE 0 rfl)).mono ?_
  rintro e u ⟨g', cg', rfl, q1, q2, hFr, hG, hb⟩
  replace hS := hS.ref hb 0 rfl hFr hG
  have hFr := (Fr.refl w g).trans hFr hSz
  clear hb hG HJ hSz
  dsimp only [List.set] at hS
  go_wp2_with (first | (refine ybox hS (h := ?_); clear hS; intro _ _ hS) | (refine yall hS (h := ?_); clear hS; intro _ _ hS) | refine yld hS (h := ?_) | (refine yst hS (h := ?_); clear hS; intro _ hS))
  refine wp_ret2 hS 0 5 2 3 (hQ := ?_)
  intro u hS'
  clear hS
  dsimp only [List.set] at hS' ⊢
  go_wp2
  have hZ := hS'.get 2 rfl
  have hY := hS'.get 3 rfl
  exact bodyPost_ret (v := .tuple #[R12.V { r with jx := jx2, js := js2, jr := 0 }, (.agg #[.int .i64 c.t, .int .i64 c.s, .int .i64 c.k, .int .i64 c.g, .int .u64 c.q, (.slice (some ⟨g', 0, none⟩) c.n cg'), .int .i64 M.cnt, .int .i64 M.l.kind, .int .i64 M.l.a, .int .i64 M.l.b, .int .u64 (M.l.old : Nat), .int .u64 (M.l.new : Nat), .bool M.l.done])]) (results_rows Tryz.results52 rfl rfl hZ hY (row_any2 rfl) (row_any2 rfl) rfl rfl) rfl ⟨g', cg', rfl, q1, q2, hFr, hS'.getE 0 rfl, hS'.bel⟩
set_option maxHeartbeats 8000000 in
theorem rJoins12_3 (w : World) (c : Um.Cf) (m M : Um.Mm) (g cg : Nat) (r : R12) (jx2 : Int) (js2 : Nat) (hB : BlkAt w g (rowW m.ws c.n))
    (HJ : ∀ u, BlkAt u g (rowW m.ws c.n) → Calls Tryz.prog 96 #[.agg #[.int .i64 r.jl, .int .i64 r.jd, .int .i64 r.jb, .int .u64 (r.jn : Nat), .int .i64 r.jx, .int .u64 (r.js : Nat), .int .i64 r.jr], (.agg #[.int .i64 c.t, .int .i64 c.s, .int .i64 c.k, .int .i64 c.g, .int .u64 c.q, (.slice (some ⟨g, 0, none⟩) c.n cg), .int .i64 m.cnt, .int .i64 m.l.kind, .int .i64 m.l.a, .int .i64 m.l.b, .int .u64 (m.l.old : Nat), .int .u64 (m.l.new : Nat), .bool m.l.done])] u fun e w' => ∃ g' cg', e = .returned (.tuple #[.agg #[.int .i64 r.jl, .int .i64 r.jd, .int .i64 r.jb, .int .u64 (r.jn : Nat), .int .i64 jx2, .int .u64 (js2 : Nat), .int .i64 3], (.agg #[.int .i64 c.t, .int .i64 c.s, .int .i64 c.k, .int .i64 c.g, .int .u64 c.q, (.slice (some ⟨g', 0, none⟩) c.n cg'), .int .i64 M.cnt, .int .i64 M.l.kind, .int .i64 M.l.a, .int .i64 M.l.b, .int .u64 (M.l.old : Nat), .int .u64 (M.l.new : Nat), .bool M.l.done])]) ∧ c.n ≤ cg' ∧ cg' ≤ maxLen ∧ Fr u g g' ∧ BlkAt w' g' (rowW M.ws c.n) ∧ Below u.heap.size u w') :
    Calls Tryz.prog 52 #[r.V, (.agg #[.int .i64 c.t, .int .i64 c.s, .int .i64 c.k, .int .i64 c.g, .int .u64 c.q, (.slice (some ⟨g, 0, none⟩) c.n cg), .int .i64 m.cnt, .int .i64 m.l.kind, .int .i64 m.l.a, .int .i64 m.l.b, .int .u64 (m.l.old : Nat), .int .u64 (m.l.new : Nat), .bool m.l.done])] w fun e w' => ∃ g' cg', e = .returned (.tuple #[R12.V { r with jx := jx2, js := js2, jr := 3, ll := r.slot, lt := 5, lk := false, ls := 0, ld := false, td := 7, nx := 6 }, (.agg #[.int .i64 c.t, .int .i64 c.s, .int .i64 c.k, .int .i64 c.g, .int .u64 c.q, (.slice (some ⟨g', 0, none⟩) c.n cg'), .int .i64 M.cnt, .int .i64 M.l.kind, .int .i64 M.l.a, .int .i64 M.l.b, .int .u64 (M.l.old : Nat), .int .u64 (M.l.new : Nat), .bool M.l.done])]) ∧ c.n ≤ cg' ∧ cg' ≤ maxLen ∧ Fr w g g' ∧ BlkAt w' g' (rowW M.ws c.n) ∧ Below w.heap.size w w' := by
  have hS := Sx.read1 hB
  have HJ := hide HJ
  clear hB
  have HL := hide (fun w => rLeaves12_any { r with jx := jx2, js := js2, jr := 3 } 5 7 w)
  unfold R12.V at HL
  unfold R12.V
  go_enter Tryz.func52, Tryz.ntmps52
  go_wp2_with (first | (refine ybox hS (h := ?_); clear hS; intro _ _ hS) | (refine yall hS (h := ?_); clear hS; intro _ _ hS) | refine yld hS (h := ?_) | (refine yst hS (h := ?_); clear hS; intro _ hS))
  have hSz := hS.size
  refine ((unhide HJ) _ (hS.getE 0 rfl)).mono ?_
  rintro e u ⟨g', cg', rfl, q1, q2, hFr, hG, hb⟩
  replace hS := hS.ref hb 0 rfl hFr hG
  have hFr := (Fr.refl w g).trans hFr hSz
  clear hb hG HJ hSz
  dsimp only [List.set] at hS
  go_wp2_with (first | (refine ybox hS (h := ?_); clear hS; intro _ _ hS) | (refine yall hS (h := ?_); clear hS; intro _ _ hS) | refine yld hS (h := ?_) | (refine yst hS (h := ?_); clear hS; intro _ hS))
  refine ((unhide HL) _).mono ?_
  rintro e u ⟨rfl, hb⟩
  replace hS := hS.call hb
  clear hb HL
  go_wp2_with (refine yst hS (h := ?_); clear hS; intro _ hS)
  refine wp_ret2 hS 0 5 2 3 (hQ := ?_)
  intro u hS'
  clear hS
  dsimp only [List.set] at hS' ⊢
  go_wp2
  have hZ := hS'.get 2 rfl
  have hY := hS'.get 3 rfl
  exact bodyPost_ret (v := .tuple #[R12.V { r with jx := jx2, js := js2, jr := 3, ll := r.slot, lt := 5, lk := false, ls := 0, ld := false, td := 7, nx := 6 }, (.agg #[.int .i64 c.t, .int .i64 c.s, .int .i64 c.k, .int .i64 c.g, .int .u64 c.q, (.slice (some ⟨g', 0, none⟩) c.n cg'), .int .i64 M.cnt, .int .i64 M.l.kind, .int .i64 M.l.a, .int .i64 M.l.b, .int .u64 (M.l.old : Nat), .int .u64 (M.l.new : Nat), .bool M.l.done])]) (results_rows Tryz.results52 rfl rfl hZ hY (row_any2 rfl) (row_any2 rfl) rfl rfl) rfl ⟨g', cg', rfl, q1, q2, hFr, hS'.getE 0 rfl, hS'.bel⟩
set_option maxHeartbeats 8000000 in
theorem rJoins12_1a (w : World) (c : Um.Cf) (m M : Um.Mm) (g cg : Nat) (r : R12) (jx2 : Int) (js2 : Nat) (ob of : Nat) (xs : List Int) (ha : r.oa = some ⟨ob, of, none⟩) (hn : r.on = xs.length + 1) (hcap : r.on ≤ r.oc) (hoc : r.oc = 1) (hI2 : IsRow w (.slice (some ⟨ob, of, none⟩) xs.length (0)) xs) (hB : BlkAt w g (rowW m.ws c.n))
    (HJ : ∀ u, BlkAt u g (rowW m.ws c.n) → Calls Tryz.prog 96 #[.agg #[.int .i64 r.jl, .int .i64 r.jd, .int .i64 r.jb, .int .u64 (r.jn : Nat), .int .i64 r.jx, .int .u64 (r.js : Nat), .int .i64 r.jr], (.agg #[.int .i64 c.t, .int .i64 c.s, .int .i64 c.k, .int .i64 c.g, .int .u64 c.q, (.slice (some ⟨g, 0, none⟩) c.n cg), .int .i64 m.cnt, .int .i64 m.l.kind, .int .i64 m.l.a, .int .i64 m.l.b, .int .u64 (m.l.old : Nat), .int .u64 (m.l.new : Nat), .bool m.l.done])] u fun e w' => ∃ g' cg', e = .returned (.tuple #[.agg #[.int .i64 r.jl, .int .i64 r.jd, .int .i64 r.jb, .int .u64 (r.jn : Nat), .int .i64 jx2, .int .u64 (js2 : Nat), .int .i64 1], (.agg #[.int .i64 c.t, .int .i64 c.s, .int .i64 c.k, .int .i64 c.g, .int .u64 c.q, (.slice (some ⟨g', 0, none⟩) c.n cg'), .int .i64 M.cnt, .int .i64 M.l.kind, .int .i64 M.l.a, .int .i64 M.l.b, .int .u64 (M.l.old : Nat), .int .u64 (M.l.new : Nat), .bool M.l.done])]) ∧ c.n ≤ cg' ∧ cg' ≤ maxLen ∧ Fr u g g' ∧ BlkAt w' g' (rowW M.ws c.n) ∧ Below u.heap.size u w') :
    Calls Tryz.prog 52 #[r.V, (.agg #[.int .i64 c.t, .int .i64 c.s, .int .i64 c.k, .int .i64 c.g, .int .u64 c.q, (.slice (some ⟨g, 0, none⟩) c.n cg), .int .i64 m.cnt, .int .i64 m.l.kind, .int .i64 m.l.a, .int .i64 m.l.b, .int .u64 (m.l.old : Nat), .int .u64 (m.l.new : Nat), .bool m.l.done])] w fun e w' => ∃ g' cg', e = .returned (.tuple #[R12.V (R12.go { r with jx := jx2, js := js2, jr := 1, oa := some ⟨ob, of, none⟩, on := xs.length, oc := 0 } xs), (.agg #[.int .i64 c.t, .int .i64 c.s, .int .i64 c.k, .int .i64 c.g, .int .u64 c.q, (.slice (some ⟨g', 0, none⟩) c.n cg'), .int .i64 M.cnt, .int .i64 M.l.kind, .int .i64 M.l.a, .int .i64 M.l.b, .int .u64 (M.l.old : Nat), .int .u64 (M.l.new : Nat), .bool M.l.done])]) ∧ c.n ≤ cg' ∧ cg' ≤ maxLen ∧ Fr w g g' ∧ BlkAt w' g' (rowW M.ws c.n) ∧ Below w.heap.size w w' := by
  have hS := Sx.read1 hB
  have HJ := hide HJ
  clear hB
  have k1 : (1 : Int) ≤ ((r.on : Nat) : Int) := by omega
  have k2 : ((r.on : Nat) : Int) ≤ ((r.oc : Nat) : Int) := by omega
  have k3 : (1 : Int) ≤ ((r.oc : Nat) : Int) := by omega
  have HI := hide hI2
  have HG := hide (fun (u : World) (hI : IsRow u (.slice (some ⟨ob, of, none⟩) xs.length (0)) xs) => rGoes12_any { r with jx := jx2, js := js2, jr := 1, oa := some ⟨ob, of, none⟩, on := xs.length, oc := 0 } xs u hI)
  obtain ⟨G, hGe⟩ : ∃ G, G = R12.go { r with jx := jx2, js := js2, jr := 1, oa := some ⟨ob, of, none⟩, on := xs.length, oc := 0 } xs := ⟨_, rfl⟩
  rw [← hGe] at HG ⊢
  clear hI2 hGe
  unfold R12.V at HG
  dsimp only at HG
  unfold R12.V
  go_enter Tryz.func52, Tryz.ntmps52
  go_wp2_with (first | (refine ybox hS (h := ?_); clear hS; intro _ _ hS) | (refine yall hS (h := ?_); clear hS; intro _ _ hS) | refine yld hS (h := ?_) | (refine yst hS (h := ?_); clear hS; intro _ hS))
  have hSz := hS.size
  refine ((unhide HJ) _ (hS.getE 0 rfl)).mono ?_
  rintro e u ⟨g', cg', rfl, q1, q2, hFr, hG, hb⟩
  replace hS := hS.ref hb 0 rfl hFr hG
  have hFr := (Fr.refl w g).trans hFr hSz
  clear hb hG HJ hSz
  dsimp only [List.set] at hS
  go_wp2_with (first | (refine ybox hS (h := ?_); clear hS; intro _ _ hS) | (refine yall hS (h := ?_); clear hS; intro _ _ hS) | refine yld hS (h := ?_) | (refine yst hS (h := ?_); clear hS; intro _ hS))
  refine ((unhide HG) _ ((unhide HI).below hS.bel (Nat.le_refl _))).mono ?_
  rintro e u ⟨rfl, hb⟩
  replace hS := hS.call hb
  clear hb HG HI
  go_wp2_with (refine yst hS (h := ?_); clear hS; intro _ hS)
  refine wp_ret2 hS 0 5 2 3 (hQ := ?_)
  intro u hS'
  clear hS
  dsimp only [List.set] at hS' ⊢
  go_wp2
  have hZ := hS'.get 2 rfl
  have hY := hS'.get 3 rfl
  exact bodyPost_ret (v := .tuple #[R12.V G, (.agg #[.int .i64 c.t, .int .i64 c.s, .int .i64 c.k, .int .i64 c.g, .int .u64 c.q, (.slice (some ⟨g', 0, none⟩) c.n cg'), .int .i64 M.cnt, .int .i64 M.l.kind, .int .i64 M.l.a, .int .i64 M.l.b, .int .u64 (M.l.old : Nat), .int .u64 (M.l.new : Nat), .bool M.l.done])]) (results_rows Tryz.results52 rfl rfl hZ hY (row_any2 rfl) (row_any2 rfl) rfl rfl) rfl ⟨g', cg', rfl, q1, q2, hFr, hS'.getE 0 rfl, hS'.bel⟩
set_option maxHeartbeats 8000000 in
theorem rJoins12_1b (w : World) (c : Um.Cf) (m M : Um.Mm) (g cg : Nat) (r : R12) (jx2 : Int) (js2 : Nat) (ob of : Nat) (xs : List Int) (ha : r.oa = some ⟨ob, of, none⟩) (hn : r.on = xs.length + 1) (hcap : r.on ≤ r.oc) (hoc : ¬ r.oc = 1) (hI2 : IsRow w (.slice (some ⟨ob, of + 1, none⟩) xs.length (r.oc - 1)) xs) (hB : BlkAt w g (rowW m.ws c.n))
    (HJ : ∀ u, BlkAt u g (rowW m.ws c.n) → Calls Tryz.prog 96 #[.agg #[.int .i64 r.jl, .int .i64 r.jd, .int .i64 r.jb, .int .u64 (r.jn : Nat), .int .i64 r.jx, .int .u64 (r.js : Nat), .int .i64 r.jr], (.agg #[.int .i64 c.t, .int .i64 c.s, .int .i64 c.k, .int .i64 c.g, .int .u64 c.q, (.slice (some ⟨g, 0, none⟩) c.n cg), .int .i64 m.cnt, .int .i64 m.l.kind, .int .i64 m.l.a, .int .i64 m.l.b, .int .u64 (m.l.old : Nat), .int .u64 (m.l.new : Nat), .bool m.l.done])] u fun e w' => ∃ g' cg', e = .returned (.tuple #[.agg #[.int .i64 r.jl, .int .i64 r.jd, .int .i64 r.jb, .int .u64 (r.jn : Nat), .int .i64 jx2, .int .u64 (js2 : Nat), .int .i64 1], (.agg #[.int .i64 c.t, .int .i64 c.s, .int .i64 c.k, .int .i64 c.g, .int .u64 c.q, (.slice (some ⟨g', 0, none⟩) c.n cg'), .int .i64 M.cnt, .int .i64 M.l.kind, .int .i64 M.l.a, .int .i64 M.l.b, .int .u64 (M.l.old : Nat), .int .u64 (M.l.new : Nat), .bool M.l.done])]) ∧ c.n ≤ cg' ∧ cg' ≤ maxLen ∧ Fr u g g' ∧ BlkAt w' g' (rowW M.ws c.n) ∧ Below u.heap.size u w') :
    Calls Tryz.prog 52 #[r.V, (.agg #[.int .i64 c.t, .int .i64 c.s, .int .i64 c.k, .int .i64 c.g, .int .u64 c.q, (.slice (some ⟨g, 0, none⟩) c.n cg), .int .i64 m.cnt, .int .i64 m.l.kind, .int .i64 m.l.a, .int .i64 m.l.b, .int .u64 (m.l.old : Nat), .int .u64 (m.l.new : Nat), .bool m.l.done])] w fun e w' => ∃ g' cg', e = .returned (.tuple #[R12.V (R12.go { r with jx := jx2, js := js2, jr := 1, oa := some ⟨ob, of + 1, none⟩, on := xs.length, oc := r.oc - 1 } xs), (.agg #[.int .i64 c.t, .int .i64 c.s, .int .i64 c.k, .int .i64 c.g, .int .u64 c.q, (.slice (some ⟨g', 0, none⟩) c.n cg'), .int .i64 M.cnt, .int .i64 M.l.kind, .int .i64 M.l.a, .int .i64 M.l.b, .int .u64 (M.l.old : Nat), .int .u64 (M.l.new : Nat), .bool M.l.done])]) ∧ c.n ≤ cg' ∧ cg' ≤ maxLen ∧ Fr w g g' ∧ BlkAt w' g' (rowW M.ws c.n) ∧ Below w.heap.size w w' := by
  have hS := Sx.read1 hB
  have HJ := hide HJ
  clear hB
  have k1 : (1 : Int) ≤ ((r.on : Nat) : Int) := by omega
  have k2 : ((r.on : Nat) : Int) ≤ ((r.oc : Nat) : Int) := by omega
  have k3 : (1 : Int) ≤ ((r.oc : Nat) : Int) := by omega
  have HI := hide hI2
  have HG := hide (fun (u : World) (hI : IsRow u (.slice (some ⟨ob, of + 1, none⟩) xs.length (r.oc - 1)) xs) => rGoes12_any { r with jx := jx2, js := js2, jr := 1, oa := some ⟨ob, of + 1, none⟩, on := xs.length, oc := r.oc - 1 } xs u hI)
  obtain ⟨G, hGe⟩ : ∃ G, G = R12.go { r with jx := jx2, js := js2, jr := 1, oa := some ⟨ob, of + 1, none⟩, on := xs.length, oc := r.oc - 1 } xs := ⟨_, rfl⟩
  rw [← hGe] at HG ⊢
  clear hI2 hGe
  unfold R12.V at HG
  dsimp only at HG
  unfold R12.V
  go_enter Tryz.func52, Tryz.ntmps52
  go_wp2_with (first | (refine ybox hS (h := ?_); clear hS; intro _ _ hS) | (refine yall hS (h := ?_); clear hS; intro _ _ hS) | refine yld hS (h := ?_) | (refine yst hS (h := ?_); clear hS; intro _ hS))
  have hSz := hS.size
  refine ((unhide HJ) _ (hS.getE 0 rfl)).mono ?_
  rintro e u ⟨g', cg', rfl, q1, q2, hFr, hG, hb⟩
  replace hS := hS.ref hb 0 rfl hFr hG
  have hFr := (Fr.refl w g).trans hFr hSz
  clear hb hG HJ hSz
  dsimp only [List.set] at hS
  go_wp2_with (first | (refine ybox hS (h := ?_); clear hS; intro _ _ hS) | (refine yall hS (h := ?_); clear hS; intro _ _ hS) | refine yld hS (h := ?_) | (refine yst hS (h := ?_); clear hS; intro _ hS))
  refine ((unhide HG) _ ((unhide HI).below hS.bel (Nat.le_refl _))).mono ?_
  rintro e u ⟨rfl, hb⟩
  replace hS := hS.call hb
  clear hb HG HI
  go_wp2_with (refine yst hS (h := ?_); clear hS; intro _ hS)
  refine wp_ret2 hS 0 5 2 3 (hQ := ?_)
  intro u hS'
  clear hS
  dsimp only [List.set] at hS' ⊢
  go_wp2
  have hZ := hS'.get 2 rfl
  have hY := hS'.get 3 rfl
  exact bodyPost_ret (v := .tuple #[R12.V G, (.agg #[.int .i64 c.t, .int .i64 c.s, .int .i64 c.k, .int .i64 c.g, .int .u64 c.q, (.slice (some ⟨g', 0, none⟩) c.n cg'), .int .i64 M.cnt, .int .i64 M.l.kind, .int .i64 M.l.a, .int .i64 M.l.b, .int .u64 (M.l.old : Nat), .int .u64 (M.l.new : Nat), .bool M.l.done])]) (results_rows Tryz.results52 rfl rfl hZ hY (row_any2 rfl) (row_any2 rfl) rfl rfl) rfl ⟨g', cg', rfl, q1, q2, hFr, hS'.getE 0 rfl, hS'.bel⟩
end
section
set_option maxRecDepth 100000
open Go.RowKit Go.Sort
set_option linter.unusedVariables false
set_option linter.unusedSimpArgs false
set_option maxHeartbeats 8000000 in
theorem rStep12_done (w : World) (c : Um.Cf) (m : Um.Mm) (g cg : Nat) (r : R12) (hB : BlkAt w g (rowW m.ws c.n)) (hr : c.r = true) (hw : WordsOk c m) (h1 : c.n ≤ cg) (h2 : cg ≤ maxLen) :
    Calls Tryz.prog 18 #[R12.V { r with dn := true }, (.agg #[.int .i64 c.t, .int .i64 c.s, .int .i64 c.k, .int .i64 c.g, .int .u64 c.q, (.slice (some ⟨g, 0, none⟩) c.n cg), .int .i64 m.cnt, .int .i64 m.l.kind, .int .i64 m.l.a, .int .i64 m.l.b, .int .u64 (m.l.old : Nat), .int .u64 (m.l.new : Nat), .bool m.l.done])] w fun e w' => ∃ g' cg', e = .returned (.tuple #[R12.V { r with dn := true }, (.agg #[.int .i64 c.t, .int .i64 c.s, .int .i64 c.k, .int .i64 c.g, .int .u64 c.q, (.slice (some ⟨g', 0, none⟩) c.n cg'), .int .i64 m.cnt, .int .i64 m.l.kind, .int .i64 m.l.a, .int .i64 m.l.b, .int .u64 (m.l.old : Nat), .int .u64 (m.l.new : Nat), .bool m.l.done])]) ∧ c.n ≤ cg' ∧ cg' ≤ maxLen ∧ Fr w g g' ∧ WordsOk c m ∧ BlkAt w' g' (rowW m.ws c.n) ∧ Below w.heap.size w w' := by
  have hS := Sx.read1 hB
  have HR := hide hr
  have HW := hide hw
  clear hB hr hw
  unfold R12.V
  dsimp only
  go_enter Tryz.func18, Tryz.ntmps18
  go_wp2_with (first | (refine ybox hS (h := ?_); clear hS; intro _ _ hS) | (refine yall hS (h := ?_); clear hS; intro _ _ hS) | refine yld hS (h := ?_) | (refine yst hS (h := ?_); clear hS; intro _ hS))
  refine wp_ret2 hS 0 1 2 3 (hQ := ?_)
  intro u hS'
  clear hS
  dsimp only [List.set] at hS' ⊢
  go_wp2
  have hZ := hS'.get 2 rfl
  have hY := hS'.get 3 rfl
  exact bodyPost_ret (v := .tuple #[R12.V { r with dn := true }, (.agg #[.int .i64 c.t, .int .i64 c.s, .int .i64 c.k, .int .i64 c.g, .int .u64 c.q, (.slice (some ⟨g, 0, none⟩) c.n cg), .int .i64 m.cnt, .int .i64 m.l.kind, .int .i64 m.l.a, .int .i64 m.l.b, .int .u64 (m.l.old : Nat), .int .u64 (m.l.new : Nat), .bool m.l.done])]) (results_rows Tryz.results18 rfl rfl hZ hY (row_any2 rfl) (row_any2 rfl) rfl rfl) rfl ⟨g, cg, rfl, h1, h2, .inl rfl, unhide HW, hS'.getE 0 rfl, hS'.bel⟩
set_option maxHeartbeats 8000000 in
theorem rStep12_snap (w : World) (c : Um.Cf) (m M : Um.Mm) (g cg : Nat) (r : R12) (hB : BlkAt w g (rowW m.ws c.n)) (hr : c.r = true) (hw : WordsOk c m) (h1 : c.n ≤ cg) (h2 : cg ≤ maxLen) (hM : M = Um.mtouch c m 1 5 r.slot 0 0) :
    Calls Tryz.prog 18 #[R12.V { r with dn := false, nx := 1 }, (.agg #[.int .i64 c.t, .int .i64 c.s, .int .i64 c.k, .int .i64 c.g, .int .u64 c.q, (.slice (some ⟨g, 0, none⟩) c.n cg), .int .i64 m.cnt, .int .i64 m.l.kind, .int .i64 m.l.a, .int .i64 m.l.b, .int .u64 (m.l.old : Nat), .int .u64 (m.l.new : Nat), .bool m.l.done])] w fun e w' => ∃ g' cg', e = .returned (.tuple #[R12.V { r with dn := false, n := M.l.old, nx := 2 }, (.agg #[.int .i64 c.t, .int .i64 c.s, .int .i64 c.k, .int .i64 c.g, .int .u64 c.q, (.slice (some ⟨g', 0, none⟩) c.n cg'), .int .i64 M.cnt, .int .i64 M.l.kind, .int .i64 M.l.a, .int .i64 M.l.b, .int .u64 (M.l.old : Nat), .int .u64 (M.l.new : Nat), .bool M.l.done])]) ∧ c.n ≤ cg' ∧ cg' ≤ maxLen ∧ Fr w g g' ∧ WordsOk c M ∧ BlkAt w' g' (rowW M.ws c.n) ∧ Below w.heap.size w w' := by
  have hS := Sx.read1 hB
  have HR := hide hr
  have HW := hide hw
  have HM := hide hM
  clear hB hr hw hM
  unfold R12.V
  dsimp only
  go_enter Tryz.func18, Tryz.ntmps18
  go_wp2_with (first | (refine ybox hS (h := ?_); clear hS; intro _ _ hS) | (refine yall hS (h := ?_); clear hS; intro _ _ hS) | refine yld hS (h := ?_) | (refine yst hS (h := ?_); clear hS; intro _ hS))
  have hSz := hS.size
  refine (rLoad_x hS 0 rfl (unhide HR) (unhide HW) h1 h2 5 r.slot M (unhide HM)).mono ?_
  rintro r u ⟨g', cg', rfl, q1, q2, hFr, hWn, hSn⟩
  clear hS
  have hS := hSn
  clear hSn
  dsimp only [putL, List.set, List.cons_append, List.nil_append] at hS
  have HW2 := hide hWn
  clear hWn
  go_wp2_with (first | (refine ybox hS (h := ?_); clear hS; intro _ _ hS) | (refine yall hS (h := ?_); clear hS; intro _ _ hS) | refine yld hS (h := ?_) | (refine yst hS (h := ?_); clear hS; intro _ hS))
  refine wp_ret2 hS 0 4 2 3 (hQ := ?_)
  intro u hS'
  clear hS
  dsimp only [List.set] at hS' ⊢
  go_wp2
  have hZ := hS'.get 2 rfl
  have hY := hS'.get 3 rfl
  exact bodyPost_ret (v := .tuple #[R12.V { r with dn := false, n := M.l.old, nx := 2 }, (.agg #[.int .i64 c.t, .int .i64 c.s, .int .i64 c.k, .int .i64 c.g, .int .u64 c.q, (.slice (some ⟨g', 0, none⟩) c.n cg'), .int .i64 M.cnt, .int .i64 M.l.kind, .int .i64 M.l.a, .int .i64 M.l.b, .int .u64 (M.l.old : Nat), .int .u64 (M.l.new : Nat), .bool M.l.done])]) (results_rows Tryz.results18 rfl rfl hZ hY (row_any2 rfl) (row_any2 rfl) rfl rfl) rfl ⟨g', cg', rfl, q1, q2, (Fr.refl w g).trans hFr hSz, unhide HW2, hS'.getE 0 rfl, hS'.bel⟩
set_option maxHeartbeats 8000000 in
theorem rStep12_look (w : World) (c : Um.Cf) (m M : Um.Mm) (g cg : Nat) (r : R12) (hh : Um.hasN M.l.old 0 r.slot = false) (hB : BlkAt w g (rowW m.ws c.n)) (hr : c.r = true) (hw : WordsOk c m) (h1 : c.n ≤ cg) (h2 : cg ≤ maxLen) (hM : M = Um.mtouch c m 1 8 r.key 0 0) :
    Calls Tryz.prog 18 #[R12.V { r with dn := false, nx := 2 }, (.agg #[.int .i64 c.t, .int .i64 c.s, .int .i64 c.k, .int .i64 c.g, .int .u64 c.q, (.slice (some ⟨g, 0, none⟩) c.n cg), .int .i64 m.cnt, .int .i64 m.l.kind, .int .i64 m.l.a, .int .i64 m.l.b, .int .u64 (m.l.old : Nat), .int .u64 (m.l.new : Nat), .bool m.l.done])] w fun e w' => ∃ g' cg', e = .returned (.tuple #[R12.V { r with dn := false, w := M.l.old, nx := 3 }, (.agg #[.int .i64 c.t, .int .i64 c.s, .int .i64 c.k, .int .i64 c.g, .int .u64 c.q, (.slice (some ⟨g', 0, none⟩) c.n cg'), .int .i64 M.cnt, .int .i64 M.l.kind, .int .i64 M.l.a, .int .i64 M.l.b, .int .u64 (M.l.old : Nat), .int .u64 (M.l.new : Nat), .bool M.l.done])]) ∧ c.n ≤ cg' ∧ cg' ≤ maxLen ∧ Fr w g g' ∧ WordsOk c M ∧ BlkAt w' g' (rowW M.ws c.n) ∧ Below w.heap.size w w' := by
  have hS := Sx.read1 hB
  have HOW := hide (show Um.Word M.l.old by rw [hM]; exact Um.old_word hw)
  have HH := hide hh
  clear hh
  have HR := hide hr
  have HW := hide hw
  have HM := hide hM
  clear hB hr hw hM
  unfold R12.V
  dsimp only
  go_enter Tryz.func18, Tryz.ntmps18
  go_wp2_with (first | (refine ybox hS (h := ?_); clear hS; intro _ _ hS) | (refine yall hS (h := ?_); clear hS; intro _ _ hS) | refine yld hS (h := ?_) | (refine yst hS (h := ?_); clear hS; intro _ hS))
  have hSz := hS.size
  refine (rLoad_x hS 0 rfl (unhide HR) (unhide HW) h1 h2 8 r.key M (unhide HM)).mono ?_
  rintro r u ⟨g', cg', rfl, q1, q2, hFr, hWn, hSn⟩
  clear hS
  have hS := hSn
  clear hSn
  dsimp only [putL, List.set, List.cons_append, List.nil_append] at hS
  have HW2 := hide hWn
  clear hWn
  go_wp2_with (first | (refine ybox hS (h := ?_); clear hS; intro _ _ hS) | (refine yall hS (h := ?_); clear hS; intro _ _ hS) | refine yld hS (h := ?_) | (refine yst hS (h := ?_); clear hS; intro _ hS))
  refine (mrHas_any M.l.old 0 r.slot _ (unhide HOW)).mono ?_
  rintro r u ⟨rfl, rfl⟩
  rw [unhide HH]
  go_wp2_with (first | (refine ybox hS (h := ?_); clear hS; intro _ _ hS) | (refine yall hS (h := ?_); clear hS; intro _ _ hS) | refine yld hS (h := ?_) | (refine yst hS (h := ?_); clear hS; intro _ hS))
  refine wp_ret2 hS 0 4 2 3 (hQ := ?_)
  intro u hS'
  clear hS
  dsimp only [List.set] at hS' ⊢
  go_wp2
  have hZ := hS'.get 2 rfl
  have hY := hS'.get 3 rfl
  exact bodyPost_ret (v := .tuple #[R12.V { r with dn := false, w := M.l.old, nx := 3 }, (.agg #[.int .i64 c.t, .int .i64 c.s, .int .i64 c.k, .int .i64 c.g, .int .u64 c.q, (.slice (some ⟨g', 0, none⟩) c.n cg'), .int .i64 M.cnt, .int .i64 M.l.kind, .int .i64 M.l.a, .int .i64 M.l.b, .int .u64 (M.l.old : Nat), .int .u64 (M.l.new : Nat), .bool M.l.done])]) (results_rows Tryz.results18 rfl rfl hZ hY (row_any2 rfl) (row_any2 rfl) rfl rfl) rfl ⟨g', cg', rfl, q1, q2, (Fr.refl w g).trans hFr hSz, unhide HW2, hS'.getE 0 rfl, hS'.bel⟩
end
section
set_option maxRecDepth 100000
open Go.RowKit Go.Sort
set_option linter.unusedVariables false
set_option linter.unusedSimpArgs false
set_option maxHeartbeats 8000000 in
theorem rStep12_leave_on (w : World) (c : Um.Cf) (m M : Um.Mm) (g cg : Nat) (r : R12) (lk2 : Bool) (ls2 : Nat) (hB : BlkAt w g (rowW m.ws c.n))
    (HJ : ∀ u, BlkAt u g (rowW m.ws c.n) → Calls Tryz.prog 55 #[.agg #[.int .i64 r.ll, .int .i64 r.lt, .bool r.lk, .int .u64 (r.ls : Nat), .bool r.ld], (.agg #[.int .i64 c.t, .int .i64 c.s, .int .i64 c.k, .int .i64 c.g, .int .u64 c.q, (.slice (some ⟨g, 0, none⟩) c.n cg), .int .i64 m.cnt, .int .i64 m.l.kind, .int .i64 m.l.a, .int .i64 m.l.b, .int .u64 (m.l.old : Nat), .int .u64 (m.l.new : Nat), .bool m.l.done])] u fun e w' => ∃ g' cg', e = .returned (.tuple #[.agg #[.int .i64 r.ll, .int .i64 r.lt, .bool lk2, .int .u64 (ls2 : Nat), .bool false], (.agg #[.int .i64 c.t, .int .i64 c.s, .int .i64 c.k, .int .i64 c.g, .int .u64 c.q, (.slice (some ⟨g', 0, none⟩) c.n cg'), .int .i64 M.cnt, .int .i64 M.l.kind, .int .i64 M.l.a, .int .i64 M.l.b, .int .u64 (M.l.old : Nat), .int .u64 (M.l.new : Nat), .bool M.l.done])]) ∧ c.n ≤ cg' ∧ cg' ≤ maxLen ∧ Fr u g g' ∧ BlkAt w' g' (rowW M.ws c.n) ∧ Below u.heap.size u w') :
    Calls Tryz.prog 18 #[R12.V { r with dn := false, nx := 6 }, (.agg #[.int .i64 c.t, .int .i64 c.s, .int .i64 c.k, .int .i64 c.g, .int .u64 c.q, (.slice (some ⟨g, 0, none⟩) c.n cg), .int .i64 m.cnt, .int .i64 m.l.kind, .int .i64 m.l.a, .int .i64 m.l.b, .int .u64 (m.l.old : Nat), .int .u64 (m.l.new : Nat), .bool m.l.done])] w fun e w' => ∃ g' cg', e = .returned (.tuple #[R12.V { r with dn := false, nx := 6, lk := lk2, ls := ls2, ld := false }, (.agg #[.int .i64 c.t, .int .i64 c.s, .int .i64 c.k, .int .i64 c.g, .int .u64 c.q, (.slice (some ⟨g', 0, none⟩) c.n cg'), .int .i64 M.cnt, .int .i64 M.l.kind, .int .i64 M.l.a, .int .i64 M.l.b, .int .u64 (M.l.old : Nat), .int .u64 (M.l.new : Nat), .bool M.l.done])]) ∧ c.n ≤ cg' ∧ cg' ≤ maxLen ∧ Fr w g g' ∧ BlkAt w' g' (rowW M.ws c.n) ∧ Below w.heap.size w w' := by
  have hS := Sx.read1 hB
  have HJ := hide HJ
  clear hB
  unfold R12.V
  dsimp only
  go_enter Tryz.func18, Tryz.ntmps18
  go_wp2_with (first | (refine ybox hS (h := ?_); clear hS; intro _ _ hS) | (refine yall hS (h := ?_); clear hS; intro _ _ hS) | refine yld hS (h := ?_) | (refine yst hS (h := ?_); clear hS; intro _ hS))
  have hSz := hS.size
  refine ((unhide HJ) _ (hS.getE 0 rfl)).mono ?_
  rintro e u ⟨g', cg', rfl, q1, q2, hFr, hG, hb⟩
  replace hS := hS.ref hb 0 rfl hFr hG
  have hFr := (Fr.refl w g).trans hFr hSz
  clear hb hG HJ hSz
  dsimp only [List.set] at hS
  go_wp2_with (first | (refine ybox hS (h := ?_); clear hS; intro _ _ hS) | (refine yall hS (h := ?_); clear hS; intro _ _ hS) | refine yld hS (h := ?_) | (refine yst hS (h := ?_); clear hS; intro _ hS))
  refine wp_ret2 hS 0 5 2 3 (hQ := ?_)
  intro u hS'
  clear hS
  dsimp only [List.set] at hS' ⊢
  go_wp2
  have hZ := hS'.get 2 rfl
  have hY := hS'.get 3 rfl
  exact bodyPost_ret (v := .tuple #[R12.V { r with dn := false, nx := 6, lk := lk2, ls := ls2, ld := false }, (.agg #[.int .i64 c.t, .int .i64 c.s, .int .i64 c.k, .int .i64 c.g, .int .u64 c.q, (.slice (some ⟨g', 0, none⟩) c.n cg'), .int .i64 M.cnt, .int .i64 M.l.kind, .int .i64 M.l.a, .int .i64 M.l.b, .int .u64 (M.l.old : Nat), .int .u64 (M.l.new : Nat), .bool M.l.done])]) (results_rows Tryz.results18 rfl rfl hZ hY (row_any2 rfl) (row_any2 rfl) rfl rfl) rfl ⟨g', cg', rfl, q1, q2, hFr, hS'.getE 0 rfl, hS'.bel⟩
set_option maxHeartbeats 8000000 in
theorem rStep12_leave_end (w : World) (c : Um.Cf) (m M : Um.Mm) (g cg : Nat) (r : R12) (lk2 : Bool) (ls2 : Nat) (hB : BlkAt w g (rowW m.ws c.n))
    (HJ : ∀ u, BlkAt u g (rowW m.ws c.n) → Calls Tryz.prog 55 #[.agg #[.int .i64 r.ll, .int .i64 r.lt, .bool r.lk, .int .u64 (r.ls : Nat), .bool r.ld], (.agg #[.int .i64 c.t, .int .i64 c.s, .int .i64 c.k, .int .i64 c.g, .int .u64 c.q, (.slice (some ⟨g, 0, none⟩) c.n cg), .int .i64 m.cnt, .int .i64 m.l.kind, .int .i64 m.l.a, .int .i64 m.l.b, .int .u64 (m.l.old : Nat), .int .u64 (m.l.new : Nat), .bool m.l.done])] u fun e w' => ∃ g' cg', e = .returned (.tuple #[.agg #[.int .i64 r.ll, .int .i64 r.lt, .bool lk2, .int .u64 (ls2 : Nat), .bool true], (.agg #[.int .i64 c.t, .int .i64 c.s, .int .i64 c.k, .int .i64 c.g, .int .u64 c.q, (.slice (some ⟨g', 0, none⟩) c.n cg'), .int .i64 M.cnt, .int .i64 M.l.kind, .int .i64 M.l.a, .int .i64 M.l.b, .int .u64 (M.l.old : Nat), .int .u64 (M.l.new : Nat), .bool M.l.done])]) ∧ c.n ≤ cg' ∧ cg' ≤ maxLen ∧ Fr u g g' ∧ BlkAt w' g' (rowW M.ws c.n) ∧ Below u.heap.size u w') :
    Calls Tryz.prog 18 #[R12.V { r with dn := false, nx := 6 }, (.agg #[.int .i64 c.t, .int .i64 c.s, .int .i64 c.k, .int .i64 c.g, .int .u64 c.q, (.slice (some ⟨g, 0, none⟩) c.n cg), .int .i64 m.cnt, .int .i64 m.l.kind, .int .i64 m.l.a, .int .i64 m.l.b, .int .u64 (m.l.old : Nat), .int .u64 (m.l.new : Nat), .bool m.l.done])] w fun e w' => ∃ g' cg', e = .returned (.tuple #[R12.V { r with dn := true, nx := 6, e := r.td, lk := lk2, ls := ls2, ld := true }, (.agg #[.int .i64 c.t, .int .i64 c.s, .int .i64 c.k, .int .i64 c.g, .int .u64 c.q, (.slice (some ⟨g', 0, none⟩) c.n cg'), .int .i64 M.cnt, .int .i64 M.l.kind, .int .i64 M.l.a, .int .i64 M.l.b, .int .u64 (M.l.old : Nat), .int .u64 (M.l.new : Nat), .bool M.l.done])]) ∧ c.n ≤ cg' ∧ cg' ≤ maxLen ∧ Fr w g g' ∧ BlkAt w' g' (rowW M.ws c.n) ∧ Below w.heap.size w w' := by
  have hS := Sx.read1 hB
  have HJ := hide HJ
  clear hB
  unfold R12.V
  dsimp only
  go_enter Tryz.func18, Tryz.ntmps18
  go_wp2_with (first | (refine ybox hS (h := ?_); clear hS; intro _ _ hS) | (refine yall hS (h := ?_); clear hS; intro _ _ hS) | refine yld hS (h := ?_) | (refine yst hS (h := ?_); clear hS; intro _ hS))
  have hSz := hS.size
  refine ((unhide HJ) _ (hS.getE 0 rfl)).mono ?_
  rintro e u ⟨g', cg', rfl, q1, q2, hFr, hG, hb⟩
  replace hS := hS.ref hb 0 rfl hFr hG
  have hFr := (Fr.refl w g).trans hFr hSz
  clear hb hG HJ hSz
  dsimp only [List.set] at hS
  go_wp2_with (first | (refine ybox hS (h := ?_); clear hS; intro _ _ hS) | (refine yall hS (h := ?_); clear hS; intro _ _ hS) | refine yld hS (h := ?_) | (refine yst hS (h := ?_); clear hS; intro _ hS))
  refine wp_ret2 hS 0 5 2 3 (hQ := ?_)
  intro u hS'
  clear hS
  dsimp only [List.set] at hS' ⊢
  go_wp2
  have hZ := hS'.get 2 rfl
  have hY := hS'.get 3 rfl
  exact bodyPost_ret (v := .tuple #[R12.V { r with dn := true, nx := 6, e := r.td, lk := lk2, ls := ls2, ld := true }, (.agg #[.int .i64 c.t, .int .i64 c.s, .int .i64 c.k, .int .i64 c.g, .int .u64 c.q, (.slice (some ⟨g', 0, none⟩) c.n cg'), .int .i64 M.cnt, .int .i64 M.l.kind, .int .i64 M.l.a, .int .i64 M.l.b, .int .u64 (M.l.old : Nat), .int .u64 (M.l.new : Nat), .bool M.l.done])]) (results_rows Tryz.results18 rfl rfl hZ hY (row_any2 rfl) (row_any2 rfl) rfl rfl) rfl ⟨g', cg', rfl, q1, q2, hFr, hS'.getE 0 rfl, hS'.bel⟩
end
section
set_option maxRecDepth 100000
open Go.RowKit Go.Sort
set_option linter.unusedVariables false
set_option linter.unusedSimpArgs false
set_option maxHeartbeats 8000000 in
theorem rStep12_own_on (w : World) (c : Um.Cf) (m M : Um.Mm) (g cg : Nat) (r : R12) (ok2 : Bool) (oS2 : Nat) (hB : BlkAt w g (rowW m.ws c.n))
    (HJ : ∀ u, BlkAt u g (rowW m.ws c.n) → Calls Tryz.prog 53 #[.agg #[.int .i64 r.ol, .int .i64 r.od, .int .i64 r.ob, .bool r.ok, .int .u64 (r.oS : Nat), .bool r.oD], (.agg #[.int .i64 c.t, .int .i64 c.s, .int .i64 c.k, .int .i64 c.g, .int .u64 c.q, (.slice (some ⟨g, 0, none⟩) c.n cg), .int .i64 m.cnt, .int .i64 m.l.kind, .int .i64 m.l.a, .int .i64 m.l.b, .int .u64 (m.l.old : Nat), .int .u64 (m.l.new : Nat), .bool m.l.done])] u fun e w' => ∃ g' cg', e = .returned (.tuple #[.agg #[.int .i64 r.ol, .int .i64 r.od, .int .i64 r.ob, .bool ok2, .int .u64 (oS2 : Nat), .bool false], (.agg #[.int .i64 c.t, .int .i64 c.s, .int .i64 c.k, .int .i64 c.g, .int .u64 c.q, (.slice (some ⟨g', 0, none⟩) c.n cg'), .int .i64 M.cnt, .int .i64 M.l.kind, .int .i64 M.l.a, .int .i64 M.l.b, .int .u64 (M.l.old : Nat), .int .u64 (M.l.new : Nat), .bool M.l.done])]) ∧ c.n ≤ cg' ∧ cg' ≤ maxLen ∧ Fr u g g' ∧ BlkAt w' g' (rowW M.ws c.n) ∧ Below u.heap.size u w') :
    Calls Tryz.prog 18 #[R12.V { r with dn := false, nx := 5 }, (.agg #[.int .i64 c.t, .int .i64 c.s, .int .i64 c.k, .int .i64 c.g, .int .u64 c.q, (.slice (some ⟨g, 0, none⟩) c.n cg), .int .i64 m.cnt, .int .i64 m.l.kind, .int .i64 m.l.a, .int .i64 m.l.b, .int .u64 (m.l.old : Nat), .int .u64 (m.l.new : Nat), .bool m.l.done])] w fun e w' => ∃ g' cg', e = .returned (.tuple #[R12.V { r with dn := false, nx := 5, ok := ok2, oS := oS2, oD := false }, (.agg #[.int .i64 c.t, .int .i64 c.s, .int .i64 c.k, .int .i64 c.g, .int .u64 c.q, (.slice (some ⟨g', 0, none⟩) c.n cg'), .int .i64 M.cnt, .int .i64 M.l.kind, .int .i64 M.l.a, .int .i64 M.l.b, .int .u64 (M.l.old : Nat), .int .u64 (M.l.new : Nat), .bool M.l.done])]) ∧ c.n ≤ cg' ∧ cg' ≤ maxLen ∧ Fr w g g' ∧ BlkAt w' g' (rowW M.ws c.n) ∧ Below w.heap.size w w' := by
  have hS := Sx.read1 hB
  have HJ := hide HJ
  clear hB
  unfold R12.V
  dsimp only
  go_enter Tryz.func18, Tryz.ntmps18
  go_wp2_with (first | (refine ybox hS (h := ?_); clear hS; intro _ _ hS) | (refine yall hS (h := ?_); clear hS; intro _ _ hS) | refine yld hS (h := ?_) | (refine yst hS (h := ?_); clear hS; intro _ hS))
  have hSz := hS.size
  refine ((unhide HJ) _ (hS.getE 0 rfl)).mono ?_
  rintro e u ⟨g', cg', rfl, q1, q2, hFr, hG, hb⟩
  replace hS := hS.ref hb 0 rfl hFr hG
  have hFr := (Fr.refl w g).trans hFr hSz
  clear hb hG HJ hSz
  dsimp only [List.set] at hS
  go_wp2_with (first | (refine ybox hS (h := ?_); clear hS; intro _ _ hS) | (refine yall hS (h := ?_); clear hS; intro _ _ hS) | refine yld hS (h := ?_) | (refine yst hS (h := ?_); clear hS; intro _ hS))
  refine wp_ret2 hS 0 5 2 3 (hQ := ?_)
  intro u hS'
  clear hS
  dsimp only [List.set] at hS' ⊢
  go_wp2
  have hZ := hS'.get 2 rfl
  have hY := hS'.get 3 rfl
  exact bodyPost_ret (v := .tuple #[R12.V { r with dn := false, nx := 5, ok := ok2, oS := oS2, oD := false }, (.agg #[.int .i64 c.t, .int .i64 c.s, .int .i64 c.k, .int .i64 c.g, .int .u64 c.q, (.slice (some ⟨g', 0, none⟩) c.n cg'), .int .i64 M.cnt, .int .i64 M.l.kind, .int .i64 M.l.a, .int .i64 M.l.b, .int .u64 (M.l.old : Nat), .int .u64 (M.l.new : Nat), .bool M.l.done])]) (results_rows Tryz.results18 rfl rfl hZ hY (row_any2 rfl) (row_any2 rfl) rfl rfl) rfl ⟨g', cg', rfl, q1, q2, hFr, hS'.getE 0 rfl, hS'.bel⟩
set_option maxHeartbeats 8000000 in
theorem rStep12_own_enda (w : World) (c : Um.Cf) (m M : Um.Mm) (g cg : Nat) (r : R12) (ok2 : Bool) (oS2 : Nat) (qb qf : Nat) (xs : List Int) (ha : r.oa = some ⟨qb, qf, none⟩) (hn : r.on = xs.length + 1) (hcap : r.on ≤ r.oc) (hoc : r.oc = 1) (hI2 : IsRow w (.slice (some ⟨qb, qf, none⟩) xs.length (0)) xs) (hB : BlkAt w g (rowW m.ws c.n))
    (HJ : ∀ u, BlkAt u g (rowW m.ws c.n) → Calls Tryz.prog 53 #[.agg #[.int .i64 r.ol, .int .i64 r.od, .int .i64 r.ob, .bool r.ok, .int .u64 (r.oS : Nat), .bool r.oD], (.agg #[.int .i64 c.t, .int .i64 c.s, .int .i64 c.k, .int .i64 c.g, .int .u64 c.q, (.slice (some ⟨g, 0, none⟩) c.n cg), .int .i64 m.cnt, .int .i64 m.l.kind, .int .i64 m.l.a, .int .i64 m.l.b, .int .u64 (m.l.old : Nat), .int .u64 (m.l.new : Nat), .bool m.l.done])] u fun e w' => ∃ g' cg', e = .returned (.tuple #[.agg #[.int .i64 r.ol, .int .i64 r.od, .int .i64 r.ob, .bool ok2, .int .u64 (oS2 : Nat), .bool true], (.agg #[.int .i64 c.t, .int .i64 c.s, .int .i64 c.k, .int .i64 c.g, .int .u64 c.q, (.slice (some ⟨g', 0, none⟩) c.n cg'), .int .i64 M.cnt, .int .i64 M.l.kind, .int .i64 M.l.a, .int .i64 M.l.b, .int .u64 (M.l.old : Nat), .int .u64 (M.l.new : Nat), .bool M.l.done])]) ∧ c.n ≤ cg' ∧ cg' ≤ maxLen ∧ Fr u g g' ∧ BlkAt w' g' (rowW M.ws c.n) ∧ Below u.heap.size u w') :
    Calls Tryz.prog 18 #[R12.V { r with dn := false, nx := 5 }, (.agg #[.int .i64 c.t, .int .i64 c.s, .int .i64 c.k, .int .i64 c.g, .int .u64 c.q, (.slice (some ⟨g, 0, none⟩) c.n cg), .int .i64 m.cnt, .int .i64 m.l.kind, .int .i64 m.l.a, .int .i64 m.l.b, .int .u64 (m.l.old : Nat), .int .u64 (m.l.new : Nat), .bool m.l.done])] w fun e w' => ∃ g' cg', e = .returned (.tuple #[R12.V (R12.go { r with dn := false, nx := 5, ok := ok2, oS := oS2, oD := true, oa := some ⟨qb, qf, none⟩, on := xs.length, oc := 0 } xs), (.agg #[.int .i64 c.t, .int .i64 c.s, .int .i64 c.k, .int .i64 c.g, .int .u64 c.q, (.slice (some ⟨g', 0, none⟩) c.n cg'), .int .i64 M.cnt, .int .i64 M.l.kind, .int .i64 M.l.a, .int .i64 M.l.b, .int .u64 (M.l.old : Nat), .int .u64 (M.l.new : Nat), .bool M.l.done])]) ∧ c.n ≤ cg' ∧ cg' ≤ maxLen ∧ Fr w g g' ∧ BlkAt w' g' (rowW M.ws c.n) ∧ Below w.heap.size w w' := by
  have hS := Sx.read1 hB
  have HJ := hide HJ
  clear hB
  have k1 : (1 : Int) ≤ ((r.on : Nat) : Int) := by omega
  have k2 : ((r.on : Nat) : Int) ≤ ((r.oc : Nat) : Int) := by omega
  have k3 : (1 : Int) ≤ ((r.oc : Nat) : Int) := by omega
  have HI := hide hI2
  have HG := hide (fun (u : World) (hI : IsRow u (.slice (some ⟨qb, qf, none⟩) xs.length (0)) xs) => rGoes12_any { r with dn := false, nx := 5, ok := ok2, oS := oS2, oD := true, oa := some ⟨qb, qf, none⟩, on := xs.length, oc := 0 } xs u hI)
  obtain ⟨G, hGe⟩ : ∃ G, G = R12.go { r with dn := false, nx := 5, ok := ok2, oS := oS2, oD := true, oa := some ⟨qb, qf, none⟩, on := xs.length, oc := 0 } xs := ⟨_, rfl⟩
  rw [← hGe] at HG ⊢
  clear hI2 hGe
  unfold R12.V at HG
  dsimp only at HG
  unfold R12.V
  dsimp only
  go_enter Tryz.func18, Tryz.ntmps18
  go_wp2_with (first | (refine ybox hS (h := ?_); clear hS; intro _ _ hS) | (refine yall hS (h := ?_); clear hS; intro _ _ hS) | refine yld hS (h := ?_) | (refine yst hS (h := ?_); clear hS; intro _ hS))
  have hSz := hS.size
  refine ((unhide HJ) _ (hS.getE 0 rfl)).mono ?_
  rintro e u ⟨g', cg', rfl, q1, q2, hFr, hG, hb⟩
  replace hS := hS.ref hb 0 rfl hFr hG
  have hFr := (Fr.refl w g).trans hFr hSz
  clear hb hG HJ hSz
  dsimp only [List.set] at hS
  go_wp2_with (first | (refine ybox hS (h := ?_); clear hS; intro _ _ hS) | (refine yall hS (h := ?_); clear hS; intro _ _ hS) | refine yld hS (h := ?_) | (refine yst hS (h := ?_); clear hS; intro _ hS))
  refine ((unhide HG) _ ((unhide HI).below hS.bel (Nat.le_refl _))).mono ?_
  rintro e u ⟨rfl, hb⟩
  replace hS := hS.call hb
  clear hb HG HI
  go_wp2_with (refine yst hS (h := ?_); clear hS; intro _ hS)
  refine wp_ret2 hS 0 5 2 3 (hQ := ?_)
  intro u hS'
  clear hS
  dsimp only [List.set] at hS' ⊢
  go_wp2
  have hZ := hS'.get 2 rfl
  have hY := hS'.get 3 rfl
  exact bodyPost_ret (v := .tuple #[R12.V G, (.agg #[.int .i64 c.t, .int .i64 c.s, .int .i64 c.k, .int .i64 c.g, .int .u64 c.q, (.slice (some ⟨g', 0, none⟩) c.n cg'), .int .i64 M.cnt, .int .i64 M.l.kind, .int .i64 M.l.a, .int .i64 M.l.b, .int .u64 (M.l.old : Nat), .int .u64 (M.l.new : Nat), .bool M.l.done])]) (results_rows Tryz.results18 rfl rfl hZ hY (row_any2 rfl) (row_any2 rfl) rfl rfl) rfl ⟨g', cg', rfl, q1, q2, hFr, hS'.getE 0 rfl, hS'.bel⟩
set_option maxHeartbeats 8000000 in
theorem rStep12_own_endb (w : World) (c : Um.Cf) (m M : Um.Mm) (g cg : Nat) (r : R12) (ok2 : Bool) (oS2 : Nat) (qb qf : Nat) (xs : List Int) (ha : r.oa = some ⟨qb, qf, none⟩) (hn : r.on = xs.length + 1) (hcap : r.on ≤ r.oc) (hoc : ¬ r.oc = 1) (hI2 : IsRow w (.slice (some ⟨qb, qf + 1, none⟩) xs.length (r.oc - 1)) xs) (hB : BlkAt w g (rowW m.ws c.n))
    (HJ : ∀ u, BlkAt u g (rowW m.ws c.n) → Calls Tryz.prog 53 #[.agg #[.int .i64 r.ol, .int .i64 r.od, .int .i64 r.ob, .bool r.ok, .int .u64 (r.oS : Nat), .bool r.oD], (.agg #[.int .i64 c.t, .int .i64 c.s, .int .i64 c.k, .int .i64 c.g, .int .u64 c.q, (.slice (some ⟨g, 0, none⟩) c.n cg), .int .i64 m.cnt, .int .i64 m.l.kind, .int .i64 m.l.a, .int .i64 m.l.b, .int .u64 (m.l.old : Nat), .int .u64 (m.l.new : Nat), .bool m.l.done])] u fun e w' => ∃ g' cg', e = .returned (.tuple #[.agg #[.int .i64 r.ol, .int .i64 r.od, .int .i64 r.ob, .bool ok2, .int .u64 (oS2 : Nat), .bool true], (.agg #[.int .i64 c.t, .int .i64 c.s, .int .i64 c.k, .int .i64 c.g, .int .u64 c.q, (.slice (some ⟨g', 0, none⟩) c.n cg'), .int .i64 M.cnt, .int .i64 M.l.kind, .int .i64 M.l.a, .int .i64 M.l.b, .int .u64 (M.l.old : Nat), .int .u64 (M.l.new : Nat), .bool M.l.done])]) ∧ c.n ≤ cg' ∧ cg' ≤ maxLen ∧ Fr u g g' ∧ BlkAt w' g' (rowW M.ws c.n) ∧ Below u.heap.size u w') :
    Calls Tryz.prog 18 #[R12.V { r with dn := false, nx := 5 }, (.agg #[.int .i64 c.t, .int .i64 c.s, .int .i64 c.k, .int .i64 c.g, .int .u64 c.q, (.slice (some ⟨g, 0, none⟩) c.n cg), .int .i64 m.cnt, .int .i64 m.l.kind, .int .i64 m.l.a, .int .i64 m.l.b, .int .u64 (m.l.old : Nat), .int .u64 (m.l.new : Nat), .bool m.l.done])] w fun e w' => ∃ g' cg', e = .returned (.tuple #[R12.V (R12.go { r with dn := false, nx := 5, ok := ok2, oS := oS2, oD := true, oa := some ⟨qb, qf + 1, none⟩, on := xs.length, oc := r.oc - 1 } xs), (.agg #[.int .i64 c.t, .int .i64 c.s, .int .i64 c.k, .int .i64 c.g, .int .u64 c.q, (.slice (some ⟨g', 0, none⟩) c.n cg'), .int .i64 M.cnt, .int .i64 M.l.kind, .int .i64 M.l.a, .int .i64 M.l.b, .int .u64 (M.l.old : Nat), .int .u64 (M.l.new : Nat), .bool M.l.done])]) ∧ c.n ≤ cg' ∧ cg' ≤ maxLen ∧ Fr w g g' ∧ BlkAt w' g' (rowW M.ws c.n) ∧ Below w.heap.size w w' := by
  have hS := Sx.read1 hB
  have HJ := hide HJ
  clear hB
  have k1 : (1 : Int) ≤ ((r.on : Nat) : Int) := by omega
  have k2 : ((r.on : Nat) : Int) ≤ ((r.oc : Nat) : Int) := by omega
  have k3 : (1 : Int) ≤ ((r.oc : Nat) : Int) := by omega
  have HI := hide hI2
  have HG := hide (fun (u : World) (hI : IsRow u (.slice (some ⟨qb, qf + 1, none⟩) xs.length (r.oc - 1)) xs) => rGoes12_any { r with dn := false, nx := 5, ok := ok2, oS := oS2, oD := true, oa := some ⟨qb, qf + 1, none⟩, on := xs.length, oc := r.oc - 1 } xs u hI)
  obtain ⟨G, hGe⟩ : ∃ G, G = R12.go { r with dn := false, nx := 5, ok := ok2, oS := oS2, oD := true, oa := some ⟨qb, qf + 1, none⟩, on := xs.length, oc := r.oc - 1 } xs := ⟨_, rfl⟩
  rw [← hGe] at HG ⊢
  clear hI2 hGe
  unfold R12.V at HG
  dsimp only at HG
  unfold R12.V
  dsimp only
  go_enter Tryz.func18, Tryz.ntmps18
  go_wp2_with (first | (refine ybox hS (h := ?_); clear hS; intro _ _ hS) | (refine yall hS (h := ?_); clear hS; intro _ _ hS) | refine yld hS (h := ?_) | (refine yst hS (h := ?_); clear hS; intro _ hS))
  have hSz := hS.size
  refine ((unhide HJ) _ (hS.getE 0 rfl)).mono ?_
  rintro e u ⟨g', cg', rfl, q1, q2, hFr, hG, hb⟩
  replace hS := hS.ref hb 0 rfl hFr hG
  have hFr := (Fr.refl w g).trans hFr hSz
  clear hb hG HJ hSz
  dsimp only [List.set] at hS
  go_wp2_with (first | (refine ybox hS (h := ?_); clear hS; intro _ _ hS) | (refine yall hS (h := ?_); clear hS; intro _ _ hS) | refine yld hS (h := ?_) | (refine yst hS (h := ?_); clear hS; intro _ hS))
  refine ((unhide HG) _ ((unhide HI).below hS.bel (Nat.le_refl _))).mono ?_
  rintro e u ⟨rfl, hb⟩
  replace hS := hS.call hb
  clear hb HG HI
  go_wp2_with (refine yst hS (h := ?_); clear hS; intro _ hS)
  refine wp_ret2 hS 0 5 2 3 (hQ := ?_)
  intro u hS'
  clear hS
  dsimp only [List.set] at hS' ⊢
  go_wp2
  have hZ := hS'.get 2 rfl
  have hY := hS'.get 3 rfl
  exact bodyPost_ret (v := .tuple #[R12.V G, (.agg #[.int .i64 c.t, .int .i64 c.s, .int .i64 c.k, .int .i64 c.g, .int .u64 c.q, (.slice (some ⟨g', 0, none⟩) c.n cg'), .int .i64 M.cnt, .int .i64 M.l.kind, .int .i64 M.l.a, .int .i64 M.l.b, .int .u64 (M.l.old : Nat), .int .u64 (M.l.new : Nat), .bool M.l.done])]) (results_rows Tryz.results18 rfl rfl hZ hY (row_any2 rfl) (row_any2 rfl) rfl rfl) rfl ⟨g', cg', rfl, q1, q2, hFr, hS'.getE 0 rfl, hS'.bel⟩
end
section
set_option maxRecDepth 100000
open Go.RowKit Go.Sort
set_option linter.unusedVariables false
set_option linter.unusedSimpArgs false
set_option maxHeartbeats 8000000 in
theorem rStep12_join (w : World) (c : Um.Cf) (m M : Um.Mm) (g cg : Nat) (r G : R12) (hB : BlkAt w g (rowW m.ws c.n))
    (HJ : ∀ u, BlkAt u g (rowW m.ws c.n) → Below w.heap.size w u → Calls Tryz.prog 52 #[R12.V { r with dn := false, nx := 4 }, (.agg #[.int .i64 c.t, .int .i64 c.s, .int .i64 c.k, .int .i64 c.g, .int .u64 c.q, (.slice (some ⟨g, 0, none⟩) c.n cg), .int .i64 m.cnt, .int .i64 m.l.kind, .int .i64 m.l.a, .int .i64 m.l.b, .int .u64 (m.l.old : Nat), .int .u64 (m.l.new : Nat), .bool m.l.done])] u fun e w' => ∃ g' cg', e = .returned (.tuple #[R12.V G, (.agg #[.int .i64 c.t, .int .i64 c.s, .int .i64 c.k, .int .i64 c.g, .int .u64 c.q, (.slice (some ⟨g', 0, none⟩) c.n cg'), .int .i64 M.cnt, .int .i64 M.l.kind, .int .i64 M.l.a, .int .i64 M.l.b, .int .u64 (M.l.old : Nat), .int .u64 (M.l.new : Nat), .bool M.l.done])]) ∧ c.n ≤ cg' ∧ cg' ≤ maxLen ∧ Fr u g g' ∧ BlkAt w' g' (rowW M.ws c.n) ∧ Below u.heap.size u w') :
    Calls Tryz.prog 18 #[R12.V { r with dn := false, nx := 4 }, (.agg #[.int .i64 c.t, .int .i64 c.s, .int .i64 c.k, .int .i64 c.g, .int .u64 c.q, (.slice (some ⟨g, 0, none⟩) c.n cg), .int .i64 m.cnt, .int .i64 m.l.kind, .int .i64 m.l.a, .int .i64 m.l.b, .int .u64 (m.l.old : Nat), .int .u64 (m.l.new : Nat), .bool m.l.done])] w fun e w' => ∃ g' cg', e = .returned (.tuple #[R12.V G, (.agg #[.int .i64 c.t, .int .i64 c.s, .int .i64 c.k, .int .i64 c.g, .int .u64 c.q, (.slice (some ⟨g', 0, none⟩) c.n cg'), .int .i64 M.cnt, .int .i64 M.l.kind, .int .i64 M.l.a, .int .i64 M.l.b, .int .u64 (M.l.old : Nat), .int .u64 (M.l.new : Nat), .bool M.l.done])]) ∧ c.n ≤ cg' ∧ cg' ≤ maxLen ∧ Fr w g g' ∧ BlkAt w' g' (rowW M.ws c.n) ∧ Below w.heap.size w w' := by
  have hS := Sx.read1 hB
  unfold R12.V at HJ ⊢
  dsimp only at HJ ⊢
  have HJ := hide HJ
  clear hB
  go_enter Tryz.func18, Tryz.ntmps18
  go_wp2_with (first | (refine ybox hS (h := ?_); clear hS; intro _ _ hS) | (refine yall hS (h := ?_); clear hS; intro _ _ hS) | refine yld hS (h := ?_) | (refine yst hS (h := ?_); clear hS; intro _ hS))
  have hSz := hS.size
  refine ((unhide HJ) _ (hS.getE 0 rfl) hS.bel).mono ?_
  rintro e u ⟨g', cg', rfl, q1, q2, hFr, hG, hb⟩
  replace hS := hS.ref hb 0 rfl hFr hG
  have hFr := (Fr.refl w g).trans hFr hSz
  clear hb hG HJ hSz
  dsimp only [List.set] at hS
  go_wp2_with (first | (refine ybox hS (h := ?_); clear hS; intro _ _ hS) | (refine yall hS (h := ?_); clear hS; intro _ _ hS) | refine yld hS (h := ?_) | (refine yst hS (h := ?_); clear hS; intro _ hS))
  have hS' := hS
  have hZ := hS'.get 2 rfl
  have hY := hS'.get 3 rfl
  exact bodyPost_ret (v := .tuple #[R12.V G, (.agg #[.int .i64 c.t, .int .i64 c.s, .int .i64 c.k, .int .i64 c.g, .int .u64 c.q, (.slice (some ⟨g', 0, none⟩) c.n cg'), .int .i64 M.cnt, .int .i64 M.l.kind, .int .i64 M.l.a, .int .i64 M.l.b, .int .u64 (M.l.old : Nat), .int .u64 (M.l.new : Nat), .bool M.l.done])]) (results_rows Tryz.results18 rfl rfl hZ hY (row_any2 rfl) (row_any2 rfl) rfl rfl) rfl ⟨g', cg', rfl, q1, q2, hFr, hS'.getE 0 rfl, hS'.bel⟩
end
section
set_option maxRecDepth 100000
open Go.RowKit Go.Sort
set_option linter.unusedVariables false
set_option linter.unusedSimpArgs false
theorem Sx.addEs {bs : List Nat} {w0 w w' : World} {l e sb : List (Nat × List Value)} (h : Sx bs w0 w l e) (b : Below w.heap.size w w') (hb : ∀ p ∈ sb, BlkAt w' p.1 p.2 ∧ w.heap.size ≤ p.1) : Sx bs w0 w' l (e ++ sb) := by
  have h' := h.call b
  refine ⟨h'.off, h'.low, h'.blk, h'.nd, fun p hp => ?_, fun p hp q hq => ?_⟩
  · rcases List.mem_append.1 hp with q | q
    · exact h'.eb p q
    · exact (hb p q).1
  · rcases List.mem_append.1 hp with q1 | q1
    · exact h'.ed p q1 q hq
    · have h3 := (h.blk q hq).lt
      have h4 := (hb p q1).2
      omega
theorem row_blk {W : World} {base : Nat} {e : TypeId} {v : Value} {xs : List Int} (h : W.ownsRow base e 1 v xs.length (xs.map (Value.int .i64))) :
    ∃ a n c, ∃ sb : List (Nat × List Value), v = .slice a n c ∧ (∀ p ∈ sb, BlkAt W p.1 p.2 ∧ base ≤ p.1) ∧ ∀ W', (∀ p ∈ sb, BlkAt W' p.1 p.2) → IsRow W' (.slice a n c) xs := by
  rcases h.2 with ⟨rfl, h0⟩ | ⟨g, cap, cur, rfl, hg, hb, h1, h2, h3, h4⟩
  · exact ⟨none, 0, 0, [], rfl, (fun p hp => by cases hp), fun W' _ => .inl ⟨rfl, List.length_eq_zero_iff.1 h0⟩⟩
  · have hB : BlkAt W g (xs.map (Value.int .i64)) := by
      have hn := blkAt_new hb
      refine ⟨hn.lt, fun j v hj => hn.cell j v ?_, hn.fz⟩
      rw [← h4] at hj
      have hl := (List.getElem?_eq_some_iff.1 hj).1
      rw [List.length_take] at hl
      exact (List.getElem?_take_of_lt (by omega)).symm.trans hj
    refine ⟨_, _, _, [(g, xs.map (Value.int .i64))], rfl, fun p hp => ?_, fun W' hW => .inr ⟨g, 0, cap, rfl, h1, h2, (hW (g, xs.map (Value.int .i64)) (by simp)).lt, fun j hj => ?_⟩⟩
    · obtain rfl : p = (g, xs.map (Value.int .i64)) := by simpa using hp
      exact ⟨hB, hg⟩
    · rw [Nat.zero_add]
      exact (hW (g, xs.map (Value.int .i64)) (by simp)).cell j _ (by simp [hj])
set_option maxHeartbeats 4000000 in
theorem rFound12_x (r : R12) (w : World) (hw : Um.Word r.w) :
    Calls Tryz.prog 50 #[r.V] w fun e w' => ∃ a n c, ∃ sb : List (Nat × List Value), e = .returned (R12.V (R12.go { r with oa := a, on := n, oc := c } (Um.othersN r.w 1 r.slot))) ∧ (∀ p ∈ sb, BlkAt w' p.1 p.2 ∧ w.heap.size ≤ p.1) ∧ (∀ W', (∀ p ∈ sb, BlkAt W' p.1 p.2) → IsRow W' (.slice a n c) (Um.othersN r.w 1 r.slot)) ∧ Below w.heap.size w w' := by
  have hS := Sx.new w
  have HG := hide (fun (a : Option Addr) (n c : Nat) (u : World) (hI : IsRow u (.slice a n c) (Um.othersN r.w 1 r.slot)) => rGoes12_any { r with oa := a, on := n, oc := c } _ u hI)
  have HO := hide (fun w => mrOthers_any r.w 1 r.slot w hw)
  obtain ⟨xs, hxs⟩ : ∃ xs, xs = (Um.othersN r.w 1 r.slot) := ⟨_, rfl⟩
  rw [← hxs] at HG HO ⊢
  clear hxs hw
  unfold R12.V at HG ⊢
  go_enter Tryz.func50, Tryz.ntmps50
  go_wp2_with (first | (refine ybox hS (h := ?_); clear hS; intro _ _ hS) | (refine yall hS (h := ?_); clear hS; intro _ _ hS) | refine yld hS (h := ?_) | (refine yst hS (h := ?_); clear hS; intro _ hS))
  have hz0 := hS.size
  refine ((unhide HO) _).mono ?_
  rintro e u ⟨v, rfl, hq, hb⟩
  obtain ⟨a, n, c, sb, rfl, hsb, hI⟩ := row_blk hq
  replace hS := hS.addEs hb hsb
  have HI := hide (And.intro hI (fun p (hp : p ∈ sb) => Nat.le_trans hz0 (hsb p hp).2))
  clear hb HO hq hI hsb hz0
  dsimp only [List.nil_append] at hS
  go_wp2_with (first | (refine ybox hS (h := ?_); clear hS; intro _ _ hS) | (refine yall hS (h := ?_); clear hS; intro _ _ hS) | refine yld hS (h := ?_) | (refine yst hS (h := ?_); clear hS; intro _ hS))
  refine ((unhide HG) a n c _ ((unhide HI).1 _ hS.eb)).mono ?_
  rintro e u ⟨rfl, hb⟩
  replace hS := hS.call hb
  clear hb HG
  go_wp2_with (first | (refine ybox hS (h := ?_); clear hS; intro _ _ hS) | (refine yall hS (h := ?_); clear hS; intro _ _ hS) | refine yld hS (h := ?_) | (refine yst hS (h := ?_); clear hS; intro _ hS))
  have hZ := hS.get 1 rfl
  exact bodyPost_ret (v := R12.V (R12.go { r with oa := a, on := n, oc := c } xs)) (results_one Tryz.results50 rfl hZ (row_any2 rfl) rfl) rfl ⟨a, n, c, sb, rfl, fun p hp => ⟨hS.eb p hp, (unhide HI).2 p hp⟩, (unhide HI).1, hS.bel⟩
set_option maxHeartbeats 8000000 in
theorem rStep12_found (w : World) (c : Um.Cf) (m M : Um.Mm) (g cg : Nat) (r : R12) (hh : Um.hasN M.l.old 0 r.slot = true) (hB : BlkAt w g (rowW m.ws c.n)) (hr : c.r = true) (hw : WordsOk c m) (h1 : c.n ≤ cg) (h2 : cg ≤ maxLen) (hM : M = Um.mtouch c m 1 8 r.key 0 0) :
    Calls Tryz.prog 18 #[R12.V { r with dn := false, nx := 2 }, (.agg #[.int .i64 c.t, .int .i64 c.s, .int .i64 c.k, .int .i64 c.g, .int .u64 c.q, (.slice (some ⟨g, 0, none⟩) c.n cg), .int .i64 m.cnt, .int .i64 m.l.kind, .int .i64 m.l.a, .int .i64 m.l.b, .int .u64 (m.l.old : Nat), .int .u64 (m.l.new : Nat), .bool m.l.done])] w fun e w' => ∃ g' cg' a n cc, ∃ sb : List (Nat × List Value), e = .returned (.tuple #[R12.V (R12.go { r with dn := false, w := M.l.old, nx := 3, oa := a, on := n, oc := cc } (Um.othersN M.l.old 1 r.slot)), (.agg #[.int .i64 c.t, .int .i64 c.s, .int .i64 c.k, .int .i64 c.g, .int .u64 c.q, (.slice (some ⟨g', 0, none⟩) c.n cg'), .int .i64 M.cnt, .int .i64 M.l.kind, .int .i64 M.l.a, .int .i64 M.l.b, .int .u64 (M.l.old : Nat), .int .u64 (M.l.new : Nat), .bool M.l.done])]) ∧ c.n ≤ cg' ∧ cg' ≤ maxLen ∧ Fr w g g' ∧ WordsOk c M ∧ BlkAt w' g' (rowW M.ws c.n) ∧ (∀ p ∈ sb, BlkAt w' p.1 p.2 ∧ w.heap.size ≤ p.1) ∧ (∀ W', (∀ p ∈ sb, BlkAt W' p.1 p.2) → IsRow W' (.slice a n cc) (Um.othersN M.l.old 1 r.slot)) ∧ Below w.heap.size w w' := by
  have hS := Sx.read1 hB
  have HOW := hide (show Um.Word M.l.old by rw [hM]; exact Um.old_word hw)
  have HH := hide hh
  have HF := hide (fun w => rFound12_x { r with dn := false, w := M.l.old, nx := 3 } w (unhide HOW))
  unfold R12.V at HF
  dsimp only at HF
  clear hh
  have HR := hide hr
  have HW := hide hw
  have HM := hide hM
  clear hB hr hw hM
  unfold R12.V
  dsimp only
  go_enter Tryz.func18, Tryz.ntmps18
  go_wp2_with (first | (refine ybox hS (h := ?_); clear hS; intro _ _ hS) | (refine yall hS (h := ?_); clear hS; intro _ _ hS) | refine yld hS (h := ?_) | (refine yst hS (h := ?_); clear hS; intro _ hS))
  have hSz := hS.size
  refine (rLoad_x hS 0 rfl (unhide HR) (unhide HW) h1 h2 8 r.key M (unhide HM)).mono ?_
  rintro r u ⟨g', cg', rfl, q1, q2, hFr, hWn, hSn⟩
  clear hS
  have hS := hSn
  clear hSn
  dsimp only [putL, List.set, List.cons_append, List.nil_append] at hS
  have HW2 := hide hWn
  clear hWn
  go_wp2_with (first | (refine ybox hS (h := ?_); clear hS; intro _ _ hS) | (refine yall hS (h := ?_); clear hS; intro _ _ hS) | refine yld hS (h := ?_) | (refine yst hS (h := ?_); clear hS; intro _ hS))
  refine (mrHas_any M.l.old 0 r.slot _ (unhide HOW)).mono ?_
  rintro r u ⟨rfl, rfl⟩
  rw [unhide HH]
  go_wp2_with (first | (refine ybox hS (h := ?_); clear hS; intro _ _ hS) | (refine yall hS (h := ?_); clear hS; intro _ _ hS) | refine yld hS (h := ?_) | (refine yst hS (h := ?_); clear hS; intro _ hS))
  have hz0 := hS.size
  refine ((unhide HF) _).mono ?_
  rintro e u ⟨a, n, cc, sb, rfl, hsb, hI, hb⟩
  replace hS := hS.addEs hb hsb
  have HI := hide (And.intro hI (fun p (hp : p ∈ sb) => Nat.le_trans hz0 (hsb p hp).2))
  clear hb HF hsb hI hz0
  dsimp only [List.cons_append, List.nil_append] at hS
  obtain ⟨G, hGe⟩ : ∃ G, G = R12.go { r with dn := false, w := M.l.old, nx := 3, oa := a, on := n, oc := cc } (Um.othersN M.l.old 1 r.slot) := ⟨_, rfl⟩
  rw [← hGe]
  have HGE := hide hGe
  clear hGe
  go_wp2_with (refine yst hS (h := ?_); clear hS; intro _ hS)
  refine wp_ret2 hS 0 4 2 3 (hQ := ?_)
  intro u hS'
  clear hS
  dsimp only [List.set] at hS' ⊢
  go_wp2
  have hZ := hS'.get 2 rfl
  have hY := hS'.get 3 rfl
  exact bodyPost_ret (v := .tuple #[R12.V G, (.agg #[.int .i64 c.t, .int .i64 c.s, .int .i64 c.k, .int .i64 c.g, .int .u64 c.q, (.slice (some ⟨g', 0, none⟩) c.n cg'), .int .i64 M.cnt, .int .i64 M.l.kind, .int .i64 M.l.a, .int .i64 M.l.b, .int .u64 (M.l.old : Nat), .int .u64 (M.l.new : Nat), .bool M.l.done])]) (results_rows Tryz.results18 rfl rfl hZ hY (row_any2 rfl) (row_any2 rfl) rfl rfl) rfl ⟨g', cg', a, n, cc, sb, by rw [unhide HGE]; rfl, q1, q2, (Fr.refl w g).trans hFr hSz, unhide HW2, hS'.getE 0 rfl, (fun p hp => ⟨hS'.eb p (List.mem_cons_of_mem _ hp), (unhide HI).2 p hp⟩), (unhide HI).1, hS'.bel⟩
end
section
set_option maxRecDepth 100000
open Go.RowKit Go.Sort
set_option linter.unusedVariables false
set_option linter.unusedSimpArgs false
theorem egWi12 (args : Array Value) (w : World) : (callFunc 26 args).run Tryz.prog w = .ok (.enter 26 args) w := by go_simp
theorem egSw12 (args : Array Value) (w : World) : (callFunc 51 args).run Tryz.prog w = .ok (.enter 51 args) w := by go_simp
theorem mrWith_x {bs : List Nat} {w0 w : World} {l e : List (Nat × List Value)} (hS : Sx bs w0 w l e) (x : Nat) (a b : Int) (hx : Um.Word x) :
    Calls Tryz.prog 26 #[.int .u64 (x : Nat), .int .i64 a, .int .i64 b] w fun r w' => r = .returned (.int .u64 (Um.withN x a b : Nat)) ∧ Sx bs w0 w' l e :=
  (mrWith_any x a b w hx).mono fun _ _ ⟨h1, h2⟩ => ⟨h1, h2 ▸ hS⟩
def Swapped12 (d : Bool) (r G : R12) (sb : List (Nat × List Value)) : Prop :=
  (d = false ∧ G = { r with dn := false, nx := 2 }) ∨ (d = true ∧ ∃ a n cc, G = R12.go { r with dn := false, nx := 2, oa := a, on := n, oc := cc } (Um.othersN r.w 1 r.slot) ∧ ∀ W', (∀ p ∈ sb, BlkAt W' p.1 p.2) → IsRow W' (.slice a n cc) (Um.othersN r.w 1 r.slot))
set_option maxHeartbeats 8000000 in
theorem rStep12_swap (w : World) (c : Um.Cf) (m M : Um.Mm) (g cg : Nat) (r : R12) (d : Bool) (hd : M.l.done = d) (hrw : Um.Word r.w) (hB : BlkAt w g (rowW m.ws c.n)) (hr : c.r = true) (hw : WordsOk c m) (h1 : c.n ≤ cg) (h2 : cg ≤ maxLen) (hM : M = Um.mtouch c m 3 8 r.key r.w (Um.withN r.w 0 r.slot)) :
    Calls Tryz.prog 18 #[R12.V { r with dn := false, nx := 3 }, (.agg #[.int .i64 c.t, .int .i64 c.s, .int .i64 c.k, .int .i64 c.g, .int .u64 c.q, (.slice (some ⟨g, 0, none⟩) c.n cg), .int .i64 m.cnt, .int .i64 m.l.kind, .int .i64 m.l.a, .int .i64 m.l.b, .int .u64 (m.l.old : Nat), .int .u64 (m.l.new : Nat), .bool m.l.done])] w fun e w' => ∃ g' cg' G, ∃ sb : List (Nat × List Value), e = .returned (.tuple #[R12.V G, (.agg #[.int .i64 c.t, .int .i64 c.s, .int .i64 c.k, .int .i64 c.g, .int .u64 c.q, (.slice (some ⟨g', 0, none⟩) c.n cg'), .int .i64 M.cnt, .int .i64 M.l.kind, .int .i64 M.l.a, .int .i64 M.l.b, .int .u64 (M.l.old : Nat), .int .u64 (M.l.new : Nat), .bool M.l.done])]) ∧ c.n ≤ cg' ∧ cg' ≤ maxLen ∧ Fr w g g' ∧ WordsOk c M ∧ BlkAt w' g' (rowW M.ws c.n) ∧ (∀ p ∈ sb, BlkAt w' p.1 p.2 ∧ w.heap.size ≤ p.1) ∧ Swapped12 d r G sb ∧ Below w.heap.size w w' := by
  have hS := Sx.read1 hB
  have HDN := hide hd
  have HOW := hide hrw
  have HF := hide (fun w => rFound12_x { r with dn := false, nx := 2 } w (unhide HOW))
  unfold R12.V at HF
  dsimp only at HF
  clear hd hrw
  have HR := hide hr
  have HW := hide hw
  have HM := hide hM
  clear hB hr hw hM
  unfold R12.V
  dsimp only
  go_enter Tryz.func18, Tryz.ntmps18
  go_wp2_with (first | (refine ybox hS (h := ?_); clear hS; intro _ _ hS) | (refine yall hS (h := ?_); clear hS; intro _ _ hS) | refine yld hS (h := ?_) | (refine yst hS (h := ?_); clear hS; intro _ hS))
  obtain ⟨OB, rfl⟩ := nameB hS 0 rfl
  obtain ⟨MB, rfl⟩ := nameB hS 1 rfl
  obtain ⟨R1, rfl⟩ := nameB hS 2 rfl
  obtain ⟨R2, rfl⟩ := nameB hS 3 rfl
  obtain ⟨L, hL⟩ : ∃ L : List Value, L = [.int .i64 r.key, .int .i64 r.slot, .int .i64 3, .int .u64 (r.n : Nat), .int .u64 (r.w : Nat), .slice r.oa r.on r.oc, .int .u64 (r.gh : Nat), .slice r.va r.vn r.vc, .bool r.gt, .int .u64 (r.gs : Nat), .int .u64 (r.gw : Nat), .int .i64 r.ge, .bool r.gn, .int .i64 r.jl, .int .i64 r.jd, .int .i64 r.jb, .int .u64 (r.jn : Nat), .int .i64 r.jx, .int .u64 (r.js : Nat), .int .i64 r.jr, .int .i64 r.ol, .int .i64 r.od, .int .i64 r.ob, .bool r.ok, .int .u64 (r.oS : Nat), .bool r.oD, .int .i64 r.ll, .int .i64 r.lt, .bool r.lk, .int .u64 (r.ls : Nat), .bool r.ld, .int .i64 r.td, .int .i64 r.e, .bool false] := ⟨_, rfl⟩
  rw [← hL] at hS
  have f0 : L[0]? = some (.int .i64 r.key) := by rw [hL]; rfl
  have f1 : L[1]? = some (.int .i64 r.slot) := by rw [hL]; rfl
  have f4 : L[4]? = some (.int .u64 (r.w : Nat)) := by rw [hL]; rfl
  have HL := hide hL
  clear hL
  obtain ⟨Z, hZ0⟩ : ∃ Z : List Value, Z = [.int .i64 0, .int .i64 0, .int .i64 0, .int .u64 0, .int .u64 0, .slice none 0 0, .int .u64 0, .slice none 0 0, .bool false, .int .u64 0, .int .u64 0, .int .i64 0, .bool false, .int .i64 0, .int .i64 0, .int .i64 0, .int .u64 0, .int .i64 0, .int .u64 0, .int .i64 0, .int .i64 0, .int .i64 0, .int .i64 0, .bool false, .int .u64 0, .bool false, .int .i64 0, .int .i64 0, .bool false, .int .u64 0, .bool false, .int .i64 0, .int .i64 0, .bool false] := ⟨_, rfl⟩
  rw [← hZ0] at hS
  have HZ := hide hZ0
  clear hZ0
  refine wp_region_ogt (fun ts D ts' w' => ∃ (g' : Nat) (cg' : Nat) (NX : Nat), ts' = putS ts [(84, cond (D 0) (.agg #[.int .i64 c.t, .int .i64 c.s, .int .i64 c.k, .int .i64 c.g, .int .u64 c.q, (.slice (some ⟨g, 0, none⟩) c.n cg), .int .i64 m.cnt, .int .i64 m.l.kind, .int .i64 m.l.a, .int .i64 m.l.b, .int .u64 (m.l.old : Nat), .int .u64 (m.l.new : Nat), .bool m.l.done]) undef), (85, cond (D 1) (.pointer (some ⟨OB, 0, none⟩)) undef), (86, cond (D 2) (.int .i64 r.key) undef), (87, cond (D 3) (.pointer (some ⟨OB, 4, none⟩)) undef), (88, cond (D 4) (.int .u64 (r.w : Nat)) undef), (89, cond (D 5) (.pointer (some ⟨OB, 4, none⟩)) undef), (90, cond (D 6) (.int .u64 (r.w : Nat)) undef), (91, cond (D 7) (.pointer (some ⟨OB, 1, none⟩)) undef), (92, cond (D 8) (.int .i64 r.slot) undef), (93, cond (D 9) (.int .u64 (Um.withN r.w 0 r.slot : Nat)) undef), (94, cond (D 10) (.tuple #[.agg #[.int .i64 c.t, .int .i64 c.s, .int .i64 c.k, .int .i64 c.g, .int .u64 c.q, (.slice (some ⟨g', 0, none⟩) c.n cg'), .int .i64 M.cnt, .int .i64 M.l.kind, .int .i64 M.l.a, .int .i64 M.l.b, .int .u64 (M.l.old : Nat), .int .u64 (M.l.new : Nat), .bool M.l.done], .bool M.l.done]) undef), (83, cond (D 11) (.tuple #[.agg #[.int .i64 c.t, .int .i64 c.s, .int .i64 c.k, .int .i64 c.g, .int .u64 c.q, (.slice (some ⟨g', 0, none⟩) c.n cg'), .int .i64 M.cnt, .int .i64 M.l.kind, .int .i64 M.l.a, .int .i64 M.l.b, .int .u64 (M.l.old : Nat), .int .u64 (M.l.new : Nat), .bool M.l.done], .bool M.l.done]) undef), (95, cond (D 12) (.agg #[.int .i64 c.t, .int .i64 c.s, .int .i64 c.k, .int .i64 c.g, .int .u64 c.q, (.slice (some ⟨g', 0, none⟩) c.n cg'), .int .i64 M.cnt, .int .i64 M.l.kind, .int .i64 M.l.a, .int .i64 M.l.b, .int .u64 (M.l.old : Nat), .int .u64 (M.l.new : Nat), .bool M.l.done]) undef), (96, cond (D 13) (.bool M.l.done) undef), (12, cond (D 14) (.pointer (some ⟨NX, 0, none⟩)) undef), (13, cond (D 16) (.bool M.l.done) undef)] ∧ (D 10 = true → c.n ≤ cg' ∧ cg' ≤ maxLen ∧ Fr w g g' ∧ WordsOk c M) ∧ (D 11 = true → D 10 = true) ∧ (D 12 = true → D 10 = true) ∧ (D 15 = true → D 10 = true) ∧ (D 15 = true → D 14 = true) ∧ Sx [] w w' ([(OB, L), (MB, [.int .i64 c.t, .int .i64 c.s, .int .i64 c.k, .int .i64 c.g, .int .u64 c.q, (.slice (some ⟨g, 0, none⟩) c.n cg), .int .i64 m.cnt, .int .i64 m.l.kind, .int .i64 m.l.a, .int .i64 m.l.b, .int .u64 (m.l.old : Nat), .int .u64 (m.l.new : Nat), .bool m.l.done]), (R1, Z), (R2, [.int .i64 0, .int .i64 0, .int .i64 0, .int .i64 0, .int .u64 0, .slice none 0 0, .int .i64 0, .int .i64 0, .int .i64 0, .int .i64 0, .int .u64 0, .int .u64 0, .bool false])] ++ cond (D 14) [(NX, cond (D 15) [.int .i64 c.t, .int .i64 c.s, .int .i64 c.k, .int .i64 c.g, .int .u64 c.q, (.slice (some ⟨g', 0, none⟩) c.n cg'), .int .i64 M.cnt, .int .i64 M.l.kind, .int .i64 M.l.a, .int .i64 M.l.b, .int .u64 (M.l.old : Nat), .int .u64 (M.l.new : Nat), .bool M.l.done] [.int .i64 0, .int .i64 0, .int .i64 0, .int .i64 0, .int .u64 0, .slice none 0 0, .int .i64 0, .int .i64 0, .int .i64 0, .int .i64 0, .int .u64 0, .int .u64 0, .bool false])] []) [cond (D 10) (g', rowW M.ws c.n) (g, rowW m.ws c.n)]) (by kernel_rfl) (by kernel_rfl) ?start ?steps ?ends
  case start => exact ⟨0, 0, 0, rfl, (fun h => by cases h), (fun h => by cases h), (fun h => by cases h), (fun h => by cases h), (fun h => by cases h), hS.drew⟩
  case steps =>
    intro i o hi D ts' w' hD hpre hI
    obtain ⟨g', cg', NX, rfl, hc, hm, hx, hz, hA, hS⟩ := hI
    dsimp only [putS, List.set]
    match i, hi with
    | 0, hi =>
      cases hi
      refine wpOp_step rfl (fun K hK => ?_)
      refine stp_val rfl (by refine yif_load (S := fun q => q = w') rfl _ _ rfl _ _ rfl _ (fun _ h => h ▸ hS.get 1 rfl) _ (row_any2 rfl) (by exact rfl) _ (by dsimp only [cutL, List.drop, List.take]; first | done | exact rfl)) rfl ?_
      exact hK _ _ ⟨_, rfl, g', cg', NX, rfl, hc, hm, hx, hz, hA, hS⟩
    | 1, hi =>
      cases hi
      refine wpOp_step rfl (fun K hK => ?_)
      refine stp_val rfl (yif_by rfl _ (fun w => by go_simp; first | done | exact rfl)) rfl ?_
      exact hK _ _ ⟨_, rfl, g', cg', NX, rfl, hc, hm, hx, hz, hA, hS⟩
    | 2, hi =>
      cases hi
      have d1 : D 1 = true := og_pre hpre (by kernel_rfl)
      refine wpOp_step rfl (fun K hK => ?_)
      refine stp_val rfl (by refine yif_load1 (S := fun q => q = w') rfl _ (.tmp 85) rfl OB 0 ?_ _ (fun _ h => h ▸ hS.get 0 rfl) (one_any2 rfl) _ f0; exact cond_at d1 rfl) rfl ?_
      exact hK _ _ ⟨_, rfl, g', cg', NX, rfl, hc, hm, hx, hz, hA, hS⟩
    | 3, hi =>
      cases hi
      refine wpOp_step rfl (fun K hK => ?_)
      refine stp_val rfl (yif_by rfl _ (fun w => by go_simp; first | done | exact rfl)) rfl ?_
      exact hK _ _ ⟨_, rfl, g', cg', NX, rfl, hc, hm, hx, hz, hA, hS⟩
    | 4, hi =>
      cases hi
      have d3 : D 3 = true := og_pre hpre (by kernel_rfl)
      refine wpOp_step rfl (fun K hK => ?_)
      refine stp_val rfl (by refine yif_load1 (S := fun q => q = w') rfl _ (.tmp 87) rfl OB 4 ?_ _ (fun _ h => h ▸ hS.get 0 rfl) (one_any2 rfl) _ f4; exact cond_at d3 rfl) rfl ?_
      exact hK _ _ ⟨_, rfl, g', cg', NX, rfl, hc, hm, hx, hz, hA, hS⟩
    | 5, hi =>
      cases hi
      refine wpOp_step rfl (fun K hK => ?_)
      refine stp_val rfl (yif_by rfl _ (fun w => by go_simp; first | done | exact rfl)) rfl ?_
      exact hK _ _ ⟨_, rfl, g', cg', NX, rfl, hc, hm, hx, hz, hA, hS⟩
    | 6, hi =>
      cases hi
      have d5 : D 5 = true := og_pre hpre (by kernel_rfl)
      refine wpOp_step rfl (fun K hK => ?_)
      refine stp_val rfl (by refine yif_load1 (S := fun q => q = w') rfl _ (.tmp 89) rfl OB 4 ?_ _ (fun _ h => h ▸ hS.get 0 rfl) (one_any2 rfl) _ f4; exact cond_at d5 rfl) rfl ?_
      exact hK _ _ ⟨_, rfl, g', cg', NX, rfl, hc, hm, hx, hz, hA, hS⟩
    | 7, hi =>
      cases hi
      refine wpOp_step rfl (fun K hK => ?_)
      refine stp_val rfl (yif_by rfl _ (fun w => by go_simp; first | done | exact rfl)) rfl ?_
      exact hK _ _ ⟨_, rfl, g', cg', NX, rfl, hc, hm, hx, hz, hA, hS⟩
    | 8, hi =>
      cases hi
      have d7 : D 7 = true := og_pre hpre (by kernel_rfl)
      refine wpOp_step rfl (fun K hK => ?_)
      refine stp_val rfl (by refine yif_load1 (S := fun q => q = w') rfl _ (.tmp 91) rfl OB 1 ?_ _ (fun _ h => h ▸ hS.get 0 rfl) (one_any2 rfl) _ f1; exact cond_at d7 rfl) rfl ?_
      exact hK _ _ ⟨_, rfl, g', cg', NX, rfl, hc, hm, hx, hz, hA, hS⟩
    | 9, hi =>
      cases hi
      have d6 : D 6 = true := og_pre hpre (by kernel_rfl)
      have d8 : D 8 = true := og_pre hpre (by kernel_rfl)
      refine wpOp_step rfl (fun K hK => ?_)
      refine stp_call rfl _ _ _ rfl egWi12 _ (lst3_eq (cond_at d6 rfl) rfl (cond_at d8 rfl)) _ rfl ?_
      refine (mrWith_x hS r.w 0 r.slot (unhide HOW)).mono ?_
      rintro e9 u ⟨rfl, hb⟩
      exact ⟨_, rfl, hK _ _ ⟨_, rfl, g', cg', NX, rfl, hc, hm, hx, hz, hA, hb⟩⟩
    | 10, hi =>
      cases hi
      have d0 : D 0 = true := og_pre hpre (by kernel_rfl)
      have d2 : D 2 = true := og_pre hpre (by kernel_rfl)
      have d4 : D 4 = true := og_pre hpre (by kernel_rfl)
      have d9 : D 9 = true := og_pre hpre (by kernel_rfl)
      refine wpOp_step rfl (fun K hK => ?_)
      refine stp_call rfl _ _ _ rfl egSw12 _ (lst5_eq (cond_at d0 rfl) rfl (cond_at d2 rfl) (cond_at d4 rfl) (cond_at d9 rfl)) _ rfl ?_
      have m0 := og_not hm hD
      have x0 := og_not hx hD
      have z0 := og_not hz hD
      rw [hD, cond_false] at hS
      have hSz := hS.size
      refine (rSwap_x hS 0 rfl (unhide HR) (unhide HW) h1 h2 8 r.key r.w (Um.withN r.w 0 r.slot) (Um.with_word (unhide HOW) _ _) M (unhide HM)).mono ?_
      rintro e9 u ⟨gn, cgn, rfl, q1, q2, hFr, hW2, hSn⟩
      rw [z0] at hSn
      refine ⟨_, rfl, hK _ _ ⟨_, (by simp only [m0, x0]; rfl), gn, cgn, NX, rfl, (fun _ => ⟨q1, q2, (Fr.refl w g).trans hFr hSz, hW2⟩), (fun _ => rfl), (fun _ => rfl), (fun _ => rfl), hA, ?_⟩⟩
      show Sx _ _ _ (_ ++ cond (D 14) [(_, cond (D 15) _ _)] _) _
      rw [z0]
      exact hSn
    | 11, hi =>
      cases hi
      have d10 : D 10 = true := og_pre hpre (by kernel_rfl)
      refine wpOp_step rfl (fun K hK => ?_)
      refine stp_val rfl (by exact yif_mv rfl (.tmp 94) rfl _ (cond_at d10 rfl)) rfl ?_
      exact hK _ _ ⟨_, rfl, g', cg', NX, rfl, hc, (fun _ => d10), hx, hz, hA, hS⟩
    | 12, hi =>
      cases hi
      have d11 : D 11 = true := og_pre hpre (by kernel_rfl)
      refine wpOp_step rfl (fun K hK => ?_)
      refine stp_val rfl (by refine yif_extract rfl (.tmp 83) 0 rfl [.agg #[.int .i64 c.t, .int .i64 c.s, .int .i64 c.k, .int .i64 c.g, .int .u64 c.q, (.slice (some ⟨g', 0, none⟩) c.n cg'), .int .i64 M.cnt, .int .i64 M.l.kind, .int .i64 M.l.a, .int .i64 M.l.b, .int .u64 (M.l.old : Nat), .int .u64 (M.l.new : Nat), .bool M.l.done], .bool M.l.done] ?_ _ rfl; exact cond_at d11 rfl) rfl ?_
      exact hK _ _ ⟨_, rfl, g', cg', NX, rfl, hc, hm, (fun _ => hm d11), hz, hA, hS⟩
    | 13, hi =>
      cases hi
      have d11 : D 11 = true := og_pre hpre (by kernel_rfl)
      refine wpOp_step rfl (fun K hK => ?_)
      refine stp_val rfl (by refine yif_extract rfl (.tmp 83) 1 rfl [.agg #[.int .i64 c.t, .int .i64 c.s, .int .i64 c.k, .int .i64 c.g, .int .u64 c.q, (.slice (some ⟨g', 0, none⟩) c.n cg'), .int .i64 M.cnt, .int .i64 M.l.kind, .int .i64 M.l.a, .int .i64 M.l.b, .int .u64 (M.l.old : Nat), .int .u64 (M.l.new : Nat), .bool M.l.done], .bool M.l.done] ?_ _ rfl; exact cond_at d11 rfl) rfl ?_
      exact hK _ _ ⟨_, rfl, g', cg', NX, rfl, hc, hm, hx, hz, hA, hS⟩
    | 14, hi =>
      cases hi
      refine wpOp_step rfl (fun K hK => ?_)
      have e0 := og_not hA hD
      refine stx_alloc hS rfl _ rfl _ (zer_any2 rfl) _ rfl _ rfl _ (fun _ => rfl) ?_
      intro bn u hS'
      rw [hD, cond_false, List.append_nil] at hS'
      refine hK _ _ ⟨_, rfl, g', cg', bn, rfl, hc, hm, hx, hz, (fun _ => rfl), ?_⟩
      show Sx _ _ _ (_ ++ [(bn, cond (D 15) _ _)]) _
      rw [e0]
      exact hS'
    | 15, hi =>
      cases hi
      have d12 : D 12 = true := og_pre hpre (by kernel_rfl)
      have d14 : D 14 = true := og_pre hpre (by kernel_rfl)
      refine wpOp_step rfl (fun K hK => ?_)
      rw [d14, hD, cond_true, cond_false] at hS
      refine stx_store hS 4 rfl _ _ _ rfl _ _ (cond_at d14 rfl) _ rfl _ (cond_at d12 rfl) _ rfl _ (siz_any2 rfl) (by exact rfl) (by exact rfl) (by exact rfl) rfl ?_
      intro u hS'
      refine hK _ _ ⟨_, rfl, g', cg', NX, rfl, hc, hm, hx, (fun _ => hx d12), (fun _ => d14), ?_⟩
      show Sx _ _ _ (_ ++ cond (D 14) _ _) _
      rw [d14]
      exact hS'
    | 16, hi =>
      cases hi
      have d13 : D 13 = true := og_pre hpre (by kernel_rfl)
      refine wpOp_step rfl (fun K hK => ?_)
      refine stp_val rfl (yif_by rfl _ (fun w => by simp only [d13, cond_true]; go_simp; first | done | exact rfl)) rfl ?_
      exact hK _ _ ⟨_, rfl, g', cg', NX, rfl, hc, hm, hx, hz, hA, hS⟩
    | i + 17, hi => simp at hi
  case ends =>
    intro D ts' w' hall hI
    obtain ⟨g', cg', NX, rfl, hc, hm, hx, hz, hA, hS⟩ := hI
    have d0 : D 0 = true := hall 0 (by decide)
    have d1 : D 1 = true := hall 1 (by decide)
    have d2 : D 2 = true := hall 2 (by decide)
    have d3 : D 3 = true := hall 3 (by decide)
    have d4 : D 4 = true := hall 4 (by decide)
    have d5 : D 5 = true := hall 5 (by decide)
    have d6 : D 6 = true := hall 6 (by decide)
    have d7 : D 7 = true := hall 7 (by decide)
    have d8 : D 8 = true := hall 8 (by decide)
    have d9 : D 9 = true := hall 9 (by decide)
    have d10 : D 10 = true := hall 10 (by decide)
    have d11 : D 11 = true := hall 11 (by decide)
    have d12 : D 12 = true := hall 12 (by decide)
    have d13 : D 13 = true := hall 13 (by decide)
    have d14 : D 14 = true := hall 14 (by decide)
    have d15 : D 15 = true := hall 15 (by decide)
    have d16 : D 16 = true := hall 16 (by decide)
    simp only [d10, d14, d15, cond_true] at hS
    dsimp only [putS, List.set]
    simp only [d0, d1, d2, d3, d4, d5, d6, d7, d8, d9, d10, d11, d12, d13, d14, d16, cond_true]
    obtain ⟨q1, q2, hFr, hW2⟩ := hc d10
    have HW2 := hide hW2
    clear hall hc hm hx hz hA hW2 d0 d1 d2 d3 d4 d5 d6 d7 d8 d9 d10 d11 d12 d13 d14 d15 d16
    dsimp only [List.cons_append, List.nil_append] at hS
    rw [unhide HL, unhide HZ] at hS
    clear HL HZ f0 f1 f4
    simp only [unhide HDN]
    clear HDN
    cases d with
    | false =>
      go_wp2_with (refine yst hS (h := ?_); clear hS; intro _ hS)
      refine wp_ret2 hS 0 4 2 3 (hQ := ?_)
      intro u hS'
      clear hS
      dsimp only [List.set] at hS' ⊢
      go_wp2
      have hZ := hS'.get 2 rfl
      have hY := hS'.get 3 rfl
      exact bodyPost_ret (v := .tuple #[R12.V { r with dn := false, nx := 2 }, (.agg #[.int .i64 c.t, .int .i64 c.s, .int .i64 c.k, .int .i64 c.g, .int .u64 c.q, (.slice (some ⟨g', 0, none⟩) c.n cg'), .int .i64 M.cnt, .int .i64 M.l.kind, .int .i64 M.l.a, .int .i64 M.l.b, .int .u64 (M.l.old : Nat), .int .u64 (M.l.new : Nat), .bool M.l.done])]) (results_rows Tryz.results18 rfl rfl hZ hY (row_any2 rfl) (row_any2 rfl) rfl rfl) rfl ⟨g', cg', { r with dn := false, nx := 2 }, [], rfl, q1, q2, hFr, unhide HW2, hS'.getE 0 rfl, (fun p hp => by cases hp), .inl ⟨rfl, rfl⟩, hS'.bel⟩
    | true =>
      go_wp2_with (first | (refine ybox hS (h := ?_); clear hS; intro _ _ hS) | (refine yall hS (h := ?_); clear hS; intro _ _ hS) | refine yld hS (h := ?_) | (refine yst hS (h := ?_); clear hS; intro _ hS))
      have hz0 := hS.size
      refine ((unhide HF) _).mono ?_
      rintro e u ⟨a, n, cc, sb, rfl, hsb, hI, hb⟩
      replace hS := hS.addEs hb hsb
      have HI := hide (And.intro hI (fun p (hp : p ∈ sb) => Nat.le_trans hz0 (hsb p hp).2))
      clear hb HF hsb hI hz0
      dsimp only [List.cons_append, List.nil_append] at hS
      obtain ⟨G, hGe⟩ : ∃ G, G = R12.go { r with dn := false, nx := 2, oa := a, on := n, oc := cc } (Um.othersN r.w 1 r.slot) := ⟨_, rfl⟩
      rw [← hGe]
      have HGE := hide hGe
      clear hGe
      go_wp2_with (refine yst hS (h := ?_); clear hS; intro _ hS)
      refine wp_ret2 hS 0 4 2 3 (hQ := ?_)
      intro u hS'
      clear hS
      dsimp only [List.set] at hS' ⊢
      go_wp2
      have hZ := hS'.get 2 rfl
      have hY := hS'.get 3 rfl
      exact bodyPost_ret (v := .tuple #[R12.V G, (.agg #[.int .i64 c.t, .int .i64 c.s, .int .i64 c.k, .int .i64 c.g, .int .u64 c.q, (.slice (some ⟨g', 0, none⟩) c.n cg'), .int .i64 M.cnt, .int .i64 M.l.kind, .int .i64 M.l.a, .int .i64 M.l.b, .int .u64 (M.l.old : Nat), .int .u64 (M.l.new : Nat), .bool M.l.done])]) (results_rows Tryz.results18 rfl rfl hZ hY (row_any2 rfl) (row_any2 rfl) rfl rfl) rfl ⟨g', cg', G, sb, rfl, q1, q2, hFr, unhide HW2, hS'.getE 0 rfl, (fun p hp => ⟨hS'.eb p (List.mem_cons_of_mem _ hp), (unhide HI).2 p hp⟩), .inr ⟨rfl, a, n, cc, unhide HGE, (unhide HI).1⟩, hS'.bel⟩
end
end Go.Proofs.YtapgghciieloaaaGreat
