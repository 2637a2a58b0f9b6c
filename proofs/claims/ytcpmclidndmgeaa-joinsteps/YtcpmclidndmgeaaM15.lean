/-
  Texts that the laws stand on, merged (JoinRA, OpenCfg, OpenWords, OpenPlay, OpenJ, PinP).
-/
import Derived.Test.YtcpmclidndmgeaaM1
import Derived.Test.YtcpmclidndmgeaaM10
import Derived.Test.YtcpmclidndmgeaaM12
import Derived.Test.YtcpmclidndmgeaaM13
import Derived.Test.YtcpmclidndmgeaaM14
import Derived.Test.YtcpmclidndmgeaaM2
import Derived.Test.YtcpmclidndmgeaaM4
import Derived.Test.YtcpmclidndmgeaaM9
import Derived.Deep.Slices
import Derived.LoopTactic
import Derived.OpenShut
import Derived.ProofKit
import Derived.ShutString
import Derived.SizedLaws
import Derived.WalkKit

/-
  The document's join, and one's own end: a step, of whatever step.
-/
namespace Go.Proofs.Ytcpmclidndmgeaa
set_option maxRecDepth 100000
open Go.RowKit Go.Sort

/-- the document's join, as a value -/
def joinV (sl sd b : Int) (sn : Nat) (o : Um.Js) : Value := .agg #[.int .i64 sl, .int .i64 sd, .int .i64 b, .int .u64 (sn : Nat), .int .i64 ((o.nx : Nat) : Int), .int .u64 (o.s : Nat), .int .i64 ((o.r : Nat) : Int)]

/-- the document's own end, as a value -/
def ownV (sl sd b : Int) (o : Um.Ls) : Value := .agg #[.int .i64 sl, .int .i64 sd, .int .i64 b, .bool o.lk, .int .u64 (o.s : Nat), .bool o.dn]

theorem jg_jjd (sd b : Int) (M : Um.Mm) (nx s : Nat) : Jg sd b s ((nx : Nat) : Int) (((Um.jjd sd b M nx s).nx : Nat) : Int) (((Um.jjd sd b M nx s).r : Nat) : Int) := by
  unfold Jg Um.jjd
  refine ⟨fun h => ?_, fun h h2 h3 => ?_, fun h h2 => ?_⟩
  · rw [if_pos h]; exact ⟨rfl, rfl⟩
  · rw [if_neg (by rw [h]; decide), if_pos ⟨h2, h3⟩]; exact ⟨rfl, rfl⟩
  · have hno : ¬ (Um.stN s ≠ 2 ∧ Um.anyN s (1 - sd) = true) := by
      rintro ⟨q1, q2⟩
      rcases h2 with h2 | h2
      · exact q1 h2
      · rw [h2] at q2; cases q2
    rw [if_neg (by rw [h]; decide), if_neg hno]; exact ⟨rfl, rfl⟩

set_option maxHeartbeats 1000000 in
theorem rStep11_any (w : World) (c : Um.Cf) (sl sd b : Int) (sn : Nat) (o O2 : Um.Js) (hO : O2 = Um.jstep c sl sd b sn o) (g cg : Nat) (ho : Um.Jok c o) (hd0 : -1 ≤ sd) (hd1 : sd ≤ 2) (hB : BlkAt w g (rowW o.m.ws c.n)) (hr : c.r = true) (h1 : c.n ≤ cg) (h2 : cg ≤ maxLen) :
    Calls Try.prog 14 #[joinV sl sd b sn o, (.agg #[.int .i64 c.t, .int .i64 c.s, .int .i64 c.k, .int .i64 c.g, .int .u64 c.q, (.slice (some ⟨g, 0, none⟩) c.n cg), .int .i64 o.m.cnt, .int .i64 o.m.l.kind, .int .i64 o.m.l.a, .int .i64 o.m.l.b, .int .u64 (o.m.l.old : Nat), .int .u64 (o.m.l.new : Nat), .bool o.m.l.done])] w fun r w' => ∃ g' cg', r = .returned (.tuple #[joinV sl sd b sn O2, (.agg #[.int .i64 c.t, .int .i64 c.s, .int .i64 c.k, .int .i64 c.g, .int .u64 c.q, (.slice (some ⟨g', 0, none⟩) c.n cg'), .int .i64 O2.m.cnt, .int .i64 O2.m.l.kind, .int .i64 O2.m.l.a, .int .i64 O2.m.l.b, .int .u64 (O2.m.l.old : Nat), .int .u64 (O2.m.l.new : Nat), .bool O2.m.l.done])]) ∧ c.n ≤ cg' ∧ cg' ≤ maxLen ∧ Fr w g g' ∧ BlkAt w' g' (rowW O2.m.ws c.n) ∧ Below w.heap.size w w' := by
  obtain ⟨m, nx, s, r⟩ := o
  obtain ⟨i1, i2, i3, i4⟩ := ho
  dsimp only at *
  by_cases hz : r = 0
  · subst hz
    rcases (by omega : nx = 0 ∨ nx = 1 ∨ nx = 2) with rfl | rfl | rfl
    · obtain ⟨M, hM⟩ : ∃ M, M = Um.mtouch c m 1 4 sl 0 0 := ⟨_, rfl⟩
      have eO : O2 = (if Um.stN M.l.old = 4 then ⟨M, 1, M.l.old, 0⟩ else if Um.stN M.l.old = 2 ∨ Um.stN M.l.old = 3 then Um.jjd sd b M 0 M.l.old else ⟨M, 0, M.l.old, 1⟩) := by rw [hO, hM]; rfl
      by_cases g4 : Um.stN M.l.old = 4
      · rw [if_pos g4] at eO
        subst eO
        refine (rStep11_look4 w c m M g cg sl sd b sn s g4 hB hr i1 h1 h2 hM).mono ?_
        rintro r w' ⟨g', cg', e1, q1, q2, hFr, _, hG, hb⟩
        exact ⟨g', cg', e1, q1, q2, hFr, hG, hb⟩
      rw [if_neg g4] at eO
      by_cases g23 : Um.stN M.l.old = 2 ∨ Um.stN M.l.old = 3
      · rw [if_pos g23] at eO
        have hj := jg_jjd sd b M 0 M.l.old
        have hm := (Um.jjd_r sd b M 0 M.l.old).2.1
        have hs := (Um.jjd_r sd b M 0 M.l.old).2.2.1
        rw [← eO] at hj hm hs
        have hV : joinV sl sd b sn O2 = .agg #[.int .i64 sl, .int .i64 sd, .int .i64 b, .int .u64 (sn : Nat), .int .i64 ((O2.nx : Nat) : Int), .int .u64 (M.l.old : Nat), .int .i64 ((O2.r : Nat) : Int)] := by unfold joinV; rw [hs]
        rw [hV, hm]
        rcases g23 with g2 | g3
        · refine (rStep11_look2 w c m M g cg sl sd b sn s _ _ hd0 hd1 hj g2 hB hr i1 h1 h2 hM).mono ?_
          rintro r w' ⟨g', cg', e1, q1, q2, hFr, _, hG, hb⟩
          exact ⟨g', cg', e1, q1, q2, hFr, hG, hb⟩
        · refine (rStep11_look3 w c m M g cg sl sd b sn s _ _ hd0 hd1 hj g3 hB hr i1 h1 h2 hM).mono ?_
          rintro r w' ⟨g', cg', e1, q1, q2, hFr, _, hG, hb⟩
          exact ⟨g', cg', e1, q1, q2, hFr, hG, hb⟩
      · rw [if_neg g23] at eO
        subst eO
        refine (rStep11_lookn w c m M g cg sl sd b sn s (fun q => g23 (.inl q)) (fun q => g23 (.inr q)) g4 hB hr i1 h1 h2 hM).mono ?_
        rintro r w' ⟨g', cg', e1, q1, q2, hFr, _, hG, hb⟩
        exact ⟨g', cg', e1, q1, q2, hFr, hG, hb⟩
    · obtain ⟨M, hM⟩ : ∃ M, M = Um.mtouch c m 1 6 sl 0 0 := ⟨_, rfl⟩
      have eO : O2 = (if Um.past M.l.old sn = true then ⟨M, 1, s, 1⟩ else Um.jjd sd b M 1 s) := by rw [hO, hM]; rfl
      cases hp : Um.past M.l.old sn with
      | true =>
        rw [if_pos hp] at eO
        subst eO
        refine (rStep11_past w c m M g cg sl sd b sn s hp hB hr i1 h1 h2 hM).mono ?_
        rintro r w' ⟨g', cg', e1, q1, q2, hFr, _, hG, hb⟩
        exact ⟨g', cg', e1, q1, q2, hFr, hG, hb⟩
      | false =>
        rw [if_neg (by rw [hp]; decide)] at eO
        have hj := jg_jjd sd b M 1 s
        have hm := (Um.jjd_r sd b M 1 s).2.1
        have hs := (Um.jjd_r sd b M 1 s).2.2.1
        rw [← eO] at hj hm hs
        have hV : joinV sl sd b sn O2 = .agg #[.int .i64 sl, .int .i64 sd, .int .i64 b, .int .u64 (sn : Nat), .int .i64 ((O2.nx : Nat) : Int), .int .u64 (s : Nat), .int .i64 ((O2.r : Nat) : Int)] := by unfold joinV; rw [hs]
        rw [hV, hm]
        refine (rStep11_judge w c m M g cg sl sd b sn s _ _ hd0 hd1 i2 hj hp hB hr i1 h1 h2 hM).mono ?_
        rintro r w' ⟨g', cg', e1, q1, q2, hFr, _, hG, hb⟩
        exact ⟨g', cg', e1, q1, q2, hFr, hG, hb⟩
    · obtain ⟨M, hM⟩ : ∃ M, M = Um.mtouch c m 3 4 sl s (Um.withN s sd b) := ⟨_, rfl⟩
      have eO : O2 = ⟨M, 0, s, if M.l.done then 2 else 0⟩ := by rw [hO, hM]; rfl
      obtain ⟨rr, hrr⟩ : ∃ rr : Nat, rr = (if M.l.done then 2 else 0) := ⟨_, rfl⟩
      rw [← hrr] at eO
      subst eO
      refine (rStep11_lay w c m M g cg sl sd b sn s ((rr : Nat) : Int) ⟨fun q => by rw [hrr, q]; rfl, fun q => by rw [hrr, q]; rfl⟩ i2 hB hr i1 h1 h2 hM).mono ?_
      rintro r w' ⟨g', cg', e1, q1, q2, hFr, _, hG, hb⟩
      exact ⟨g', cg', e1, q1, q2, hFr, hG, hb⟩
  · have eO : O2 = ⟨m, nx, s, r⟩ := by rw [hO]; exact Um.jstep_end hz
    subst eO
    refine (rStep11_done w c m g cg sl sd b sn s _ ((r : Nat) : Int) (by omega) hB hr i1 h1 h2).mono ?_
    rintro r w' ⟨g', cg', e1, q1, q2, hFr, _, hG, hb⟩
    exact ⟨g', cg', e1, q1, q2, hFr, hG, hb⟩

theorem rGo11_any (w : World) (c : Um.Cf) (sl sd b : Int) (o O2 : Um.Ls) (hO : O2 = Um.wstep c sl sd b o) (g cg : Nat) (ho : Um.Lok c o) (hB : BlkAt w g (rowW o.m.ws c.n)) (hr : c.r = true) (h1 : c.n ≤ cg) (h2 : cg ≤ maxLen) :
    Calls Try.prog 19 #[ownV sl sd b o, (.agg #[.int .i64 c.t, .int .i64 c.s, .int .i64 c.k, .int .i64 c.g, .int .u64 c.q, (.slice (some ⟨g, 0, none⟩) c.n cg), .int .i64 o.m.cnt, .int .i64 o.m.l.kind, .int .i64 o.m.l.a, .int .i64 o.m.l.b, .int .u64 (o.m.l.old : Nat), .int .u64 (o.m.l.new : Nat), .bool o.m.l.done])] w fun r w' => ∃ g' cg', r = .returned (.tuple #[ownV sl sd b O2, (.agg #[.int .i64 c.t, .int .i64 c.s, .int .i64 c.k, .int .i64 c.g, .int .u64 c.q, (.slice (some ⟨g', 0, none⟩) c.n cg'), .int .i64 O2.m.cnt, .int .i64 O2.m.l.kind, .int .i64 O2.m.l.a, .int .i64 O2.m.l.b, .int .u64 (O2.m.l.old : Nat), .int .u64 (O2.m.l.new : Nat), .bool O2.m.l.done])]) ∧ c.n ≤ cg' ∧ cg' ≤ maxLen ∧ Fr w g g' ∧ BlkAt w' g' (rowW O2.m.ws c.n) ∧ Below w.heap.size w w' := by
  obtain ⟨m, lk, s, dn⟩ := o
  obtain ⟨i1, i2⟩ := ho
  dsimp only at *
  cases dn with
  | true =>
    have eO : O2 = ⟨m, lk, s, true⟩ := by rw [hO]; exact Um.wstep_done rfl
    subst eO
    refine (rOwn11_done w c m g cg sl sd b s lk hB hr i1 h1 h2).mono ?_
    rintro r w' ⟨g', cg', e1, q1, q2, hFr, _, hG, hb⟩
    exact ⟨g', cg', e1, q1, q2, hFr, hG, hb⟩
  | false =>
    cases lk with
    | false =>
      obtain ⟨M, hM⟩ : ∃ M, M = Um.mtouch c m 1 4 sl 0 0 := ⟨_, rfl⟩
      have eO : O2 = ⟨M, true, M.l.old, decide (Um.withN M.l.old sd b = M.l.old)⟩ := by rw [hO, hM]; rfl
      by_cases he : Um.withN M.l.old sd b = M.l.old
      · rw [decide_eq_true he] at eO
        subst eO
        refine (rOwn11_look_t w c m M g cg sl sd b s he hB hr i1 h1 h2 hM).mono ?_
        rintro r w' ⟨g', cg', e1, q1, q2, hFr, _, hG, hb⟩
        exact ⟨g', cg', e1, q1, q2, hFr, hG, hb⟩
      · rw [decide_eq_false he] at eO
        subst eO
        refine (rOwn11_look_f w c m M g cg sl sd b s he hB hr i1 h1 h2 hM).mono ?_
        rintro r w' ⟨g', cg', e1, q1, q2, hFr, _, hG, hb⟩
        exact ⟨g', cg', e1, q1, q2, hFr, hG, hb⟩
    | true =>
      have eO : O2 = ⟨Um.mtouch c m 3 4 sl s (Um.withN s sd b), false, s, (Um.mtouch c m 3 4 sl s (Um.withN s sd b)).l.done⟩ := hO
      subst eO
      refine (rOwn11_lay w c m _ g cg sl sd b s i2 hB hr i1 h1 h2 rfl).mono ?_
      rintro r w' ⟨g', cg', e1, q1, q2, hFr, _, hG, hb⟩
      exact ⟨g', cg', e1, q1, q2, hFr, hG, hb⟩

end Go.Proofs.Ytcpmclidndmgeaa

/-
  A world's size that was handed in: what its reading says of its cells.
-/
namespace Go.Proofs.Ytcpmclidndmgeaa
set_option maxRecDepth 100000
open Go.ChangeShapes Go.WideShapes Go.ChangeAt Go.RowKit

theorem cellsCfg : Try.prog.cellsOf 24 = 5 := by kernel_rfl
theorem cellsCfgI : Try.prog.cellsOf 3 = 1 := by kernel_rfl
theorem cellsCfgU : Try.prog.cellsOf 22 = 1 := by kernel_rfl

theorem array5 {α : Type} {cs : Array α} (h : cs.size = 5) : ∃ c0 c1 c2 c3 c4, cs = #[c0, c1, c2, c3, c4] := by
  obtain ⟨l⟩ := cs
  match l, h with
  | [c0, c1, c2, c3, c4], _ => exact ⟨c0, c1, c2, c3, c4, rfl⟩

theorem list5 {α : Type} {cs : List α} (h : cs.length = 5) : ∃ c0 c1 c2 c3 c4, cs = [c0, c1, c2, c3, c4] := by
  match cs, h with
  | [c0, c1, c2, c3, c4], _ => exact ⟨c0, c1, c2, c3, c4, rfl⟩

set_option maxRecDepth 100000 in
theorem open_cfg {H : Type} {enc : TypeId × Value → H} {W : World} {base : Nat} {v : Value} {d : DataW H} {p : List MemPlace}
    (hv : Value.okWide Try.prog W .any base 24 v) (h : DataW.Trod enc Try.prog W 0 (fun _ => true) true 24 v d p) :
    ∃ (t s k g : Int) (q : Nat), v = .agg #[.int .i64 t, .int .i64 s, .int .i64 k, .int .i64 g, .int .u64 q] ∧ (-9223372036854775808 ≤ t ∧ t ≤ 9223372036854775807) ∧ (-9223372036854775808 ≤ s ∧ s ≤ 9223372036854775807) ∧ (-9223372036854775808 ≤ k ∧ k ≤ 9223372036854775807) := by
  obtain ⟨cs, rfl, hsz⟩ := okWide_struct Try.underlying24 hv
  obtain ⟨c0, c1, c2, c3, c4, rfl⟩ := array5 (hsz.trans cellsCfg)
  obtain ⟨fuel, hf⟩ := h
  obtain ⟨xs, n, _, _, hl, hlen, hx⟩ := DataW.trod_struct Try.underlying24 hf
  obtain ⟨y0, y1, y2, y3, y4, rfl⟩ := list5 hlen
  obtain ⟨t, e0, _, k0⟩ := DataW.trod_int Try.underlying3 (hx 0 _ rfl)
  obtain ⟨s, e1, _, k1⟩ := DataW.trod_int Try.underlying3 (hx 1 _ rfl)
  obtain ⟨k, e2, _, k2⟩ := DataW.trod_int Try.underlying3 (hx 2 _ rfl)
  obtain ⟨g, e3, _, _⟩ := DataW.trod_int Try.underlying3 (hx 3 _ rfl)
  obtain ⟨q, e4, _, k4⟩ := DataW.trod_int Try.underlying22 (hx 4 _ rfl)
  obtain ⟨q', rfl, _⟩ := word_of k4
  simp [Value.cells, cellsCfgI, cellsCfgU] at e0 e1 e2 e3 e4
  subst e0 e1 e2 e3 e4
  exact ⟨t, s, k, g, q', rfl, int_of k0, int_of k1, int_of k2⟩

end Go.Proofs.Ytcpmclidndmgeaa

/-
  Words that were handed in: what their reading says of their cells.
-/
namespace Go.Proofs.Ytcpmclidndmgeaa
set_option maxRecDepth 100000
open Go.ChangeShapes Go.WideShapes Go.ChangeAt Go.RowKit

theorem cellsWU : Try.prog.cellsOf 22 = 1 := by kernel_rfl

theorem cellsWI : Try.prog.cellsOf 3 = 1 := by kernel_rfl

theorem open_words {H : Type} {enc : TypeId × Value → H} {W : World} {base : Nat} {v : Value} {d : DataW H} {p : List MemPlace}
    (hv : Value.okWide Try.prog W .any base 25 v) (h : DataW.Trod enc Try.prog W 0 (fun _ => true) true 25 v d p) :
    ∃ n ws, IsWords W v n ws := by
  obtain ⟨a0, len0, cap0, rfl⟩ := okWide_slice Try.underlying25 hv
  obtain ⟨fuel, hf⟩ := h
  rcases open_ints Try.underlying25 Try.underlying22 cellsWU hf with ⟨hcs, _⟩ | ⟨a, len, cap, zs, hcs, _, hl, hm, hz, _, hcell, hwf⟩
  · simp [Value.cells] at hcs
    obtain ⟨rfl, rfl, rfl⟩ := hcs
    exact ⟨0, fun _ => 0, Or.inl ⟨_, _, rfl, rfl⟩⟩
  · simp [Value.cells] at hcs
    obtain ⟨rfl, rfl, rfl⟩ := hcs
    by_cases h0 : len0 = 0
    · subst h0
      exact ⟨0, fun _ => 0, Or.inl ⟨_, _, rfl, rfl⟩⟩
    have hzc : zs.length = cap0 := hz
    obtain ⟨b, off, rfl, hc⟩ := ints_at hcell (by omega)
    have hw : ∀ j, j < zs.length → ∃ x : Nat, zs.getD j 0 = x ∧ Um.Word x := by
      intro j hj
      have e : zs.getD j 0 = zs[j] := by simp [hj]
      rw [e]
      exact word_of (hwf _ (List.getElem_mem hj))
    refine ⟨len0, fun j => (zs.getD j 0).toNat, Or.inr ⟨b, off, cap0, rfl, by omega, hl, hm, ?_, fun j hj => ?_⟩⟩
    · exact World.block_lt_of_cell? W _ (hc 0 (by omega))
    · obtain ⟨x, hx, hw'⟩ := hw j (by omega)
      have e : (zs.getD j 0).toNat = x := by rw [hx]; rfl
      exact ⟨by rw [hc j (by omega), hx, ← e], by rw [← e] at hw'; exact hw'⟩

end Go.Proofs.Ytcpmclidndmgeaa

/-
  A play that was handed in (a thread, an epoch, how many steps, what is written meanwhile): what its reading says of its cells.
-/
namespace Go.Proofs.Ytcpmclidndmgeaa
set_option maxRecDepth 100000
open Go.ChangeShapes Go.WideShapes Go.ChangeAt Go.RowKit

theorem cellsPoke : Try.prog.cellsOf 92 = 4 := by kernel_rfl
theorem cellsPokes : Try.prog.cellsOf 26 = 1 := by kernel_rfl

theorem ls4 {α : Type} {cs : List α} (h : cs.length = 4) : ∃ c0 c1 c2 c3, cs = [c0, c1, c2, c3] := by
  match cs, h with
  | [c0, c1, c2, c3], _ => exact ⟨c0, c1, c2, c3, rfl⟩

/-- what is written: ahead of which step, which spot, which word -/
structure Pok where
  st : Int
  k : Int
  a : Int
  v : Nat

/-- pokes lie in a row of elder cells -/
def PokesAt (w : World) (la : Option Addr) (nl : Nat) (Z : Nat → Pok) : Prop :=
  nl = 0 ∨ ∃ lb off, la = some ⟨lb, off, none⟩ ∧ lb < w.heap.size ∧
      ∀ i, i < nl → (w.cell? ⟨lb, off + i * 4, none⟩ = some (.int .i64 (Z i).st) ∧ w.cell? ⟨lb, off + (i * 4 + 1), none⟩ = some (.int .i64 (Z i).k) ∧ w.cell? ⟨lb, off + (i * 4 + 2), none⟩ = some (.int .i64 (Z i).a) ∧ w.cell? ⟨lb, off + (i * 4 + 3), none⟩ = some (.int .u64 ((Z i).v : Nat))) ∧
        (-9223372036854775808 ≤ (Z i).a ∧ (Z i).a ≤ 9223372036854775807) ∧ Um.Word (Z i).v

theorem open_pokes {H : Type} {enc : TypeId × Value → H} {W : World} {fuel : Nat} {cs : List Value} {x : DataW H × List MemPlace}
    (h : DataW.trod enc Try.prog W 0 (fun _ => true) true fuel 26 cs = some x) :
    ∃ la nl cl Z, cs = [.slice la nl cl] ∧ nl ≤ cl ∧ PokesAt W la nl Z := by
  rcases Deep.open_slice Try.underlying26 h with ⟨hcs, _⟩ | ⟨a, len, cap, m, n, D, Pl, hcs, _, hl, hm, hmm, _, hx⟩
  · exact ⟨none, 0, 0, fun _ => ⟨0, 0, 0, 0⟩, hcs, Nat.le_refl _, .inl rfl⟩
  · by_cases h0 : len = 0
    · subst h0
      exact ⟨some a, 0, cap, fun _ => ⟨0, 0, 0, 0⟩, hcs, Nat.zero_le _, .inl rfl⟩
    have hmc : m = cap := by rw [hmm]; rfl
    subst hmc
    have each : ∀ i, i < len → ∃ q : Pok, (W.cell? (a.add (i * 4)) = some (.int .i64 q.st) ∧ W.cell? (a.add (i * 4 + 1)) = some (.int .i64 q.k) ∧ W.cell? (a.add (i * 4 + 2)) = some (.int .i64 q.a) ∧ W.cell? (a.add (i * 4 + 3)) = some (.int .u64 (q.v : Nat))) ∧
        (-9223372036854775808 ≤ q.a ∧ q.a ≤ 9223372036854775807) ∧ Um.Word q.v := by
      intro i hi
      obtain ⟨cs', h1, h2⟩ := hx i (by omega)
      rw [cellsPoke] at h1
      obtain ⟨_, hlen, hcell⟩ := World.cells?_some h1
      obtain ⟨v0, v1, v2, v3, rfl⟩ := ls4 hlen
      obtain ⟨xs, n, _, _, hl, hxl, hfx⟩ := DataW.trod_struct Try.underlying92 h2
      obtain ⟨y0, y1, y2, y3, rfl⟩ := ls4 hxl
      obtain ⟨q0, e0, _, _⟩ := DataW.trod_int Try.underlying3 (hfx 0 _ rfl)
      obtain ⟨q1, e1, _, _⟩ := DataW.trod_int Try.underlying3 (hfx 1 _ rfl)
      obtain ⟨q2, e2, _, k2⟩ := DataW.trod_int Try.underlying3 (hfx 2 _ rfl)
      obtain ⟨q3, e3, _, k3⟩ := DataW.trod_int Try.underlying22 (hfx 3 _ rfl)
      obtain ⟨x', rfl, w3⟩ := word_of k3
      simp [cellsWI, cellsWU] at e0 e1 e2 e3
      subst e0 e1 e2 e3
      have c0 := hcell 0 (by omega)
      have c1 := hcell 1 (by omega)
      have c2 := hcell 2 (by omega)
      have c3 := hcell 3 (by omega)
      rw [Deep.add_add] at c0 c1 c2 c3
      exact ⟨⟨q0, q1, q2, x'⟩, ⟨by simpa using c0, by simpa using c1, by simpa using c2, by simpa using c3⟩, int_of k2, w3⟩
    have : ∃ Z : Nat → Pok, ∀ i, i < len → (W.cell? (a.add (i * 4)) = some (.int .i64 (Z i).st) ∧ W.cell? (a.add (i * 4 + 1)) = some (.int .i64 (Z i).k) ∧ W.cell? (a.add (i * 4 + 2)) = some (.int .i64 (Z i).a) ∧ W.cell? (a.add (i * 4 + 3)) = some (.int .u64 ((Z i).v : Nat))) ∧
        (-9223372036854775808 ≤ (Z i).a ∧ (Z i).a ≤ 9223372036854775807) ∧ Um.Word (Z i).v :=
      ⟨fun i => if hi : i < len then (each i hi).choose else ⟨0, 0, 0, 0⟩, fun i hi => by simp only [hi, dite_true]; exact (each i hi).choose_spec⟩
    obtain ⟨q, hq⟩ := this
    obtain ⟨b, off, spot⟩ := a
    have hspot : spot = none := by simpa [Addr.add] using World.cell?_spot (hq 0 (by omega)).1.1
    subst hspot
    refine ⟨_, len, m, q, hcs, hl, .inr ⟨b, off, rfl, ?_, fun i hi => ?_⟩⟩
    · have := (hq 0 (by omega)).1.1
      rw [Go.WideShapes.add_plain] at this
      exact World.block_lt_of_cell? W _ this
    · have := hq i hi
      simp only [Go.WideShapes.add_plain] at this
      exact this

end Go.Proofs.Ytcpmclidndmgeaa

/-
  What layer 11's laws are handed: a play (what is laid, a snapshot, how many steps there are, what is written meanwhile), turns, a status: what their reading says of their cells.
-/
namespace Go.Proofs.Ytcpmclidndmgeaa
set_option maxRecDepth 100000
open Go.ChangeShapes Go.WideShapes Go.ChangeAt Go.RowKit

theorem cellsPlay11 : Try.prog.cellsOf 28 = 6 := by kernel_rfl

theorem ar6 {α : Type} {cs : Array α} (h : cs.size = 6) : ∃ c0 c1 c2 c3 c4 c5, cs = #[c0, c1, c2, c3, c4, c5] := by
  obtain ⟨l⟩ := cs
  match l, h with
  | [c0, c1, c2, c3, c4, c5], _ => exact ⟨c0, c1, c2, c3, c4, c5, rfl⟩

theorem ls6 {α : Type} {cs : List α} (h : cs.length = 6) : ∃ c0 c1 c2 c3 c4 c5, cs = [c0, c1, c2, c3, c4, c5] := by
  match cs, h with
  | [c0, c1, c2, c3, c4, c5], _ => exact ⟨c0, c1, c2, c3, c4, c5, rfl⟩

theorem open_play11 {H : Type} {enc : TypeId × Value → H} {W : World} {base : Nat} {v : Value} {d : DataW H} {p : List MemPlace}
    (hv : Value.okWide Try.prog W .any base 28 v) (h : DataW.Trod enc Try.prog W 0 (fun _ => true) true 28 v d p) :
    ∃ (sl sd b : Int) (sn : Nat) (st : Int) (la : Option Addr) (nl cl : Nat) (Z : Nat → Pok), v = .agg #[.int .i64 sl, .int .i64 sd, .int .i64 b, .int .u64 (sn : Nat), .int .i64 st, .slice la nl cl] ∧ (-9223372036854775808 ≤ sl ∧ sl ≤ 9223372036854775807) ∧ Um.Word sn ∧ nl ≤ cl ∧ PokesAt W la nl Z := by
  obtain ⟨cs, rfl, hsz⟩ := okWide_struct Try.underlying28 hv
  obtain ⟨c0, c1, c2, c3, c4, c5, rfl⟩ := ar6 (hsz.trans cellsPlay11)
  obtain ⟨fuel, hf⟩ := h
  obtain ⟨xs, n, _, _, hl, hlen, hx⟩ := DataW.trod_struct Try.underlying28 hf
  obtain ⟨y0, y1, y2, y3, y4, y5, rfl⟩ := ls6 hlen
  obtain ⟨sl, e0, _, k0⟩ := DataW.trod_int Try.underlying3 (hx 0 _ rfl)
  obtain ⟨sd, e1, _, _⟩ := DataW.trod_int Try.underlying3 (hx 1 _ rfl)
  obtain ⟨b, e2, _, _⟩ := DataW.trod_int Try.underlying3 (hx 2 _ rfl)
  obtain ⟨r, e3, _, k3⟩ := DataW.trod_int Try.underlying22 (hx 3 _ rfl)
  obtain ⟨st, e4, _, _⟩ := DataW.trod_int Try.underlying3 (hx 4 _ rfl)
  obtain ⟨la, nl, cl, Z, e5, hnc, hZ⟩ := open_pokes (hx 5 _ rfl)
  obtain ⟨r', rfl, w1⟩ := word_of k3
  simp [Value.cells, cellsWI, cellsWU, cellsPokes] at e0 e1 e2 e3 e4 e5
  subst e0 e1 e2 e3 e4 e5
  exact ⟨sl, sd, b, r', st, la, nl, cl, Z, rfl, int_of k0, w1, hnc, hZ⟩

end Go.Proofs.Ytcpmclidndmgeaa

/-
  The walk of what is written meanwhile: into the program's words, and into the document's.
-/
namespace Go.Proofs.Ytcpmclidndmgeaa
set_option maxRecDepth 100000
open Go.RowKit Go.Sort

/-- a memory behind what is due ahead of a step -/
def poked (c : Um.Cf) (Z : Nat → Pok) (k : Nat) (m : Um.Mm) : Nat → Um.Mm
  | 0 => m
  | j + 1 => if (Z j).st = (k : Int) then Um.mtouch c (poked c Z k m j) 2 (Z j).k (Z j).a 0 (Z j).v else poked c Z k m j

theorem Turn.cell {bs : List Nat} {w w' : World} (h : Turn bs w w') {p : Addr} (h0 : p.block < w.heap.size) (h1 : p.block ∉ bs) : w'.cell? p = w.cell? p := World.cell?_of_block (w := w) (h.block p.block h0 h1)

theorem PokesAt.turn {bs : List Nat} {w w' : World} {la : Option Addr} {nl : Nat} {Z : Nat → Pok} (h : PokesAt w la nl Z) (t : Turn bs w w') (hn : nl ≠ 0 → ∀ lb off, la = some ⟨lb, off, none⟩ → lb ∉ bs) : PokesAt w' la nl Z := by
  by_cases hn0 : nl = 0
  · exact .inl hn0
  rcases h with h0 | ⟨lb, off, rfl, hlb, hZ⟩
  · exact .inl h0
  · refine .inr ⟨lb, off, rfl, Nat.lt_of_lt_of_le hlb t.size, fun i hi => ?_⟩
    obtain ⟨⟨a1, a2, a3, a4⟩, h5⟩ := hZ i hi
    have e : ∀ o, w'.cell? ⟨lb, o, none⟩ = w.cell? ⟨lb, o, none⟩ := fun o => t.cell hlb (hn hn0 lb off rfl)
    exact ⟨⟨(e _).trans a1, (e _).trans a2, (e _).trans a3, (e _).trans a4⟩, h5⟩

/-- what was handed in is none of the call's own blocks -/
theorem PokesAt.apart {w wr : World} {l e : List (Nat × List Value)} {la : Option Addr} {nl : Nat} {Z : Nat → Pok} (h : PokesAt w la nl Z) (hS : Sx [] w wr l e) (i j : Nat) {B C : Nat} {c1 c2 : List Value} (hi : l[i]? = some (B, c1)) (hj : l[j]? = some (C, c2)) : nl ≠ 0 → ∀ lb off, la = some ⟨lb, off, none⟩ → lb ∉ [B, C] := by
  intro hn lb off hla hm
  rcases h with h0 | ⟨lb', off', e, hlb, _⟩
  · exact hn h0
  · rw [hla] at e
    simp only [Option.some.injEq, Addr.mk.injEq] at e
    obtain ⟨rfl, _⟩ := e
    have h1 := (hS.low _ (List.mem_of_getElem? hi)).resolve_left (by simp)
    have h2 := (hS.low _ (List.mem_of_getElem? hj)).resolve_left (by simp)
    rcases (by simpa using hm : lb = B ∨ lb = C) with rfl | rfl
    · exact Nat.lt_irrefl _ (Nat.lt_of_lt_of_le hlb h1)
    · exact Nat.lt_irrefl _ (Nat.lt_of_lt_of_le hlb h2)

section
variable {bs : List Nat} {w0 w : World} {l e : List (Nat × List Value)} {B C g cg : Nat} {c : Um.Cf} {m : Um.Mm}

set_option maxHeartbeats 8000000 in
theorem poked_x (hS : Sx bs w0 w l e) (i1 i2 i3 : Nat) (hi : l[i1]? = some (B, memL c C m)) (hj : l[i2]? = some (C, rowW m.ws c.n)) (hij : i1 ≠ i2) (hk : e[i3]? = some (g, rowW m.ws c.n)) (hr : c.r = true) (hw : WordsOk c m) (h1 : c.n ≤ cg) (h2 : cg ≤ maxLen)
    (la : Option Addr) (nl cl : Nat) (Z : Nat → Pok) (hnl : nl ≤ 30) (hcl : nl ≤ cl) (hP : PokesAt w la nl Z) (hB : nl ≠ 0 → ∀ lb off, la = some ⟨lb, off, none⟩ → lb ∉ [B, C]) (k : Nat) (M : Um.Mm) (hM : M = poked c Z k m nl) :
    Calls Try.prog 12 #[.pointer (some ⟨B, 0, none⟩), (.agg #[.int .i64 c.t, .int .i64 c.s, .int .i64 c.k, .int .i64 c.g, .int .u64 c.q, (.slice (some ⟨g, 0, none⟩) c.n cg), .int .i64 m.cnt, .int .i64 m.l.kind, .int .i64 m.l.a, .int .i64 m.l.b, .int .u64 (m.l.old : Nat), .int .u64 (m.l.new : Nat), .bool m.l.done]), .slice la nl cl, .int .i64 k] w fun r w' => ∃ g' cg', r = .returned ((.agg #[.int .i64 c.t, .int .i64 c.s, .int .i64 c.k, .int .i64 c.g, .int .u64 c.q, (.slice (some ⟨g', 0, none⟩) c.n cg'), .int .i64 M.cnt, .int .i64 M.l.kind, .int .i64 M.l.a, .int .i64 M.l.b, .int .u64 (M.l.old : Nat), .int .u64 (M.l.new : Nat), .bool M.l.done])) ∧ c.n ≤ cg' ∧ cg' ≤ maxLen ∧ WordsOk c M ∧ Sx bs w0 w' (putL l [(i1, B, memL c C M), (i2, C, rowW M.ws c.n)]) (e.set i3 (g', rowW M.ws c.n)) := by
  have HS := hide hS
  have HI := hide (And.intro hi (And.intro hj hk))
  have hL := hS.enter [(B, memL c C m), (C, rowW m.ws c.n)] [(g, rowW m.ws c.n)] (fun p hp => by
      rcases (by simpa using hp : p = (B, memL c C m) ∨ p = (C, rowW m.ws c.n)) with rfl | rfl
      · exact List.mem_of_getElem? hi
      · exact List.mem_of_getElem? hj) (by have := hS.ne i1 i2 hi hj hij; simp [this]) (fun p hp => by
      obtain rfl : p = _ := by simpa using hp
      exact List.mem_of_getElem? hk)
  have HR := hide hr
  have HW0 := hide hw
  have HM := hide hM
  have HP := hide hP
  have HB := hide hB
  clear hS hi hj hij hk hr hw hM hP hB
  have hS : Sx [B, C] w w [(B, memL c C m), (C, rowW m.ws c.n)] [(g, rowW m.ws c.n)] := hL
  clear hL
  go_enter Try.func12, Try.ntmps12
  go_wp2_with (first | (refine wpx_box hS rfl _ _ rfl _ rfl _ (by intro _; simp only [Act.put, sx1, sx2, sx3]; first | done | exact rfl) ?_; clear hS; intro _ _ hS; dsimp only [blit, List.set, sx4, sx5, Value.cells, sx6] at hS) | (refine wpx_alloc hS rfl _ rfl _ (zer_any2 rfl) _ (by intro _; simp only [Act.put, sx1, sx2, sx3]; first | done | exact rfl) ?_; clear hS; intro _ _ hS; dsimp only [blit, List.set, sx4, sx5, Value.cells, sx6] at hS) | (refine wpx_ld hS rfl _ _ rfl _ _ rfl ?_; (repeat (first | refine sxh ?_ | refine sxn ?_)); first | refine .inl ⟨_, one_any2 rfl, rfl, _, (by simp only [Act.put, sx1, sx2, sx3]; first | done | exact rfl), ?_⟩ | refine .inr ⟨_, _, row_any2 rfl, rfl, (by dsimp only [cutL, List.drop, List.take]; first | done | exact rfl), _, (by simp only [Act.put, sx1, sx2, sx3]; first | done | exact rfl), ?_⟩) | (refine wpx_st hS rfl _ _ _ rfl rfl _ _ rfl ?_; (repeat (first | refine sxh ?_ | refine sxn ?_)); refine ⟨_, (by first | exact shA rfl | exact shI rfl | exact shB rfl | exact shS rfl | exact shP rfl | exact shF rfl | exact shN rfl), _, siz_any2 rfl, (by exact rfl), (by exact rfl), (by exact rfl), ?_⟩; clear hS; intro _ hS; dsimp only [blit, List.set, sx4, sx5, Value.cells, sx6] at hS))
  obtain ⟨RB, rfl⟩ := nameB hS 2 rfl
  obtain ⟨RR, rfl⟩ := nameB hS 3 rfl
  go_loopw [13] (fun i wr => ∃ (j : Nat) (gj cgj : Nat), j ≤ nl ∧ i = .int .i64 j ∧ c.n ≤ cgj ∧ cgj ≤ maxLen ∧ Hid (Fr w g gj) ∧ Hid (WordsOk c (poked c Z k m j)) ∧ Hid (Sx [B, C] w wr [(B, memL c C (poked c Z k m j)), (C, rowW (poked c Z k m j).ws c.n), (RB, [.int .i64 c.t, .int .i64 c.s, .int .i64 c.k, .int .i64 c.g, .int .u64 c.q, (.slice (some ⟨gj, 0, none⟩) c.n cgj), .int .i64 (poked c Z k m j).cnt, .int .i64 (poked c Z k m j).l.kind, .int .i64 (poked c Z k m j).l.a, .int .i64 (poked c Z k m j).l.b, .int .u64 ((poked c Z k m j).l.old : Nat), .int .u64 ((poked c Z k m j).l.new : Nat), .bool (poked c Z k m j).l.done]), (RR, [.int .i64 0, .int .i64 0, .int .i64 0, .int .i64 0, .int .u64 0, .slice none 0 0, .int .i64 0, .int .i64 0, .int .i64 0, .int .i64 0, .int .u64 0, .int .u64 0, .bool false])] [(gj, rowW (poked c Z k m j).ws c.n)])) (fun i _ => nl - (intOf i).toNat)
  case atStart => exact ⟨0, g, cg, Nat.zero_le _, rfl, h1, h2, hide (Fr.refl w g), HW0, hS⟩
  case round =>
    clear hS HW0 h1 h2
    rename_i wr
    obtain ⟨j, gj, cgj, hj, rfl, h1, h2, HF, HW, HS3⟩ := hrel
    have hS := unhide HS3
    clear HS3
    by_cases hlt : j < nl
    · have hlti : (j : Int) < (nl : Int) := by omega
      have hP2 := (unhide HP).turn hS.off (unhide HB)
      rcases hP2 with h0 | ⟨lb, off, rfl, hlb, hZ⟩
      · omega
      obtain ⟨⟨z0, z1, z2, z3⟩, ⟨hb0, hb1⟩, hx⟩ := hZ j hlt
      clear hZ HP HB
      have HBD := hide (And.intro hb0 hb1)
      have HX := hide hx
      rw [← Nat.add_assoc] at z1 z2 z3
      clear hb0 hb1 hx
      by_cases e1 : (Z j).st = (k : Int)
      · have HE : Hid (poked c Z k m (j + 1) = Um.mtouch c (poked c Z k m j) 2 (Z j).k (Z j).a 0 (Z j).v) := hide (by show (if (Z j).st = (k : Int) then _ else _) = _; rw [if_pos e1])
        rw [e1] at z0
        clear e1
        generalize (Z j).k = kd at *
        generalize (Z j).a = a at *
        generalize (Z j).v = x at *
        go_wp2_with (first | (refine wpx_box hS rfl _ _ rfl _ rfl _ (by intro _; simp only [Act.put, sx1, sx2, sx3]; first | done | exact rfl) ?_; clear hS; intro _ _ hS; dsimp only [blit, List.set, sx4, sx5, Value.cells, sx6] at hS) | (refine wpx_alloc hS rfl _ rfl _ (zer_any2 rfl) _ (by intro _; simp only [Act.put, sx1, sx2, sx3]; first | done | exact rfl) ?_; clear hS; intro _ _ hS; dsimp only [blit, List.set, sx4, sx5, Value.cells, sx6] at hS) | (refine wpx_ld hS rfl _ _ rfl _ _ rfl ?_; (repeat (first | refine sxh ?_ | refine sxn ?_)); first | refine .inl ⟨_, one_any2 rfl, rfl, _, (by simp only [Act.put, sx1, sx2, sx3]; first | done | exact rfl), ?_⟩ | refine .inr ⟨_, _, row_any2 rfl, rfl, (by dsimp only [cutL, List.drop, List.take]; first | done | exact rfl), _, (by simp only [Act.put, sx1, sx2, sx3]; first | done | exact rfl), ?_⟩) | (refine wpx_st hS rfl _ _ _ rfl rfl _ _ rfl ?_; (repeat (first | refine sxh ?_ | refine sxn ?_)); refine ⟨_, (by first | exact shA rfl | exact shI rfl | exact shB rfl | exact shS rfl | exact shP rfl | exact shF rfl | exact shN rfl), _, siz_any2 rfl, (by exact rfl), (by exact rfl), (by exact rfl), ?_⟩; clear hS; intro _ hS; dsimp only [blit, List.set, sx4, sx5, Value.cells, sx6] at hS))
        refine (mStore_x hS 0 1 rfl rfl (by decide) (unhide HR) (unhide HW) kd a x (unhide HX) (unhide HBD).1 (unhide HBD).2 (poked c Z k m (j + 1)) (unhide HE)).mono ?_
        rintro r u ⟨rfl, hWn, hSn⟩
        clear hS
        have hS := hSn
        clear hSn
        dsimp only [putL, List.set, List.cons_append, List.nil_append] at hS
        have HW5 := hide hWn
        clear hWn
        clear z0 z1 z2 z3
        have hSz := hS.size
        go_wp2_with (first | (refine wpx_box hS rfl _ _ rfl _ rfl _ (by intro _; simp only [Act.put, sx1, sx2, sx3]; first | done | exact rfl) ?_; clear hS; intro _ _ hS; dsimp only [blit, List.set, sx4, sx5, Value.cells, sx6] at hS) | (refine wpx_alloc hS rfl _ rfl _ (zer_any2 rfl) _ (by intro _; simp only [Act.put, sx1, sx2, sx3]; first | done | exact rfl) ?_; clear hS; intro _ _ hS; dsimp only [blit, List.set, sx4, sx5, Value.cells, sx6] at hS) | (refine wpx_ld hS rfl _ _ rfl _ _ rfl ?_; (repeat (first | refine sxh ?_ | refine sxn ?_)); first | refine .inl ⟨_, one_any2 rfl, rfl, _, (by simp only [Act.put, sx1, sx2, sx3]; first | done | exact rfl), ?_⟩ | refine .inr ⟨_, _, row_any2 rfl, rfl, (by dsimp only [cutL, List.drop, List.take]; first | done | exact rfl), _, (by simp only [Act.put, sx1, sx2, sx3]; first | done | exact rfl), ?_⟩) | (refine wpx_st hS rfl _ _ _ rfl rfl _ _ rfl ?_; (repeat (first | refine sxh ?_ | refine sxn ?_)); refine ⟨_, (by first | exact shA rfl | exact shI rfl | exact shB rfl | exact shS rfl | exact shP rfl | exact shF rfl | exact shN rfl), _, siz_any2 rfl, (by exact rfl), (by exact rfl), (by exact rfl), ?_⟩; clear hS; intro _ hS; dsimp only [blit, List.set, sx4, sx5, Value.cells, sx6] at hS))
        have hSz2 := hS.size
        refine (rStore_x hS 0 rfl (unhide HR) (unhide HW) h1 h2 kd a x (unhide HX) (poked c Z k m (j + 1)) (unhide HE)).mono ?_
        rintro r u ⟨gn, cgn, rfl, q1, q2, hFr, hWn, hSn⟩
        clear hS
        have hS := hSn
        clear hSn
        dsimp only [putL, List.set, List.cons_append, List.nil_append] at hS
        have HW6 := hide hWn
        clear hWn
        go_wp2_with (refine wpx_st hS rfl _ _ _ rfl rfl _ _ rfl ?_; (repeat (first | refine sxh ?_ | refine sxn ?_)); refine ⟨_, (by first | exact shA rfl | exact shI rfl | exact shB rfl | exact shS rfl | exact shP rfl | exact shF rfl | exact shN rfl), _, siz_any2 rfl, (by exact rfl), (by exact rfl), (by exact rfl), ?_⟩; clear hS; intro _ hS; dsimp only [blit, List.set, sx4, sx5, Value.cells, sx6] at hS)
        replace hS := hS.take 4
        dsimp only [List.take] at hS
        have HF6 := hide ((unhide HF).trans hFr hSz2)
        have HS6 := hide hS
        clear hS
        go_wp2
        exact ⟨⟨j + 1, gn, cgn, by omega, by go_num, q1, q2, HF6, HW6, HS6⟩, by simp [intOf]; omega⟩
      · have HE : poked c Z k m (j + 1) = poked c Z k m j := by show (if (Z j).st = (k : Int) then _ else _) = _; rw [if_neg e1]
        rw [← HE] at hS HW
        clear HE
        generalize (Z j).st = sj at *
        have e2 : (sj == (k : Int)) = false := by simpa using e1
        clear e1
        generalize (Z j).k = kd at *
        generalize (Z j).a = a at *
        generalize (Z j).v = x at *
        go_wp2_with (first | (refine wpx_box hS rfl _ _ rfl _ rfl _ (by intro _; simp only [Act.put, sx1, sx2, sx3]; first | done | exact rfl) ?_; clear hS; intro _ _ hS; dsimp only [blit, List.set, sx4, sx5, Value.cells, sx6] at hS) | (refine wpx_alloc hS rfl _ rfl _ (zer_any2 rfl) _ (by intro _; simp only [Act.put, sx1, sx2, sx3]; first | done | exact rfl) ?_; clear hS; intro _ _ hS; dsimp only [blit, List.set, sx4, sx5, Value.cells, sx6] at hS) | (refine wpx_ld hS rfl _ _ rfl _ _ rfl ?_; (repeat (first | refine sxh ?_ | refine sxn ?_)); first | refine .inl ⟨_, one_any2 rfl, rfl, _, (by simp only [Act.put, sx1, sx2, sx3]; first | done | exact rfl), ?_⟩ | refine .inr ⟨_, _, row_any2 rfl, rfl, (by dsimp only [cutL, List.drop, List.take]; first | done | exact rfl), _, (by simp only [Act.put, sx1, sx2, sx3]; first | done | exact rfl), ?_⟩) | (refine wpx_st hS rfl _ _ _ rfl rfl _ _ rfl ?_; (repeat (first | refine sxh ?_ | refine sxn ?_)); refine ⟨_, (by first | exact shA rfl | exact shI rfl | exact shB rfl | exact shS rfl | exact shP rfl | exact shF rfl | exact shN rfl), _, siz_any2 rfl, (by exact rfl), (by exact rfl), (by exact rfl), ?_⟩; clear hS; intro _ hS; dsimp only [blit, List.set, sx4, sx5, Value.cells, sx6] at hS))
        replace hS := hS.take 4
        dsimp only [List.take] at hS
        have HF6 := hide (unhide HF)
        have HS6 := hide hS
        clear hS
        go_wp2
        exact ⟨⟨j + 1, gj, cgj, by omega, by go_num, h1, h2, HF6, HW, HS6⟩, by simp [intOf]; omega⟩
    · obtain rfl : j = nl := by omega
      have HWe := HW
      rw [← unhide HM] at hS HWe
      go_wp2_with (first | (refine wpx_box hS rfl _ _ rfl _ rfl _ (by intro _; simp only [Act.put, sx1, sx2, sx3]; first | done | exact rfl) ?_; clear hS; intro _ _ hS; dsimp only [blit, List.set, sx4, sx5, Value.cells, sx6] at hS) | (refine wpx_alloc hS rfl _ rfl _ (zer_any2 rfl) _ (by intro _; simp only [Act.put, sx1, sx2, sx3]; first | done | exact rfl) ?_; clear hS; intro _ _ hS; dsimp only [blit, List.set, sx4, sx5, Value.cells, sx6] at hS) | (refine wpx_ld hS rfl _ _ rfl _ _ rfl ?_; (repeat (first | refine sxh ?_ | refine sxn ?_)); first | refine .inl ⟨_, one_any2 rfl, rfl, _, (by simp only [Act.put, sx1, sx2, sx3]; first | done | exact rfl), ?_⟩ | refine .inr ⟨_, _, row_any2 rfl, rfl, (by dsimp only [cutL, List.drop, List.take]; first | done | exact rfl), _, (by simp only [Act.put, sx1, sx2, sx3]; first | done | exact rfl), ?_⟩) | (refine wpx_st hS rfl _ _ _ rfl rfl _ _ rfl ?_; (repeat (first | refine sxh ?_ | refine sxn ?_)); refine ⟨_, (by first | exact shA rfl | exact shI rfl | exact shB rfl | exact shS rfl | exact shP rfl | exact shF rfl | exact shN rfl), _, siz_any2 rfl, (by exact rfl), (by exact rfl), (by exact rfl), ?_⟩; clear hS; intro _ hS; dsimp only [blit, List.set, sx4, sx5, Value.cells, sx6] at hS))
      have hY := hS.get 3 rfl
      refine bodyPost_ret (v := (.agg #[.int .i64 c.t, .int .i64 c.s, .int .i64 c.k, .int .i64 c.g, .int .u64 c.q, (.slice (some ⟨gj, 0, none⟩) c.n cgj), .int .i64 M.cnt, .int .i64 M.l.kind, .int .i64 M.l.a, .int .i64 M.l.b, .int .u64 (M.l.old : Nat), .int .u64 (M.l.new : Nat), .bool M.l.done])) (by simp [results, Try.results12, go_sem, hY.cell 0 _ rfl, hY.cell 1 _ rfl, hY.cell 2 _ rfl, hY.cell 3 _ rfl, hY.cell 4 _ rfl, hY.cell 5 _ rfl, hY.cell 6 _ rfl, hY.cell 7 _ rfl, hY.cell 8 _ rfl, hY.cell 9 _ rfl, hY.cell 10 _ rfl, hY.cell 11 _ rfl, hY.cell 12 _ rfl]) rfl ?_
      refine ⟨gj, cgj, rfl, h1, h2, unhide HWe, (unhide HS).mix [(i1, B, memL c C M), (i2, C, rowW M.ws c.n)] (fun u hu => ?_) hS.off (fun u hu => ?_) i3 (unhide HI).2.2 (unhide HF) (hS.getE 0 rfl)⟩
      · rcases (by simpa using hu : u = (i1, B, memL c C M) ∨ u = (i2, C, rowW M.ws c.n)) with rfl | rfl
        · exact ⟨_, (unhide HI).1⟩
        · exact ⟨_, (unhide HI).2.1⟩
      · rcases (by simpa using hu : u = (i1, B, memL c C M) ∨ u = (i2, C, rowW M.ws c.n)) with rfl | rfl
        · exact hS.get 0 rfl
        · exact hS.get 1 rfl

end

end Go.Proofs.Ytcpmclidndmgeaa
