/-
  Texts that the laws stand on, merged (OpenRA, PinP).
-/
import Derived.Test.YtkiaogbddfjkkaaM11
import Derived.Test.YtkiaogbddfjkkaaM17
import Derived.Test.YtkiaogbddfjkkaaM18
import Derived.Test.YtkiaogbddfjkkaaM19
import Derived.Test.YtkiaogbddfjkkaaM20
import Derived.Test.YtkiaogbddfjkkaaM5
import Derived.LoopTactic

/-
  The document's beginning: a step, of whatever step.
-/
namespace Go.Proofs.Ytkiaogbddfjkkaa
set_option maxRecDepth 100000
open Go.RowKit Go.Sort

/-- how the document's value of a beginning is one: what comes next (y), its help's next step (z), is that done (d) -/
structure Ofit (o : Um.Os) (y z : Int) (d : Bool) : Prop where
  y : o.nx < 6 → y = (o.nx : Nat)
  z : o.nx = 3 → o.hn < 4 ∧ z = (o.hn : Nat) ∧ d = false

theorem gof_go (c : Um.Cf) (o : Um.Os) (M : Um.Mm) (s : Nat) : Gof c.s o.sl o.te o.th o.tn (decide ((Um.ogo c o M s).nx = 6)) (Um.ogo c o M s).te (Um.ogo c o M s).th (Um.ogo c o M s).tn := by
  unfold Gof Um.ogo
  by_cases h : c.s ≤ o.sl + 1
  · rw [if_pos h]
    exact ⟨fun _ => ⟨rfl, rfl, rfl, rfl⟩, fun q => absurd h q⟩
  · rw [if_neg h]
    exact ⟨fun q => absurd q h, fun _ => ⟨rfl, rfl, rfl, rfl⟩⟩

theorem ofit_go (c : Um.Cf) (o : Um.Os) (M : Um.Mm) (s : Nat) (z : Int) (d : Bool) : Ofit (Um.ogo c o M s) 0 z d := by
  unfold Um.ogo
  by_cases h : c.s ≤ o.sl + 1
  · rw [if_pos h]
    exact ⟨fun q => absurd (show 6 < 6 from q) (by decide), (fun q => by cases q)⟩
  · rw [if_neg h]
    exact ⟨fun _ => rfl, (fun q => by cases q)⟩

theorem ogo_sl (c : Um.Cf) (o : Um.Os) (M : Um.Mm) (s : Nat) : (Um.ogo c o M s).m = M ∧ (Um.ogo c o M s).sl = o.sl + 1 ∧ (Um.ogo c o M s).s = s ∧ (Um.ogo c o M s).q = o.q ∧ (Um.ogo c o M s).w = o.w ∧ (Um.ogo c o M s).hs = o.hs := by
  unfold Um.ogo
  split <;> exact ⟨rfl, rfl, rfl, rfl, rfl, rfl⟩

set_option maxHeartbeats 1000000 in
theorem rStep9_any (w : World) (c : Um.Cf) (o O2 : Um.Os) (hO : O2 = Um.ostep c o) (y z : Int) (d : Bool) (hf : Ofit o y z d) (g cg : Nat) (ho : Um.Ook c o) (hB : BlkAt w g (rowW o.m.ws c.n)) (hr : c.r = true) (h1 : c.n ≤ cg) (h2 : cg ≤ maxLen) :
    Calls Try.prog 15 #[.agg #[.int .i64 o.sl, .int .i64 y, .int .u64 (o.s : Nat), .int .u64 (o.q : Nat), .int .u64 (o.w : Nat), .int .i64 z, .int .u64 (o.hs : Nat), .bool d, .int .i64 o.te, .int .u64 (o.th : Nat), .int .u64 (o.tn : Nat), .bool (decide (o.nx = 6))], (.agg #[.int .i64 c.t, .int .i64 c.s, .int .i64 c.k, .int .i64 c.g, .int .u64 c.q, (.slice (some ⟨g, 0, none⟩) c.n cg), .int .i64 o.m.cnt, .int .i64 o.m.l.kind, .int .i64 o.m.l.a, .int .i64 o.m.l.b, .int .u64 (o.m.l.old : Nat), .int .u64 (o.m.l.new : Nat), .bool o.m.l.done])] w fun r w' => ∃ g' cg' y' z' d', r = .returned (.tuple #[.agg #[.int .i64 O2.sl, .int .i64 y', .int .u64 (O2.s : Nat), .int .u64 (O2.q : Nat), .int .u64 (O2.w : Nat), .int .i64 z', .int .u64 (O2.hs : Nat), .bool d', .int .i64 O2.te, .int .u64 (O2.th : Nat), .int .u64 (O2.tn : Nat), .bool (decide (O2.nx = 6))], (.agg #[.int .i64 c.t, .int .i64 c.s, .int .i64 c.k, .int .i64 c.g, .int .u64 c.q, (.slice (some ⟨g', 0, none⟩) c.n cg'), .int .i64 O2.m.cnt, .int .i64 O2.m.l.kind, .int .i64 O2.m.l.a, .int .i64 O2.m.l.b, .int .u64 (O2.m.l.old : Nat), .int .u64 (O2.m.l.new : Nat), .bool O2.m.l.done])]) ∧ Ofit O2 y' z' d' ∧ c.n ≤ cg' ∧ cg' ≤ maxLen ∧ Fr w g g' ∧ BlkAt w' g' (rowW O2.m.ws c.n) ∧ Below w.heap.size w w' := by
  have hb := c.rb hr
  have h6 := ho.nx
  rcases (by omega : o.nx = 0 ∨ o.nx = 1 ∨ o.nx = 2 ∨ o.nx = 3 ∨ o.nx = 4 ∨ o.nx = 5 ∨ o.nx = 6) with e | e | e | e | e | e | e
  · obtain rfl : y = 0 := by rw [hf.y (by omega), e]; rfl
    have hsl := ho.sl (by omega)
    have hsl0 := ho.sl0
    rw [show decide (o.nx = 6) = false by rw [e]; rfl]
    unfold Um.ostep at hO
    rw [if_pos e] at hO
    cases hfr : Um.frN c (Um.mtouch c o.m 1 4 o.sl 0 0).l.old with
    | true =>
      rw [if_pos hfr] at hO
      have hq := of_decide_eq_true hfr
      refine (rStep9_0a w c o.m _ g cg o.sl o.s o.q o.w o.hs o.th o.tn z o.te d hq.1 hq.2 hB hr ho.wd h1 h2 rfl).mono ?_
      rintro r w' ⟨g', cg', rfl, q1, q2, hFr, _, hGb, hb⟩
      subst hO
      exact ⟨g', cg', 1, z, d, rfl, ⟨fun _ => rfl, (fun q => by cases q)⟩, q1, q2, hFr, hGb, hb⟩
    | false =>
      rw [if_neg (by rw [hfr]; decide)] at hO
      obtain ⟨e1, e2, e3, e4, e5, e6⟩ := ogo_sl c o (Um.mtouch c o.m 1 4 o.sl 0 0) (Um.mtouch c o.m 1 4 o.sl 0 0).l.old
      have hG := gof_go c o (Um.mtouch c o.m 1 4 o.sl 0 0) (Um.mtouch c o.m 1 4 o.sl 0 0).l.old
      have hF := ofit_go c o (Um.mtouch c o.m 1 4 o.sl 0 0) (Um.mtouch c o.m 1 4 o.sl 0 0).l.old z d
      rw [← hO] at e1 e2 e3 e4 e5 e6 hG hF
      rw [e1, e2, e3, e4, e5, e6]
      have hq := of_decide_eq_false hfr
      by_cases h3 : Um.stN (Um.mtouch c o.m 1 4 o.sl 0 0).l.old = 0
      · refine (rStep9_0c w c o.m _ g cg o.sl o.s o.q o.w o.hs o.th o.tn z o.te d _ _ _ _ hG hsl0 (by omega) h3 (fun q => hq ⟨h3, q⟩) hB hr ho.wd h1 h2 rfl).mono ?_
        rintro r w' ⟨g', cg', rfl, q1, q2, hFr, _, hGb, hb⟩
        exact ⟨g', cg', 0, z, d, rfl, hF, q1, q2, hFr, hGb, hb⟩
      · refine (rStep9_0b w c o.m _ g cg o.sl o.s o.q o.w o.hs o.th o.tn z o.te d _ _ _ _ hG hsl0 (by omega) h3 hB hr ho.wd h1 h2 rfl).mono ?_
        rintro r w' ⟨g', cg', rfl, q1, q2, hFr, _, hGb, hb⟩
        exact ⟨g', cg', 0, z, d, rfl, hF, q1, q2, hFr, hGb, hb⟩
  · obtain rfl : y = 1 := by rw [hf.y (by omega), e]; rfl
    have hsl := ho.sl (by omega)
    have hsl0 := ho.sl0
    rw [show decide (o.nx = 6) = false by rw [e]; rfl]
    unfold Um.ostep at hO
    rw [if_neg (by omega), if_pos e] at hO
    cases hd : (Um.mtouch c o.m 3 4 o.sl o.s (Um.moveN o.s 1 false)).l.done with
    | true =>
      rw [if_pos hd] at hO
      refine (rStep9_1 w c o.m _ g cg o.sl o.s o.q o.w o.hs o.th o.tn z o.te d o.sl 2 false o.te o.th o.tn ⟨fun _ => ⟨rfl, rfl, rfl, rfl, rfl, rfl⟩, fun q => by rw [hd] at q; cases q⟩ hsl0 (by omega) ho.s hB hr ho.wd h1 h2 rfl).mono ?_
      rintro r w' ⟨g', cg', rfl, q1, q2, hFr, _, hGb, hb⟩
      subst hO
      exact ⟨g', cg', 2, z, d, rfl, ⟨fun _ => rfl, (fun q => by cases q)⟩, q1, q2, hFr, hGb, hb⟩
    | false =>
      rw [if_neg (by rw [hd]; decide)] at hO
      obtain ⟨e1, e2, e3, e4, e5, e6⟩ := ogo_sl c o (Um.mtouch c o.m 3 4 o.sl o.s (Um.moveN o.s 1 false)) o.s
      have hG := gof_go c o (Um.mtouch c o.m 3 4 o.sl o.s (Um.moveN o.s 1 false)) o.s
      have hF := ofit_go c o (Um.mtouch c o.m 3 4 o.sl o.s (Um.moveN o.s 1 false)) o.s z d
      rw [← hO] at e1 e2 e3 e4 e5 e6 hG hF
      rw [e1, e2, e3, e4, e5, e6]
      refine (rStep9_1 w c o.m _ g cg o.sl o.s o.q o.w o.hs o.th o.tn z o.te d (o.sl + 1) 0 _ _ _ _ ⟨fun q => (by rw [hd] at q; cases q), fun _ => ⟨rfl, rfl, hG⟩⟩ hsl0 (by omega) ho.s hB hr ho.wd h1 h2 rfl).mono ?_
      rintro r w' ⟨g', cg', rfl, q1, q2, hFr, _, hGb, hb⟩
      exact ⟨g', cg', 0, z, d, rfl, hF, q1, q2, hFr, hGb, hb⟩
  · obtain rfl : y = 2 := by rw [hf.y (by omega), e]; rfl
    rw [show decide (o.nx = 6) = false by rw [e]; rfl]
    unfold Um.ostep at hO
    rw [if_neg (by omega), if_neg (by omega), if_pos e] at hO
    by_cases hp : 0 ≤ Um.penN (Um.mtouch c o.m 1 1 0 0 0).l.old
    · rw [if_pos hp] at hO
      refine (rStep9_2a w c o.m _ g cg o.sl o.s o.q o.w o.hs o.th o.tn z o.te d hp hB hr ho.wd h1 h2 rfl).mono ?_
      rintro r w' ⟨g', cg', rfl, q1, q2, hFr, _, hGb, hb⟩
      subst hO
      exact ⟨g', cg', 3, 0, false, rfl, ⟨fun _ => rfl, fun _ => ⟨(show 0 < 4 by decide), rfl, rfl⟩⟩, q1, q2, hFr, hGb, hb⟩
    · rw [if_neg hp] at hO
      refine (rStep9_2b w c o.m _ g cg o.sl o.s o.q o.w o.hs o.th o.tn z o.te d hp hB hr ho.wd h1 h2 rfl).mono ?_
      rintro r w' ⟨g', cg', rfl, q1, q2, hFr, _, hGb, hb⟩
      subst hO
      exact ⟨g', cg', 4, z, d, rfl, ⟨fun _ => rfl, (fun q => by cases q)⟩, q1, q2, hFr, hGb, hb⟩
  · obtain rfl : y = 3 := by rw [hf.y (by omega), e]; rfl
    obtain ⟨hh, rfl, hd⟩ := hf.z e
    obtain rfl : d = decide (o.hn = 4) := by rw [hd]; exact (decide_eq_false (by omega)).symm
    rw [show decide (o.nx = 6) = false by rw [e]; rfl]
    unfold Um.ostep at hO
    rw [if_neg (by omega), if_neg (by omega), if_neg (by omega), if_pos e] at hO
    obtain ⟨H, hH⟩ : ∃ H, H = Um.hstep c o.w ⟨o.m, o.hn, o.hs⟩ := ⟨_, rfl⟩
    rw [← hH] at hO
    have hHn : H.nx ≤ 4 := by rw [hH]; exact Um.hstep_nx (h := ⟨o.m, o.hn, o.hs⟩) ho.hn
    by_cases h4 : H.nx = 4
    · rw [if_pos h4] at hO
      refine (rStep9_3a w c o.m _ g cg o.sl o.s o.q o.w o.hs o.th o.tn o.te (o.hn : Int) o.hn H hH (fun _ => rfl) ho.w ho.hs ho.hn h4 hB hr ho.wd h1 h2 rfl).mono ?_
      rintro r w' ⟨g', cg', z', rfl, hz', q1, q2, hFr, _, hGb, hb⟩
      subst hO
      exact ⟨g', cg', 2, z', true, rfl, ⟨fun _ => rfl, (fun q => by cases q)⟩, q1, q2, hFr, hGb, hb⟩
    · rw [if_neg h4] at hO
      refine (rStep9_3b w c o.m _ g cg o.sl o.s o.q o.w o.hs o.th o.tn o.te (o.hn : Int) o.hn H hH (fun _ => rfl) ho.w ho.hs ho.hn h4 hB hr ho.wd h1 h2 rfl).mono ?_
      rintro r w' ⟨g', cg', z', rfl, hz', q1, q2, hFr, _, hGb, hb⟩
      subst hO
      exact ⟨g', cg', 3, z', false, rfl, ⟨fun _ => rfl, fun _ => ⟨(show H.nx < 4 by omega), hz' (by omega), rfl⟩⟩, q1, q2, hFr, hGb, hb⟩
  · obtain rfl : y = 4 := by rw [hf.y (by omega), e]; rfl
    rw [show decide (o.nx = 6) = false by rw [e]; rfl]
    unfold Um.ostep at hO
    rw [if_neg (by omega), if_neg (by omega), if_neg (by omega), if_neg (by omega), if_pos e] at hO
    refine (rStep9_4 w c o.m _ g cg o.sl o.s o.q o.w o.hs o.th o.tn z o.te d ho.q hB hr ho.wd h1 h2 rfl).mono ?_
    rintro r w' ⟨g', cg', rfl, q1, q2, hFr, _, hGb, hb⟩
    subst hO
    exact ⟨g', cg', 5, z, d, rfl, ⟨fun _ => rfl, (fun q => by cases q)⟩, q1, q2, hFr, hGb, hb⟩
  · obtain rfl : y = 5 := by rw [hf.y (by omega), e]; rfl
    rw [show decide (o.nx = 6) = false by rw [e]; rfl]
    unfold Um.ostep at hO
    rw [if_neg (by omega), if_neg (by omega), if_neg (by omega), if_neg (by omega), if_neg (by omega), if_pos e] at hO
    refine (rStep9_5 w c o.m _ g cg o.sl o.s o.q o.w o.hs o.th o.tn z o.te d ho.s hB hr ho.wd h1 h2 rfl).mono ?_
    rintro r w' ⟨g', cg', rfl, q1, q2, hFr, _, hGb, hb⟩
    subst hO
    exact ⟨g', cg', 5, z, d, rfl, ⟨fun q => absurd (show 6 < 6 from q) (by decide), (fun q => by cases q)⟩, q1, q2, hFr, hGb, hb⟩
  · rw [show decide (o.nx = 6) = true by rw [e]; rfl]
    rw [Um.ostep_6 e] at hO
    subst hO
    rw [show decide (O2.nx = 6) = true by rw [e]; rfl]
    refine (rStep9_done w c O2.m g cg O2.sl O2.s O2.q O2.w O2.hs O2.th O2.tn z O2.te d y hB hr ho.wd h1 h2).mono ?_
    rintro r w' ⟨g', cg', rfl, q1, q2, hFr, _, hGb, hb⟩
    exact ⟨g', cg', y, z, d, rfl, hf, q1, q2, hFr, hGb, hb⟩

end Go.Proofs.Ytkiaogbddfjkkaa

/-
  The walk of what is written meanwhile: into the program's words, and into the document's.
-/
namespace Go.Proofs.Ytkiaogbddfjkkaa
set_option maxRecDepth 100000
open Go.RowKit Go.Sort

/-- a memory behind what is due ahead of a step -/
def poked (c : Um.Cf) (Z : Nat → Pok) (k : Nat) (m : Um.Mm) : Nat → Um.Mm
  | 0 => m
  | j + 1 => if (Z j).st = (k : Int) then Um.mtouch c (poked c Z k m j) 2 (Z j).k (Z j).a 0 (Z j).v else poked c Z k m j

theorem Turn.cell {bs : List Nat} {w w' : World} (h : Turn bs w w') {p : Addr} (h0 : p.block < w.heap.size) (h1 : p.block ∉ bs) : w'.cell? p = w.cell? p := World.cell?_of_block (w := w) (h.block p.block h0 h1)

theorem PokesAt.turn {bs : List Nat} {w w' : World} {la : Option Addr} {nl : Nat} {Z : Nat → Pok} (h : PokesAt w la nl Z) (t : Turn bs w w') (hn : nl ≠ 0 → ∀ lb off, la = some ⟨lb, off, none⟩ → lb ∉ bs) : PokesAt w' la nl Z := by
  by_cases hn0 : nl = 0
  · exact .inl hn0
  rcases h with h0 | ⟨lb, off, rfl, hlb, hZ⟩
  · exact .inl h0
  · refine .inr ⟨lb, off, rfl, Nat.lt_of_lt_of_le hlb t.size, fun i hi => ?_⟩
    obtain ⟨⟨a1, a2, a3, a4⟩, h5⟩ := hZ i hi
    have e : ∀ o, w'.cell? ⟨lb, o, none⟩ = w.cell? ⟨lb, o, none⟩ := fun o => t.cell hlb (hn hn0 lb off rfl)
    exact ⟨⟨(e _).trans a1, (e _).trans a2, (e _).trans a3, (e _).trans a4⟩, h5⟩

/-- what was handed in is none of the call's own blocks -/
theorem PokesAt.apart {w wr : World} {l e : List (Nat × List Value)} {la : Option Addr} {nl : Nat} {Z : Nat → Pok} (h : PokesAt w la nl Z) (hS : Sx [] w wr l e) (i j : Nat) {B C : Nat} {c1 c2 : List Value} (hi : l[i]? = some (B, c1)) (hj : l[j]? = some (C, c2)) : nl ≠ 0 → ∀ lb off, la = some ⟨lb, off, none⟩ → lb ∉ [B, C] := by
  intro hn lb off hla hm
  rcases h with h0 | ⟨lb', off', e, hlb, _⟩
  · exact hn h0
  · rw [hla] at e
    simp only [Option.some.injEq, Addr.mk.injEq] at e
    obtain ⟨rfl, _⟩ := e
    have h1 := (hS.low _ (List.mem_of_getElem? hi)).resolve_left (by simp)
    have h2 := (hS.low _ (List.mem_of_getElem? hj)).resolve_left (by simp)
    rcases (by simpa using hm : lb = B ∨ lb = C) with rfl | rfl
    · exact Nat.lt_irrefl _ (Nat.lt_of_lt_of_le hlb h1)
    · exact Nat.lt_irrefl _ (Nat.lt_of_lt_of_le hlb h2)

section
variable {bs : List Nat} {w0 w : World} {l e : List (Nat × List Value)} {B C g cg : Nat} {c : Um.Cf} {m : Um.Mm}

set_option maxHeartbeats 8000000 in
theorem poked_x (hS : Sx bs w0 w l e) (i1 i2 i3 : Nat) (hi : l[i1]? = some (B, memL c C m)) (hj : l[i2]? = some (C, rowW m.ws c.n)) (hij : i1 ≠ i2) (hk : e[i3]? = some (g, rowW m.ws c.n)) (hr : c.r = true) (hw : WordsOk c m) (h1 : c.n ≤ cg) (h2 : cg ≤ maxLen)
    (la : Option Addr) (nl cl : Nat) (Z : Nat → Pok) (hnl : nl ≤ 30) (hcl : nl ≤ cl) (hP : PokesAt w la nl Z) (hB : nl ≠ 0 → ∀ lb off, la = some ⟨lb, off, none⟩ → lb ∉ [B, C]) (k : Nat) (M : Um.Mm) (hM : M = poked c Z k m nl) :
    Calls Try.prog 13 #[.pointer (some ⟨B, 0, none⟩), (.agg #[.int .i64 c.t, .int .i64 c.s, .int .i64 c.k, .int .i64 c.g, .int .u64 c.q, (.slice (some ⟨g, 0, none⟩) c.n cg), .int .i64 m.cnt, .int .i64 m.l.kind, .int .i64 m.l.a, .int .i64 m.l.b, .int .u64 (m.l.old : Nat), .int .u64 (m.l.new : Nat), .bool m.l.done]), .slice la nl cl, .int .i64 k] w fun r w' => ∃ g' cg', r = .returned ((.agg #[.int .i64 c.t, .int .i64 c.s, .int .i64 c.k, .int .i64 c.g, .int .u64 c.q, (.slice (some ⟨g', 0, none⟩) c.n cg'), .int .i64 M.cnt, .int .i64 M.l.kind, .int .i64 M.l.a, .int .i64 M.l.b, .int .u64 (M.l.old : Nat), .int .u64 (M.l.new : Nat), .bool M.l.done])) ∧ c.n ≤ cg' ∧ cg' ≤ maxLen ∧ WordsOk c M ∧ Sx bs w0 w' (putL l [(i1, B, memL c C M), (i2, C, rowW M.ws c.n)]) (e.set i3 (g', rowW M.ws c.n)) := by
  have HS := hide hS
  have HI := hide (And.intro hi (And.intro hj hk))
  have hL := hS.enter [(B, memL c C m), (C, rowW m.ws c.n)] [(g, rowW m.ws c.n)] (fun p hp => by
      rcases (by simpa using hp : p = (B, memL c C m) ∨ p = (C, rowW m.ws c.n)) with rfl | rfl
      · exact List.mem_of_getElem? hi
      · exact List.mem_of_getElem? hj) (by have := hS.ne i1 i2 hi hj hij; simp [this]) (fun p hp => by
      obtain rfl : p = _ := by simpa using hp
      exact List.mem_of_getElem? hk)
  have HR := hide hr
  have HW0 := hide hw
  have HM := hide hM
  have HP := hide hP
  have HB := hide hB
  clear hS hi hj hij hk hr hw hM hP hB
  have hS : Sx [B, C] w w [(B, memL c C m), (C, rowW m.ws c.n)] [(g, rowW m.ws c.n)] := hL
  clear hL
  go_enter Try.func13, Try.ntmps13
  go_wp2_with (first | (refine wpx_box hS rfl _ _ rfl _ rfl _ (by intro _; simp only [Act.put, List.setIfInBounds_toArray, List.set_cons_zero, List.set_cons_succ]; first | done | exact rfl) ?_; clear hS; intro _ _ hS; dsimp only [blit, List.set, List.cons_append, List.nil_append, Value.cells, List.toList_toArray] at hS) | (refine wpx_alloc hS rfl _ rfl _ (zer_any2 rfl) _ (by intro _; simp only [Act.put, List.setIfInBounds_toArray, List.set_cons_zero, List.set_cons_succ]; first | done | exact rfl) ?_; clear hS; intro _ _ hS; dsimp only [blit, List.set, List.cons_append, List.nil_append, Value.cells, List.toList_toArray] at hS) | (refine wpx_ld hS rfl _ _ rfl _ _ rfl ?_; (first | refine ⟨0, _, rfl, ?_⟩ | refine ⟨1, _, rfl, ?_⟩ | refine ⟨2, _, rfl, ?_⟩ | refine ⟨3, _, rfl, ?_⟩ | refine ⟨4, _, rfl, ?_⟩ | refine ⟨5, _, rfl, ?_⟩ | refine ⟨6, _, rfl, ?_⟩ | refine ⟨7, _, rfl, ?_⟩ | refine ⟨8, _, rfl, ?_⟩ | refine ⟨9, _, rfl, ?_⟩); first | refine .inl ⟨_, one_any2 rfl, rfl, _, (by simp only [Act.put, List.setIfInBounds_toArray, List.set_cons_zero, List.set_cons_succ]; first | done | exact rfl), ?_⟩ | refine .inr ⟨_, _, row_any2 rfl, rfl, (by dsimp only [cutL, List.drop, List.take]; first | done | exact rfl), _, (by simp only [Act.put, List.setIfInBounds_toArray, List.set_cons_zero, List.set_cons_succ]; first | done | exact rfl), ?_⟩) | (refine wpx_st hS rfl _ _ _ rfl rfl _ _ rfl ?_; (first | refine ⟨0, _, rfl, ?_⟩ | refine ⟨1, _, rfl, ?_⟩ | refine ⟨2, _, rfl, ?_⟩ | refine ⟨3, _, rfl, ?_⟩ | refine ⟨4, _, rfl, ?_⟩ | refine ⟨5, _, rfl, ?_⟩ | refine ⟨6, _, rfl, ?_⟩ | refine ⟨7, _, rfl, ?_⟩ | refine ⟨8, _, rfl, ?_⟩ | refine ⟨9, _, rfl, ?_⟩); refine ⟨_, (by first | exact shA rfl | exact shI rfl | exact shB rfl | exact shS rfl | exact shP rfl | exact shF rfl | exact shN rfl), _, siz_any2 rfl, (by exact rfl), (by exact rfl), (by exact rfl), ?_⟩; clear hS; intro _ hS; dsimp only [blit, List.set, List.cons_append, List.nil_append, Value.cells, List.toList_toArray] at hS))
  obtain ⟨RB, rfl⟩ := nameB hS 2 rfl
  obtain ⟨RR, rfl⟩ := nameB hS 3 rfl
  go_loopw [13] (fun i wr => ∃ (j : Nat) (gj cgj : Nat), j ≤ nl ∧ i = .int .i64 j ∧ c.n ≤ cgj ∧ cgj ≤ maxLen ∧ Hid (Fr w g gj) ∧ Hid (WordsOk c (poked c Z k m j)) ∧ Hid (Sx [B, C] w wr [(B, memL c C (poked c Z k m j)), (C, rowW (poked c Z k m j).ws c.n), (RB, [.int .i64 c.t, .int .i64 c.s, .int .i64 c.k, .int .i64 c.g, .int .u64 c.q, (.slice (some ⟨gj, 0, none⟩) c.n cgj), .int .i64 (poked c Z k m j).cnt, .int .i64 (poked c Z k m j).l.kind, .int .i64 (poked c Z k m j).l.a, .int .i64 (poked c Z k m j).l.b, .int .u64 ((poked c Z k m j).l.old : Nat), .int .u64 ((poked c Z k m j).l.new : Nat), .bool (poked c Z k m j).l.done]), (RR, [.int .i64 0, .int .i64 0, .int .i64 0, .int .i64 0, .int .u64 0, .slice none 0 0, .int .i64 0, .int .i64 0, .int .i64 0, .int .i64 0, .int .u64 0, .int .u64 0, .bool false])] [(gj, rowW (poked c Z k m j).ws c.n)])) (fun i _ => nl - (intOf i).toNat)
  case atStart => exact ⟨0, g, cg, Nat.zero_le _, rfl, h1, h2, hide (Fr.refl w g), HW0, hS⟩
  case round =>
    clear hS HW0 h1 h2
    rename_i wr
    obtain ⟨j, gj, cgj, hj, rfl, h1, h2, HF, HW, HS3⟩ := hrel
    have hS := unhide HS3
    clear HS3
    by_cases hlt : j < nl
    · have hlti : (j : Int) < (nl : Int) := by omega
      have hP2 := (unhide HP).turn hS.off (unhide HB)
      rcases hP2 with h0 | ⟨lb, off, rfl, hlb, hZ⟩
      · omega
      obtain ⟨⟨z0, z1, z2, z3⟩, ⟨hb0, hb1⟩, hx⟩ := hZ j hlt
      clear hZ HP HB
      have HBD := hide (And.intro hb0 hb1)
      have HX := hide hx
      rw [← Nat.add_assoc] at z1 z2 z3
      clear hb0 hb1 hx
      by_cases e1 : (Z j).st = (k : Int)
      · have HE : Hid (poked c Z k m (j + 1) = Um.mtouch c (poked c Z k m j) 2 (Z j).k (Z j).a 0 (Z j).v) := hide (by show (if (Z j).st = (k : Int) then _ else _) = _; rw [if_pos e1])
        rw [e1] at z0
        clear e1
        generalize (Z j).k = kd at *
        generalize (Z j).a = a at *
        generalize (Z j).v = x at *
        go_wp2_with (first | (refine wpx_box hS rfl _ _ rfl _ rfl _ (by intro _; simp only [Act.put, List.setIfInBounds_toArray, List.set_cons_zero, List.set_cons_succ]; first | done | exact rfl) ?_; clear hS; intro _ _ hS; dsimp only [blit, List.set, List.cons_append, List.nil_append, Value.cells, List.toList_toArray] at hS) | (refine wpx_alloc hS rfl _ rfl _ (zer_any2 rfl) _ (by intro _; simp only [Act.put, List.setIfInBounds_toArray, List.set_cons_zero, List.set_cons_succ]; first | done | exact rfl) ?_; clear hS; intro _ _ hS; dsimp only [blit, List.set, List.cons_append, List.nil_append, Value.cells, List.toList_toArray] at hS) | (refine wpx_ld hS rfl _ _ rfl _ _ rfl ?_; (first | refine ⟨0, _, rfl, ?_⟩ | refine ⟨1, _, rfl, ?_⟩ | refine ⟨2, _, rfl, ?_⟩ | refine ⟨3, _, rfl, ?_⟩ | refine ⟨4, _, rfl, ?_⟩ | refine ⟨5, _, rfl, ?_⟩ | refine ⟨6, _, rfl, ?_⟩ | refine ⟨7, _, rfl, ?_⟩ | refine ⟨8, _, rfl, ?_⟩ | refine ⟨9, _, rfl, ?_⟩); first | refine .inl ⟨_, one_any2 rfl, rfl, _, (by simp only [Act.put, List.setIfInBounds_toArray, List.set_cons_zero, List.set_cons_succ]; first | done | exact rfl), ?_⟩ | refine .inr ⟨_, _, row_any2 rfl, rfl, (by dsimp only [cutL, List.drop, List.take]; first | done | exact rfl), _, (by simp only [Act.put, List.setIfInBounds_toArray, List.set_cons_zero, List.set_cons_succ]; first | done | exact rfl), ?_⟩) | (refine wpx_st hS rfl _ _ _ rfl rfl _ _ rfl ?_; (first | refine ⟨0, _, rfl, ?_⟩ | refine ⟨1, _, rfl, ?_⟩ | refine ⟨2, _, rfl, ?_⟩ | refine ⟨3, _, rfl, ?_⟩ | refine ⟨4, _, rfl, ?_⟩ | refine ⟨5, _, rfl, ?_⟩ | refine ⟨6, _, rfl, ?_⟩ | refine ⟨7, _, rfl, ?_⟩ | refine ⟨8, _, rfl, ?_⟩ | refine ⟨9, _, rfl, ?_⟩); refine ⟨_, (by first | exact shA rfl | exact shI rfl | exact shB rfl | exact shS rfl | exact shP rfl | exact shF rfl | exact shN rfl), _, siz_any2 rfl, (by exact rfl), (by exact rfl), (by exact rfl), ?_⟩; clear hS; intro _ hS; dsimp only [blit, List.set, List.cons_append, List.nil_append, Value.cells, List.toList_toArray] at hS))
        refine (mStore_x hS 0 1 rfl rfl (by decide) (unhide HR) (unhide HW) kd a x (unhide HX) (unhide HBD).1 (unhide HBD).2 (poked c Z k m (j + 1)) (unhide HE)).mono ?_
        rintro r u ⟨rfl, hWn, hSn⟩
        clear hS
        have hS := hSn
        clear hSn
        dsimp only [putL, List.set, List.cons_append, List.nil_append] at hS
        have HW5 := hide hWn
        clear hWn
        clear z0 z1 z2 z3
        have hSz := hS.size
        go_wp2_with (first | (refine wpx_box hS rfl _ _ rfl _ rfl _ (by intro _; simp only [Act.put, List.setIfInBounds_toArray, List.set_cons_zero, List.set_cons_succ]; first | done | exact rfl) ?_; clear hS; intro _ _ hS; dsimp only [blit, List.set, List.cons_append, List.nil_append, Value.cells, List.toList_toArray] at hS) | (refine wpx_alloc hS rfl _ rfl _ (zer_any2 rfl) _ (by intro _; simp only [Act.put, List.setIfInBounds_toArray, List.set_cons_zero, List.set_cons_succ]; first | done | exact rfl) ?_; clear hS; intro _ _ hS; dsimp only [blit, List.set, List.cons_append, List.nil_append, Value.cells, List.toList_toArray] at hS) | (refine wpx_ld hS rfl _ _ rfl _ _ rfl ?_; (first | refine ⟨0, _, rfl, ?_⟩ | refine ⟨1, _, rfl, ?_⟩ | refine ⟨2, _, rfl, ?_⟩ | refine ⟨3, _, rfl, ?_⟩ | refine ⟨4, _, rfl, ?_⟩ | refine ⟨5, _, rfl, ?_⟩ | refine ⟨6, _, rfl, ?_⟩ | refine ⟨7, _, rfl, ?_⟩ | refine ⟨8, _, rfl, ?_⟩ | refine ⟨9, _, rfl, ?_⟩); first | refine .inl ⟨_, one_any2 rfl, rfl, _, (by simp only [Act.put, List.setIfInBounds_toArray, List.set_cons_zero, List.set_cons_succ]; first | done | exact rfl), ?_⟩ | refine .inr ⟨_, _, row_any2 rfl, rfl, (by dsimp only [cutL, List.drop, List.take]; first | done | exact rfl), _, (by simp only [Act.put, List.setIfInBounds_toArray, List.set_cons_zero, List.set_cons_succ]; first | done | exact rfl), ?_⟩) | (refine wpx_st hS rfl _ _ _ rfl rfl _ _ rfl ?_; (first | refine ⟨0, _, rfl, ?_⟩ | refine ⟨1, _, rfl, ?_⟩ | refine ⟨2, _, rfl, ?_⟩ | refine ⟨3, _, rfl, ?_⟩ | refine ⟨4, _, rfl, ?_⟩ | refine ⟨5, _, rfl, ?_⟩ | refine ⟨6, _, rfl, ?_⟩ | refine ⟨7, _, rfl, ?_⟩ | refine ⟨8, _, rfl, ?_⟩ | refine ⟨9, _, rfl, ?_⟩); refine ⟨_, (by first | exact shA rfl | exact shI rfl | exact shB rfl | exact shS rfl | exact shP rfl | exact shF rfl | exact shN rfl), _, siz_any2 rfl, (by exact rfl), (by exact rfl), (by exact rfl), ?_⟩; clear hS; intro _ hS; dsimp only [blit, List.set, List.cons_append, List.nil_append, Value.cells, List.toList_toArray] at hS))
        have hSz2 := hS.size
        refine (rStore_x hS 0 rfl (unhide HR) (unhide HW) h1 h2 kd a x (unhide HX) (poked c Z k m (j + 1)) (unhide HE)).mono ?_
        rintro r u ⟨gn, cgn, rfl, q1, q2, hFr, hWn, hSn⟩
        clear hS
        have hS := hSn
        clear hSn
        dsimp only [putL, List.set, List.cons_append, List.nil_append] at hS
        have HW6 := hide hWn
        clear hWn
        go_wp2_with (refine wpx_st hS rfl _ _ _ rfl rfl _ _ rfl ?_; (first | refine ⟨0, _, rfl, ?_⟩ | refine ⟨1, _, rfl, ?_⟩ | refine ⟨2, _, rfl, ?_⟩ | refine ⟨3, _, rfl, ?_⟩ | refine ⟨4, _, rfl, ?_⟩ | refine ⟨5, _, rfl, ?_⟩ | refine ⟨6, _, rfl, ?_⟩ | refine ⟨7, _, rfl, ?_⟩ | refine ⟨8, _, rfl, ?_⟩ | refine ⟨9, _, rfl, ?_⟩); refine ⟨_, (by first | exact shA rfl | exact shI rfl | exact shB rfl | exact shS rfl | exact shP rfl | exact shF rfl | exact shN rfl), _, siz_any2 rfl, (by exact rfl), (by exact rfl), (by exact rfl), ?_⟩; clear hS; intro _ hS; dsimp only [blit, List.set, List.cons_append, List.nil_append, Value.cells, List.toList_toArray] at hS)
        replace hS := hS.take 4
        dsimp only [List.take] at hS
        have HF6 := hide ((unhide HF).trans hFr hSz2)
        have HS6 := hide hS
        clear hS
        go_wp2
        exact ⟨⟨j + 1, gn, cgn, by omega, by go_num, q1, q2, HF6, HW6, HS6⟩, by simp [intOf]; omega⟩
      · have HE : poked c Z k m (j + 1) = poked c Z k m j := by show (if (Z j).st = (k : Int) then _ else _) = _; rw [if_neg e1]
        rw [← HE] at hS HW
        clear HE
        generalize (Z j).st = sj at *
        have e2 : (sj == (k : Int)) = false := by simpa using e1
        clear e1
        generalize (Z j).k = kd at *
        generalize (Z j).a = a at *
        generalize (Z j).v = x at *
        go_wp2_with (first | (refine wpx_box hS rfl _ _ rfl _ rfl _ (by intro _; simp only [Act.put, List.setIfInBounds_toArray, List.set_cons_zero, List.set_cons_succ]; first | done | exact rfl) ?_; clear hS; intro _ _ hS; dsimp only [blit, List.set, List.cons_append, List.nil_append, Value.cells, List.toList_toArray] at hS) | (refine wpx_alloc hS rfl _ rfl _ (zer_any2 rfl) _ (by intro _; simp only [Act.put, List.setIfInBounds_toArray, List.set_cons_zero, List.set_cons_succ]; first | done | exact rfl) ?_; clear hS; intro _ _ hS; dsimp only [blit, List.set, List.cons_append, List.nil_append, Value.cells, List.toList_toArray] at hS) | (refine wpx_ld hS rfl _ _ rfl _ _ rfl ?_; (first | refine ⟨0, _, rfl, ?_⟩ | refine ⟨1, _, rfl, ?_⟩ | refine ⟨2, _, rfl, ?_⟩ | refine ⟨3, _, rfl, ?_⟩ | refine ⟨4, _, rfl, ?_⟩ | refine ⟨5, _, rfl, ?_⟩ | refine ⟨6, _, rfl, ?_⟩ | refine ⟨7, _, rfl, ?_⟩ | refine ⟨8, _, rfl, ?_⟩ | refine ⟨9, _, rfl, ?_⟩); first | refine .inl ⟨_, one_any2 rfl, rfl, _, (by simp only [Act.put, List.setIfInBounds_toArray, List.set_cons_zero, List.set_cons_succ]; first | done | exact rfl), ?_⟩ | refine .inr ⟨_, _, row_any2 rfl, rfl, (by dsimp only [cutL, List.drop, List.take]; first | done | exact rfl), _, (by simp only [Act.put, List.setIfInBounds_toArray, List.set_cons_zero, List.set_cons_succ]; first | done | exact rfl), ?_⟩) | (refine wpx_st hS rfl _ _ _ rfl rfl _ _ rfl ?_; (first | refine ⟨0, _, rfl, ?_⟩ | refine ⟨1, _, rfl, ?_⟩ | refine ⟨2, _, rfl, ?_⟩ | refine ⟨3, _, rfl, ?_⟩ | refine ⟨4, _, rfl, ?_⟩ | refine ⟨5, _, rfl, ?_⟩ | refine ⟨6, _, rfl, ?_⟩ | refine ⟨7, _, rfl, ?_⟩ | refine ⟨8, _, rfl, ?_⟩ | refine ⟨9, _, rfl, ?_⟩); refine ⟨_, (by first | exact shA rfl | exact shI rfl | exact shB rfl | exact shS rfl | exact shP rfl | exact shF rfl | exact shN rfl), _, siz_any2 rfl, (by exact rfl), (by exact rfl), (by exact rfl), ?_⟩; clear hS; intro _ hS; dsimp only [blit, List.set, List.cons_append, List.nil_append, Value.cells, List.toList_toArray] at hS))
        replace hS := hS.take 4
        dsimp only [List.take] at hS
        have HF6 := hide (unhide HF)
        have HS6 := hide hS
        clear hS
        go_wp2
        exact ⟨⟨j + 1, gj, cgj, by omega, by go_num, h1, h2, HF6, HW, HS6⟩, by simp [intOf]; omega⟩
    · obtain rfl : j = nl := by omega
      have HWe := HW
      rw [← unhide HM] at hS HWe
      go_wp2_with (first | (refine wpx_box hS rfl _ _ rfl _ rfl _ (by intro _; simp only [Act.put, List.setIfInBounds_toArray, List.set_cons_zero, List.set_cons_succ]; first | done | exact rfl) ?_; clear hS; intro _ _ hS; dsimp only [blit, List.set, List.cons_append, List.nil_append, Value.cells, List.toList_toArray] at hS) | (refine wpx_alloc hS rfl _ rfl _ (zer_any2 rfl) _ (by intro _; simp only [Act.put, List.setIfInBounds_toArray, List.set_cons_zero, List.set_cons_succ]; first | done | exact rfl) ?_; clear hS; intro _ _ hS; dsimp only [blit, List.set, List.cons_append, List.nil_append, Value.cells, List.toList_toArray] at hS) | (refine wpx_ld hS rfl _ _ rfl _ _ rfl ?_; (first | refine ⟨0, _, rfl, ?_⟩ | refine ⟨1, _, rfl, ?_⟩ | refine ⟨2, _, rfl, ?_⟩ | refine ⟨3, _, rfl, ?_⟩ | refine ⟨4, _, rfl, ?_⟩ | refine ⟨5, _, rfl, ?_⟩ | refine ⟨6, _, rfl, ?_⟩ | refine ⟨7, _, rfl, ?_⟩ | refine ⟨8, _, rfl, ?_⟩ | refine ⟨9, _, rfl, ?_⟩); first | refine .inl ⟨_, one_any2 rfl, rfl, _, (by simp only [Act.put, List.setIfInBounds_toArray, List.set_cons_zero, List.set_cons_succ]; first | done | exact rfl), ?_⟩ | refine .inr ⟨_, _, row_any2 rfl, rfl, (by dsimp only [cutL, List.drop, List.take]; first | done | exact rfl), _, (by simp only [Act.put, List.setIfInBounds_toArray, List.set_cons_zero, List.set_cons_succ]; first | done | exact rfl), ?_⟩) | (refine wpx_st hS rfl _ _ _ rfl rfl _ _ rfl ?_; (first | refine ⟨0, _, rfl, ?_⟩ | refine ⟨1, _, rfl, ?_⟩ | refine ⟨2, _, rfl, ?_⟩ | refine ⟨3, _, rfl, ?_⟩ | refine ⟨4, _, rfl, ?_⟩ | refine ⟨5, _, rfl, ?_⟩ | refine ⟨6, _, rfl, ?_⟩ | refine ⟨7, _, rfl, ?_⟩ | refine ⟨8, _, rfl, ?_⟩ | refine ⟨9, _, rfl, ?_⟩); refine ⟨_, (by first | exact shA rfl | exact shI rfl | exact shB rfl | exact shS rfl | exact shP rfl | exact shF rfl | exact shN rfl), _, siz_any2 rfl, (by exact rfl), (by exact rfl), (by exact rfl), ?_⟩; clear hS; intro _ hS; dsimp only [blit, List.set, List.cons_append, List.nil_append, Value.cells, List.toList_toArray] at hS))
      have hY := hS.get 3 rfl
      refine bodyPost_ret (v := (.agg #[.int .i64 c.t, .int .i64 c.s, .int .i64 c.k, .int .i64 c.g, .int .u64 c.q, (.slice (some ⟨gj, 0, none⟩) c.n cgj), .int .i64 M.cnt, .int .i64 M.l.kind, .int .i64 M.l.a, .int .i64 M.l.b, .int .u64 (M.l.old : Nat), .int .u64 (M.l.new : Nat), .bool M.l.done])) (by simp [results, Try.results13, go_sem, hY.cell 0 _ rfl, hY.cell 1 _ rfl, hY.cell 2 _ rfl, hY.cell 3 _ rfl, hY.cell 4 _ rfl, hY.cell 5 _ rfl, hY.cell 6 _ rfl, hY.cell 7 _ rfl, hY.cell 8 _ rfl, hY.cell 9 _ rfl, hY.cell 10 _ rfl, hY.cell 11 _ rfl, hY.cell 12 _ rfl]) rfl ?_
      refine ⟨gj, cgj, rfl, h1, h2, unhide HWe, (unhide HS).mix [(i1, B, memL c C M), (i2, C, rowW M.ws c.n)] (fun u hu => ?_) hS.off (fun u hu => ?_) i3 (unhide HI).2.2 (unhide HF) (hS.getE 0 rfl)⟩
      · rcases (by simpa using hu : u = (i1, B, memL c C M) ∨ u = (i2, C, rowW M.ws c.n)) with rfl | rfl
        · exact ⟨_, (unhide HI).1⟩
        · exact ⟨_, (unhide HI).2.1⟩
      · rcases (by simpa using hu : u = (i1, B, memL c C M) ∨ u = (i2, C, rowW M.ws c.n)) with rfl | rfl
        · exact hS.get 0 rfl
        · exact hS.get 1 rfl

end

end Go.Proofs.Ytkiaogbddfjkkaa
