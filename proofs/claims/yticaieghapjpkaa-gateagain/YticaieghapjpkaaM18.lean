/-
  Texts that the laws stand on, merged (PinP, BlkO, GateMath4, OpenP9, GateMath5).
-/
import Derived.Test.YticaieghapjpkaaM12
import Derived.Test.YticaieghapjpkaaM13
import Derived.Test.YticaieghapjpkaaM3
import Derived.Test.YticaieghapjpkaaM5
import Derived.LoopTactic

/-
  The walk of what is written meanwhile: into the program's words, and into the document's.
-/
namespace Go.Proofs.Yticaieghapjpkaa
set_option maxRecDepth 100000
open Go.RowKit Go.Sort

/-- a memory behind what is due ahead of a step -/
def poked (c : Um.Cf) (Z : Nat → Pok) (k : Nat) (m : Um.Mm) : Nat → Um.Mm
  | 0 => m
  | j + 1 => if (Z j).st = (k : Int) then Um.mtouch c (poked c Z k m j) 2 (Z j).k (Z j).a 0 (Z j).v else poked c Z k m j

theorem Turn.cell {bs : List Nat} {w w' : World} (h : Turn bs w w') {p : Addr} (h0 : p.block < w.heap.size) (h1 : p.block ∉ bs) : w'.cell? p = w.cell? p := World.cell?_of_block (w := w) (h.block p.block h0 h1)

theorem PokesAt.turn {bs : List Nat} {w w' : World} {la : Option Addr} {nl : Nat} {Z : Nat → Pok} (h : PokesAt w la nl Z) (t : Turn bs w w') (hn : nl ≠ 0 → ∀ lb off, la = some ⟨lb, off, none⟩ → lb ∉ bs) : PokesAt w' la nl Z := by
  by_cases hn0 : nl = 0
  · exact .inl hn0
  rcases h with h0 | ⟨lb, off, rfl, hlb, hZ⟩
  · exact .inl h0
  · refine .inr ⟨lb, off, rfl, Nat.lt_of_lt_of_le hlb t.size, fun i hi => ?_⟩
    obtain ⟨⟨a1, a2, a3, a4⟩, h5⟩ := hZ i hi
    have e : ∀ o, w'.cell? ⟨lb, o, none⟩ = w.cell? ⟨lb, o, none⟩ := fun o => t.cell hlb (hn hn0 lb off rfl)
    exact ⟨⟨(e _).trans a1, (e _).trans a2, (e _).trans a3, (e _).trans a4⟩, h5⟩

/-- what was handed in is none of the call's own blocks -/
theorem PokesAt.apart {w wr : World} {l e : List (Nat × List Value)} {la : Option Addr} {nl : Nat} {Z : Nat → Pok} (h : PokesAt w la nl Z) (hS : Sx [] w wr l e) (i j : Nat) {B C : Nat} {c1 c2 : List Value} (hi : l[i]? = some (B, c1)) (hj : l[j]? = some (C, c2)) : nl ≠ 0 → ∀ lb off, la = some ⟨lb, off, none⟩ → lb ∉ [B, C] := by
  intro hn lb off hla hm
  rcases h with h0 | ⟨lb', off', e, hlb, _⟩
  · exact hn h0
  · rw [hla] at e
    simp only [Option.some.injEq, Addr.mk.injEq] at e
    obtain ⟨rfl, _⟩ := e
    have h1 := (hS.low _ (List.mem_of_getElem? hi)).resolve_left (by simp)
    have h2 := (hS.low _ (List.mem_of_getElem? hj)).resolve_left (by simp)
    rcases (by simpa using hm : lb = B ∨ lb = C) with rfl | rfl
    · exact Nat.lt_irrefl _ (Nat.lt_of_lt_of_le hlb h1)
    · exact Nat.lt_irrefl _ (Nat.lt_of_lt_of_le hlb h2)

section
variable {bs : List Nat} {w0 w : World} {l e : List (Nat × List Value)} {B C g cg : Nat} {c : Um.Cf} {m : Um.Mm}

set_option maxHeartbeats 8000000 in
theorem poked_x (hS : Sx bs w0 w l e) (i1 i2 i3 : Nat) (hi : l[i1]? = some (B, memL c C m)) (hj : l[i2]? = some (C, rowW m.ws c.n)) (hij : i1 ≠ i2) (hk : e[i3]? = some (g, rowW m.ws c.n)) (hr : c.r = true) (hw : WordsOk c m) (h1 : c.n ≤ cg) (h2 : cg ≤ maxLen)
    (la : Option Addr) (nl cl : Nat) (Z : Nat → Pok) (hnl : nl ≤ 30) (hcl : nl ≤ cl) (hP : PokesAt w la nl Z) (hB : nl ≠ 0 → ∀ lb off, la = some ⟨lb, off, none⟩ → lb ∉ [B, C]) (k : Nat) (M : Um.Mm) (hM : M = poked c Z k m nl) :
    Calls Try.prog 19 #[.pointer (some ⟨B, 0, none⟩), (.agg #[.int .i64 c.t, .int .i64 c.s, .int .i64 c.k, .int .i64 c.g, .int .u64 c.q, (.slice (some ⟨g, 0, none⟩) c.n cg), .int .i64 m.cnt, .int .i64 m.l.kind, .int .i64 m.l.a, .int .i64 m.l.b, .int .u64 (m.l.old : Nat), .int .u64 (m.l.new : Nat), .bool m.l.done]), .slice la nl cl, .int .i64 k] w fun r w' => ∃ g' cg', r = .returned ((.agg #[.int .i64 c.t, .int .i64 c.s, .int .i64 c.k, .int .i64 c.g, .int .u64 c.q, (.slice (some ⟨g', 0, none⟩) c.n cg'), .int .i64 M.cnt, .int .i64 M.l.kind, .int .i64 M.l.a, .int .i64 M.l.b, .int .u64 (M.l.old : Nat), .int .u64 (M.l.new : Nat), .bool M.l.done])) ∧ c.n ≤ cg' ∧ cg' ≤ maxLen ∧ WordsOk c M ∧ Sx bs w0 w' (putL l [(i1, B, memL c C M), (i2, C, rowW M.ws c.n)]) (e.set i3 (g', rowW M.ws c.n)) := by
  have HS := hide hS
  have HI := hide (And.intro hi (And.intro hj hk))
  have hL := hS.enter [(B, memL c C m), (C, rowW m.ws c.n)] [(g, rowW m.ws c.n)] (fun p hp => by
      rcases (by simpa using hp : p = (B, memL c C m) ∨ p = (C, rowW m.ws c.n)) with rfl | rfl
      · exact List.mem_of_getElem? hi
      · exact List.mem_of_getElem? hj) (by have := hS.ne i1 i2 hi hj hij; simp [this]) (fun p hp => by
      obtain rfl : p = _ := by simpa using hp
      exact List.mem_of_getElem? hk)
  have HR := hide hr
  have HW0 := hide hw
  have HM := hide hM
  have HP := hide hP
  have HB := hide hB
  clear hS hi hj hij hk hr hw hM hP hB
  have hS : Sx [B, C] w w [(B, memL c C m), (C, rowW m.ws c.n)] [(g, rowW m.ws c.n)] := hL
  clear hL
  go_enter Try.func19, Try.ntmps19
  go_wp2_with (first | (refine wpx_box hS rfl _ _ rfl _ rfl _ (by intro _; simp only [Act.put, List.setIfInBounds_toArray, List.set_cons_zero, List.set_cons_succ]; first | done | exact rfl) ?_; clear hS; intro _ _ hS; dsimp only [blit, List.set, List.cons_append, List.nil_append, Value.cells, List.toList_toArray] at hS) | (refine wpx_alloc hS rfl _ rfl _ (zer_any2 rfl) _ (by intro _; simp only [Act.put, List.setIfInBounds_toArray, List.set_cons_zero, List.set_cons_succ]; first | done | exact rfl) ?_; clear hS; intro _ _ hS; dsimp only [blit, List.set, List.cons_append, List.nil_append, Value.cells, List.toList_toArray] at hS) | (refine wpx_ld hS rfl _ _ rfl _ _ rfl ?_; (first | refine ⟨0, _, rfl, ?_⟩ | refine ⟨1, _, rfl, ?_⟩ | refine ⟨2, _, rfl, ?_⟩ | refine ⟨3, _, rfl, ?_⟩ | refine ⟨4, _, rfl, ?_⟩ | refine ⟨5, _, rfl, ?_⟩ | refine ⟨6, _, rfl, ?_⟩ | refine ⟨7, _, rfl, ?_⟩ | refine ⟨8, _, rfl, ?_⟩ | refine ⟨9, _, rfl, ?_⟩); first | refine .inl ⟨_, one_any2 rfl, rfl, _, (by simp only [Act.put, List.setIfInBounds_toArray, List.set_cons_zero, List.set_cons_succ]; first | done | exact rfl), ?_⟩ | refine .inr ⟨_, _, row_any2 rfl, rfl, (by dsimp only [cutL, List.drop, List.take]; first | done | exact rfl), _, (by simp only [Act.put, List.setIfInBounds_toArray, List.set_cons_zero, List.set_cons_succ]; first | done | exact rfl), ?_⟩) | (refine wpx_st hS rfl _ _ _ rfl rfl _ _ rfl ?_; (first | refine ⟨0, _, rfl, ?_⟩ | refine ⟨1, _, rfl, ?_⟩ | refine ⟨2, _, rfl, ?_⟩ | refine ⟨3, _, rfl, ?_⟩ | refine ⟨4, _, rfl, ?_⟩ | refine ⟨5, _, rfl, ?_⟩ | refine ⟨6, _, rfl, ?_⟩ | refine ⟨7, _, rfl, ?_⟩ | refine ⟨8, _, rfl, ?_⟩ | refine ⟨9, _, rfl, ?_⟩); refine ⟨_, (by first | exact shA rfl | exact shI rfl | exact shB rfl | exact shS rfl | exact shP rfl | exact shF rfl | exact shN rfl), _, siz_any2 rfl, (by exact rfl), (by exact rfl), (by exact rfl), ?_⟩; clear hS; intro _ hS; dsimp only [blit, List.set, List.cons_append, List.nil_append, Value.cells, List.toList_toArray] at hS))
  obtain ⟨RB, rfl⟩ := nameB hS 2 rfl
  obtain ⟨RR, rfl⟩ := nameB hS 3 rfl
  go_loopw [13] (fun i wr => ∃ (j : Nat) (gj cgj : Nat), j ≤ nl ∧ i = .int .i64 j ∧ c.n ≤ cgj ∧ cgj ≤ maxLen ∧ Hid (Fr w g gj) ∧ Hid (WordsOk c (poked c Z k m j)) ∧ Hid (Sx [B, C] w wr [(B, memL c C (poked c Z k m j)), (C, rowW (poked c Z k m j).ws c.n), (RB, [.int .i64 c.t, .int .i64 c.s, .int .i64 c.k, .int .i64 c.g, .int .u64 c.q, (.slice (some ⟨gj, 0, none⟩) c.n cgj), .int .i64 (poked c Z k m j).cnt, .int .i64 (poked c Z k m j).l.kind, .int .i64 (poked c Z k m j).l.a, .int .i64 (poked c Z k m j).l.b, .int .u64 ((poked c Z k m j).l.old : Nat), .int .u64 ((poked c Z k m j).l.new : Nat), .bool (poked c Z k m j).l.done]), (RR, [.int .i64 0, .int .i64 0, .int .i64 0, .int .i64 0, .int .u64 0, .slice none 0 0, .int .i64 0, .int .i64 0, .int .i64 0, .int .i64 0, .int .u64 0, .int .u64 0, .bool false])] [(gj, rowW (poked c Z k m j).ws c.n)])) (fun i _ => nl - (intOf i).toNat)
  case atStart => exact ⟨0, g, cg, Nat.zero_le _, rfl, h1, h2, hide (Fr.refl w g), HW0, hS⟩
  case round =>
    clear hS HW0 h1 h2
    rename_i wr
    obtain ⟨j, gj, cgj, hj, rfl, h1, h2, HF, HW, HS3⟩ := hrel
    have hS := unhide HS3
    clear HS3
    by_cases hlt : j < nl
    · have hlti : (j : Int) < (nl : Int) := by omega
      have hP2 := (unhide HP).turn hS.off (unhide HB)
      rcases hP2 with h0 | ⟨lb, off, rfl, hlb, hZ⟩
      · omega
      obtain ⟨⟨z0, z1, z2, z3⟩, ⟨hb0, hb1⟩, hx⟩ := hZ j hlt
      clear hZ HP HB
      have HBD := hide (And.intro hb0 hb1)
      have HX := hide hx
      rw [← Nat.add_assoc] at z1 z2 z3
      clear hb0 hb1 hx
      by_cases e1 : (Z j).st = (k : Int)
      · have HE : Hid (poked c Z k m (j + 1) = Um.mtouch c (poked c Z k m j) 2 (Z j).k (Z j).a 0 (Z j).v) := hide (by show (if (Z j).st = (k : Int) then _ else _) = _; rw [if_pos e1])
        rw [e1] at z0
        clear e1
        generalize (Z j).k = kd at *
        generalize (Z j).a = a at *
        generalize (Z j).v = x at *
        go_wp2_with (first | (refine wpx_box hS rfl _ _ rfl _ rfl _ (by intro _; simp only [Act.put, List.setIfInBounds_toArray, List.set_cons_zero, List.set_cons_succ]; first | done | exact rfl) ?_; clear hS; intro _ _ hS; dsimp only [blit, List.set, List.cons_append, List.nil_append, Value.cells, List.toList_toArray] at hS) | (refine wpx_alloc hS rfl _ rfl _ (zer_any2 rfl) _ (by intro _; simp only [Act.put, List.setIfInBounds_toArray, List.set_cons_zero, List.set_cons_succ]; first | done | exact rfl) ?_; clear hS; intro _ _ hS; dsimp only [blit, List.set, List.cons_append, List.nil_append, Value.cells, List.toList_toArray] at hS) | (refine wpx_ld hS rfl _ _ rfl _ _ rfl ?_; (first | refine ⟨0, _, rfl, ?_⟩ | refine ⟨1, _, rfl, ?_⟩ | refine ⟨2, _, rfl, ?_⟩ | refine ⟨3, _, rfl, ?_⟩ | refine ⟨4, _, rfl, ?_⟩ | refine ⟨5, _, rfl, ?_⟩ | refine ⟨6, _, rfl, ?_⟩ | refine ⟨7, _, rfl, ?_⟩ | refine ⟨8, _, rfl, ?_⟩ | refine ⟨9, _, rfl, ?_⟩); first | refine .inl ⟨_, one_any2 rfl, rfl, _, (by simp only [Act.put, List.setIfInBounds_toArray, List.set_cons_zero, List.set_cons_succ]; first | done | exact rfl), ?_⟩ | refine .inr ⟨_, _, row_any2 rfl, rfl, (by dsimp only [cutL, List.drop, List.take]; first | done | exact rfl), _, (by simp only [Act.put, List.setIfInBounds_toArray, List.set_cons_zero, List.set_cons_succ]; first | done | exact rfl), ?_⟩) | (refine wpx_st hS rfl _ _ _ rfl rfl _ _ rfl ?_; (first | refine ⟨0, _, rfl, ?_⟩ | refine ⟨1, _, rfl, ?_⟩ | refine ⟨2, _, rfl, ?_⟩ | refine ⟨3, _, rfl, ?_⟩ | refine ⟨4, _, rfl, ?_⟩ | refine ⟨5, _, rfl, ?_⟩ | refine ⟨6, _, rfl, ?_⟩ | refine ⟨7, _, rfl, ?_⟩ | refine ⟨8, _, rfl, ?_⟩ | refine ⟨9, _, rfl, ?_⟩); refine ⟨_, (by first | exact shA rfl | exact shI rfl | exact shB rfl | exact shS rfl | exact shP rfl | exact shF rfl | exact shN rfl), _, siz_any2 rfl, (by exact rfl), (by exact rfl), (by exact rfl), ?_⟩; clear hS; intro _ hS; dsimp only [blit, List.set, List.cons_append, List.nil_append, Value.cells, List.toList_toArray] at hS))
        refine (mStore_x hS 0 1 rfl rfl (by decide) (unhide HR) (unhide HW) kd a x (unhide HX) (unhide HBD).1 (unhide HBD).2 (poked c Z k m (j + 1)) (unhide HE)).mono ?_
        rintro r u ⟨rfl, hWn, hSn⟩
        clear hS
        have hS := hSn
        clear hSn
        dsimp only [putL, List.set, List.cons_append, List.nil_append] at hS
        have HW5 := hide hWn
        clear hWn
        clear z0 z1 z2 z3
        have hSz := hS.size
        go_wp2_with (first | (refine wpx_box hS rfl _ _ rfl _ rfl _ (by intro _; simp only [Act.put, List.setIfInBounds_toArray, List.set_cons_zero, List.set_cons_succ]; first | done | exact rfl) ?_; clear hS; intro _ _ hS; dsimp only [blit, List.set, List.cons_append, List.nil_append, Value.cells, List.toList_toArray] at hS) | (refine wpx_alloc hS rfl _ rfl _ (zer_any2 rfl) _ (by intro _; simp only [Act.put, List.setIfInBounds_toArray, List.set_cons_zero, List.set_cons_succ]; first | done | exact rfl) ?_; clear hS; intro _ _ hS; dsimp only [blit, List.set, List.cons_append, List.nil_append, Value.cells, List.toList_toArray] at hS) | (refine wpx_ld hS rfl _ _ rfl _ _ rfl ?_; (first | refine ⟨0, _, rfl, ?_⟩ | refine ⟨1, _, rfl, ?_⟩ | refine ⟨2, _, rfl, ?_⟩ | refine ⟨3, _, rfl, ?_⟩ | refine ⟨4, _, rfl, ?_⟩ | refine ⟨5, _, rfl, ?_⟩ | refine ⟨6, _, rfl, ?_⟩ | refine ⟨7, _, rfl, ?_⟩ | refine ⟨8, _, rfl, ?_⟩ | refine ⟨9, _, rfl, ?_⟩); first | refine .inl ⟨_, one_any2 rfl, rfl, _, (by simp only [Act.put, List.setIfInBounds_toArray, List.set_cons_zero, List.set_cons_succ]; first | done | exact rfl), ?_⟩ | refine .inr ⟨_, _, row_any2 rfl, rfl, (by dsimp only [cutL, List.drop, List.take]; first | done | exact rfl), _, (by simp only [Act.put, List.setIfInBounds_toArray, List.set_cons_zero, List.set_cons_succ]; first | done | exact rfl), ?_⟩) | (refine wpx_st hS rfl _ _ _ rfl rfl _ _ rfl ?_; (first | refine ⟨0, _, rfl, ?_⟩ | refine ⟨1, _, rfl, ?_⟩ | refine ⟨2, _, rfl, ?_⟩ | refine ⟨3, _, rfl, ?_⟩ | refine ⟨4, _, rfl, ?_⟩ | refine ⟨5, _, rfl, ?_⟩ | refine ⟨6, _, rfl, ?_⟩ | refine ⟨7, _, rfl, ?_⟩ | refine ⟨8, _, rfl, ?_⟩ | refine ⟨9, _, rfl, ?_⟩); refine ⟨_, (by first | exact shA rfl | exact shI rfl | exact shB rfl | exact shS rfl | exact shP rfl | exact shF rfl | exact shN rfl), _, siz_any2 rfl, (by exact rfl), (by exact rfl), (by exact rfl), ?_⟩; clear hS; intro _ hS; dsimp only [blit, List.set, List.cons_append, List.nil_append, Value.cells, List.toList_toArray] at hS))
        have hSz2 := hS.size
        refine (rStore_x hS 0 rfl (unhide HR) (unhide HW) h1 h2 kd a x (unhide HX) (poked c Z k m (j + 1)) (unhide HE)).mono ?_
        rintro r u ⟨gn, cgn, rfl, q1, q2, hFr, hWn, hSn⟩
        clear hS
        have hS := hSn
        clear hSn
        dsimp only [putL, List.set, List.cons_append, List.nil_append] at hS
        have HW6 := hide hWn
        clear hWn
        go_wp2_with (refine wpx_st hS rfl _ _ _ rfl rfl _ _ rfl ?_; (first | refine ⟨0, _, rfl, ?_⟩ | refine ⟨1, _, rfl, ?_⟩ | refine ⟨2, _, rfl, ?_⟩ | refine ⟨3, _, rfl, ?_⟩ | refine ⟨4, _, rfl, ?_⟩ | refine ⟨5, _, rfl, ?_⟩ | refine ⟨6, _, rfl, ?_⟩ | refine ⟨7, _, rfl, ?_⟩ | refine ⟨8, _, rfl, ?_⟩ | refine ⟨9, _, rfl, ?_⟩); refine ⟨_, (by first | exact shA rfl | exact shI rfl | exact shB rfl | exact shS rfl | exact shP rfl | exact shF rfl | exact shN rfl), _, siz_any2 rfl, (by exact rfl), (by exact rfl), (by exact rfl), ?_⟩; clear hS; intro _ hS; dsimp only [blit, List.set, List.cons_append, List.nil_append, Value.cells, List.toList_toArray] at hS)
        replace hS := hS.take 4
        dsimp only [List.take] at hS
        have HF6 := hide ((unhide HF).trans hFr hSz2)
        have HS6 := hide hS
        clear hS
        go_wp2
        exact ⟨⟨j + 1, gn, cgn, by omega, by go_num, q1, q2, HF6, HW6, HS6⟩, by simp [intOf]; omega⟩
      · have HE : poked c Z k m (j + 1) = poked c Z k m j := by show (if (Z j).st = (k : Int) then _ else _) = _; rw [if_neg e1]
        rw [← HE] at hS HW
        clear HE
        generalize (Z j).st = sj at *
        have e2 : (sj == (k : Int)) = false := by simpa using e1
        clear e1
        generalize (Z j).k = kd at *
        generalize (Z j).a = a at *
        generalize (Z j).v = x at *
        go_wp2_with (first | (refine wpx_box hS rfl _ _ rfl _ rfl _ (by intro _; simp only [Act.put, List.setIfInBounds_toArray, List.set_cons_zero, List.set_cons_succ]; first | done | exact rfl) ?_; clear hS; intro _ _ hS; dsimp only [blit, List.set, List.cons_append, List.nil_append, Value.cells, List.toList_toArray] at hS) | (refine wpx_alloc hS rfl _ rfl _ (zer_any2 rfl) _ (by intro _; simp only [Act.put, List.setIfInBounds_toArray, List.set_cons_zero, List.set_cons_succ]; first | done | exact rfl) ?_; clear hS; intro _ _ hS; dsimp only [blit, List.set, List.cons_append, List.nil_append, Value.cells, List.toList_toArray] at hS) | (refine wpx_ld hS rfl _ _ rfl _ _ rfl ?_; (first | refine ⟨0, _, rfl, ?_⟩ | refine ⟨1, _, rfl, ?_⟩ | refine ⟨2, _, rfl, ?_⟩ | refine ⟨3, _, rfl, ?_⟩ | refine ⟨4, _, rfl, ?_⟩ | refine ⟨5, _, rfl, ?_⟩ | refine ⟨6, _, rfl, ?_⟩ | refine ⟨7, _, rfl, ?_⟩ | refine ⟨8, _, rfl, ?_⟩ | refine ⟨9, _, rfl, ?_⟩); first | refine .inl ⟨_, one_any2 rfl, rfl, _, (by simp only [Act.put, List.setIfInBounds_toArray, List.set_cons_zero, List.set_cons_succ]; first | done | exact rfl), ?_⟩ | refine .inr ⟨_, _, row_any2 rfl, rfl, (by dsimp only [cutL, List.drop, List.take]; first | done | exact rfl), _, (by simp only [Act.put, List.setIfInBounds_toArray, List.set_cons_zero, List.set_cons_succ]; first | done | exact rfl), ?_⟩) | (refine wpx_st hS rfl _ _ _ rfl rfl _ _ rfl ?_; (first | refine ⟨0, _, rfl, ?_⟩ | refine ⟨1, _, rfl, ?_⟩ | refine ⟨2, _, rfl, ?_⟩ | refine ⟨3, _, rfl, ?_⟩ | refine ⟨4, _, rfl, ?_⟩ | refine ⟨5, _, rfl, ?_⟩ | refine ⟨6, _, rfl, ?_⟩ | refine ⟨7, _, rfl, ?_⟩ | refine ⟨8, _, rfl, ?_⟩ | refine ⟨9, _, rfl, ?_⟩); refine ⟨_, (by first | exact shA rfl | exact shI rfl | exact shB rfl | exact shS rfl | exact shP rfl | exact shF rfl | exact shN rfl), _, siz_any2 rfl, (by exact rfl), (by exact rfl), (by exact rfl), ?_⟩; clear hS; intro _ hS; dsimp only [blit, List.set, List.cons_append, List.nil_append, Value.cells, List.toList_toArray] at hS))
        replace hS := hS.take 4
        dsimp only [List.take] at hS
        have HF6 := hide (unhide HF)
        have HS6 := hide hS
        clear hS
        go_wp2
        exact ⟨⟨j + 1, gj, cgj, by omega, by go_num, h1, h2, HF6, HW, HS6⟩, by simp [intOf]; omega⟩
    · obtain rfl : j = nl := by omega
      have HWe := HW
      rw [← unhide HM] at hS HWe
      go_wp2_with (first | (refine wpx_box hS rfl _ _ rfl _ rfl _ (by intro _; simp only [Act.put, List.setIfInBounds_toArray, List.set_cons_zero, List.set_cons_succ]; first | done | exact rfl) ?_; clear hS; intro _ _ hS; dsimp only [blit, List.set, List.cons_append, List.nil_append, Value.cells, List.toList_toArray] at hS) | (refine wpx_alloc hS rfl _ rfl _ (zer_any2 rfl) _ (by intro _; simp only [Act.put, List.setIfInBounds_toArray, List.set_cons_zero, List.set_cons_succ]; first | done | exact rfl) ?_; clear hS; intro _ _ hS; dsimp only [blit, List.set, List.cons_append, List.nil_append, Value.cells, List.toList_toArray] at hS) | (refine wpx_ld hS rfl _ _ rfl _ _ rfl ?_; (first | refine ⟨0, _, rfl, ?_⟩ | refine ⟨1, _, rfl, ?_⟩ | refine ⟨2, _, rfl, ?_⟩ | refine ⟨3, _, rfl, ?_⟩ | refine ⟨4, _, rfl, ?_⟩ | refine ⟨5, _, rfl, ?_⟩ | refine ⟨6, _, rfl, ?_⟩ | refine ⟨7, _, rfl, ?_⟩ | refine ⟨8, _, rfl, ?_⟩ | refine ⟨9, _, rfl, ?_⟩); first | refine .inl ⟨_, one_any2 rfl, rfl, _, (by simp only [Act.put, List.setIfInBounds_toArray, List.set_cons_zero, List.set_cons_succ]; first | done | exact rfl), ?_⟩ | refine .inr ⟨_, _, row_any2 rfl, rfl, (by dsimp only [cutL, List.drop, List.take]; first | done | exact rfl), _, (by simp only [Act.put, List.setIfInBounds_toArray, List.set_cons_zero, List.set_cons_succ]; first | done | exact rfl), ?_⟩) | (refine wpx_st hS rfl _ _ _ rfl rfl _ _ rfl ?_; (first | refine ⟨0, _, rfl, ?_⟩ | refine ⟨1, _, rfl, ?_⟩ | refine ⟨2, _, rfl, ?_⟩ | refine ⟨3, _, rfl, ?_⟩ | refine ⟨4, _, rfl, ?_⟩ | refine ⟨5, _, rfl, ?_⟩ | refine ⟨6, _, rfl, ?_⟩ | refine ⟨7, _, rfl, ?_⟩ | refine ⟨8, _, rfl, ?_⟩ | refine ⟨9, _, rfl, ?_⟩); refine ⟨_, (by first | exact shA rfl | exact shI rfl | exact shB rfl | exact shS rfl | exact shP rfl | exact shF rfl | exact shN rfl), _, siz_any2 rfl, (by exact rfl), (by exact rfl), (by exact rfl), ?_⟩; clear hS; intro _ hS; dsimp only [blit, List.set, List.cons_append, List.nil_append, Value.cells, List.toList_toArray] at hS))
      have hY := hS.get 3 rfl
      refine bodyPost_ret (v := (.agg #[.int .i64 c.t, .int .i64 c.s, .int .i64 c.k, .int .i64 c.g, .int .u64 c.q, (.slice (some ⟨gj, 0, none⟩) c.n cgj), .int .i64 M.cnt, .int .i64 M.l.kind, .int .i64 M.l.a, .int .i64 M.l.b, .int .u64 (M.l.old : Nat), .int .u64 (M.l.new : Nat), .bool M.l.done])) (by simp [results, Try.results19, go_sem, hY.cell 0 _ rfl, hY.cell 1 _ rfl, hY.cell 2 _ rfl, hY.cell 3 _ rfl, hY.cell 4 _ rfl, hY.cell 5 _ rfl, hY.cell 6 _ rfl, hY.cell 7 _ rfl, hY.cell 8 _ rfl, hY.cell 9 _ rfl, hY.cell 10 _ rfl, hY.cell 11 _ rfl, hY.cell 12 _ rfl]) rfl ?_
      refine ⟨gj, cgj, rfl, h1, h2, unhide HWe, (unhide HS).mix [(i1, B, memL c C M), (i2, C, rowW M.ws c.n)] (fun u hu => ?_) hS.off (fun u hu => ?_) i3 (unhide HI).2.2 (unhide HF) (hS.getE 0 rfl)⟩
      · rcases (by simpa using hu : u = (i1, B, memL c C M) ∨ u = (i2, C, rowW M.ws c.n)) with rfl | rfl
        · exact ⟨_, (unhide HI).1⟩
        · exact ⟨_, (unhide HI).2.1⟩
      · rcases (by simpa using hu : u = (i1, B, memL c C M) ∨ u = (i2, C, rowW M.ws c.n)) with rfl | rfl
        · exact hS.get 0 rfl
        · exact hS.get 1 rfl

end

end Go.Proofs.Yticaieghapjpkaa

/-
  Loads from blocks that were there ahead of the call.
-/
namespace Go.Proofs.Yticaieghapjpkaa
set_option maxRecDepth 100000
open Go.RowKit Go.Sort

theorem run_load1_old {P : Program} {w : World} {b o : Nat} (ty : TypeId) (v : Value) (hc : w.cell? ⟨b, o, none⟩ = some v) (d : TypeDesc) (hu : P.underlying ty = some d) (hd : d.isRow = false) :
    (Instr.loadAt ty (.pointer (some ⟨b, o, none⟩))).run P w = .ok v w := by
  have hagg : (isAgg ty).run P w = .ok false w := by
    unfold isAgg
    rw [Sem.run_bind, run_underlying hu w]
    cases d <;> simp_all
  simp [Instr.loadAt, Instr.sureAddr, loadVar, Sem.run_bind, hagg, hc]

theorem wpx_old {P : Program} {ops : Array Oper} {rest : List Oper} {op : Oper} {a : Act} {w w0 : World} {Q : Exit → Act → World → Prop} {l e : List (Nat × List Value)}
    (hS : Sx [] w0 w l e) (hw : Region.wanted op (yielded ops a.tmps) = true) (ty : TypeId) (x : Operand) (ho : op.op = .load ty x) (b o : Nat) (hx : a.eval x = .pointer (some ⟨b, o, none⟩)) (hlt : b < w0.heap.size) (v : Value) (hc : w0.cell? ⟨b, o, none⟩ = some v) (hr : One P ty)
    (a' : Act) (ha : a.put op.dst v = a') (h : wpList P ops Q rest a' w) : wpList P ops Q (op :: rest) a w := by
  refine BigFrame.wpList_want hw fun K hK => ?_
  obtain ⟨d, hu, hd⟩ := hr
  subst ha
  have e : (execOp a.eval op).run P w = .ok (.value v) w := by
    unfold execOp
    rw [ho]
    simp [hx, run_load1_old (P := P) ty v ((hS.bel.cell (p := ⟨b, o, none⟩) hlt).trans hc) d hu hd]
  unfold Oper.wp
  rw [e]
  exact hK _ _ h

end Go.Proofs.Yticaieghapjpkaa

/-
  Plain arithmetic of layer 10: a call that is alone, to its end: what it is told, what is changed, how many steps there are. No Go in sight.
-/
namespace Um
set_option maxRecDepth 100000

theorem at_iff {c : Cf} (hr : c.r = true) {a b : Int} (h0 : 0 ≤ c.cl a b) {j : Nat} (hj : j < c.n) : (j : Int) = c.cl a b ↔ (atK c.r c.t c.s c.k (j : Int) = a ∧ atO c.r c.t c.s c.k (j : Int) = b) := by
  have hb : Rb c.r c.t c.s c.k := fun _ => by have := c.rb hr; omega
  constructor
  · intro e
    rw [e]
    exact (cell_at hb h0).2
  · rintro ⟨e1, e2⟩
    have hl : (j : Int) < clen c.r c.t c.s c.k := by have := c.n_eq; omega
    have h := at_cell hb (x := (j : Int)) (by omega) hl
    rw [e1, e2] at h
    exact h.symm

theorem ends_at {f : Nat → Bool} {n N most : Nat} (hN : f N = true) (hl : N < most) (hf : ∀ q, q < N → f q = false) (h1 : n < most → f n = true) (h2 : ∀ q, q < n → f q = false) : n = N := by
  rcases Nat.lt_trichotomy n N with h | h | h
  · have h3 := h1 (by omega)
    rw [hf n h] at h3
    cases h3
  · exact h
  · have h3 := h2 N h
    rw [hN] at h3
    cases h3

theorem alone10 {c : Cf} (hr : c.r = true) {h : Nat} {inn : Nat → Bool} (m : Mm) (A : Es) (hA : A = eit c h inn (enew m) 20) :
    edn c h A = true ∧
      ((eer c h A = 0 ∧ (∀ j, j < c.n → ((atK c.r c.t c.s c.k (j : Int) = 4 ∧ atO c.r c.t c.s c.k (j : Int) = svN h) → A.m.ws j = bzN (m.ws j)) ∧ (¬ (atK c.r c.t c.s c.k (j : Int) = 4 ∧ atO c.r c.t c.s c.k (j : Int) = svN h) → A.m.ws j = m.ws j)) ∧
          ∀ N, N ≤ 20 → (N < 20 → edn c h (eit c h inn (enew m) N) = true) → (∀ q, q < N → edn c h (eit c h inn (enew m) q) = false) → N = 2) ∨
        (eer c h A ≠ 0 ∧ (∀ j, A.m.ws j = m.ws j) ∧
          ∀ N, N ≤ 20 → (N < 20 → edn c h (eit c h inn (enew m) N) = true) → (∀ q, q < N → edn c h (eit c h inn (enew m) q) = false) → N ≤ 1)) := by
  cases hn : ook h c.s with
  | false =>
    obtain ⟨e1, e2⟩ := alone_none (c := c) (inn := inn) m hn 20
    rw [← hA] at e1
    refine ⟨by rw [e1]; exact e2, .inr ⟨?_, fun j => by rw [e1]; rfl, fun N _ _ h3 => ?_⟩⟩
    · unfold eer
      rw [hn, if_neg (by decide)]
      decide
    · rcases Nat.lt_or_ge 0 N with q | q
      · have h4 : edn c h (enew m) = false := h3 0 q
        rw [e2] at h4
        cases h4
      · omega
  | true =>
    obtain ⟨f0, f1, _⟩ := ook_facts hn
    have hc := (sl_cells hr f0 f1).1
    by_cases hf : flN h inn (m.ws (c.cl 4 (svN h)).toNat) = 0
    · obtain ⟨a1, a2, _, a4, a5⟩ := alone_enters hr m hn hf (k := 20) (by decide) A hA
      obtain ⟨b1, _⟩ := alone_enters hr m hn hf (k := 2) (by decide) _ rfl
      refine ⟨by unfold edn; rw [a1]; rfl, .inl ⟨?_, fun j hj => ?_, fun N _ h2 h3 => ?_⟩⟩
      · unfold eer
        rw [hn, if_pos rfl]
        exact a2
      · rw [a4 j]
        refine ⟨fun q => if_pos ((at_iff hr (by omega) hj).2 q), fun q => if_neg (fun e => q ((at_iff hr (by omega) hj).1 e))⟩
      · refine ends_at (f := fun q => edn c h (eit c h inn (enew m) q)) (by show edn c h _ = true; unfold edn; rw [b1]; rfl) (by decide) (fun q hq => ?_) h2 h3
        match q, hq with
        | 0, _ => show (false || !ook h c.s) = false
                  rw [hn]
                  rfl
        | 1, _ => exact a5
    · obtain ⟨a1, a2, _, a4⟩ := alone_amiss hr m hn hf (k := 20) (by decide) A hA
      obtain ⟨b1, _⟩ := alone_amiss hr m hn hf (k := 1) (by decide) _ rfl
      refine ⟨by unfold edn; rw [a1]; rfl, .inr ⟨?_, fun j => by rw [a4], fun N _ _ h3 => ?_⟩⟩
      · unfold eer
        rw [hn, if_pos rfl, a2]
        exact hf
      · rcases Nat.lt_or_ge 1 N with q | q
        · have h4 : edn c h (eit c h inn (enew m) 1) = false := h3 1 q
          unfold edn at h4
          rw [b1] at h4
          cases h4
        · exact q

end Um

/-
  What layer 9's first law is handed: how many steps there are, and what is written meanwhile.
-/
namespace Go.Proofs.Yticaieghapjpkaa
set_option maxRecDepth 100000
open Go.ChangeShapes Go.WideShapes Go.ChangeAt Go.RowKit

theorem open_turns9 {H : Type} {enc : TypeId × Value → H} {W : World} {base : Nat} {v : Value} {d : DataW H} {p : List MemPlace}
    (hv : Value.okWide Try.prog W .any base 72 v) (h : DataW.Trod enc Try.prog W 0 (fun _ => true) true 72 v d p) :
    ∃ (la : Option Addr) (nl cl : Nat) (Z : Nat → Bool), v = .slice la nl cl ∧ nl ≤ cl ∧ RowOf W la nl (fun i => .bool (Z i)) := by
  obtain ⟨a0, len0, cap0, rfl⟩ := okWide_slice Try.underlying72 hv
  obtain ⟨fuel, hf⟩ := h
  obtain ⟨la, nl, cl, Z, e, hnc, hZ⟩ := open_bools hf
  simp [Value.cells] at e
  obtain ⟨rfl, rfl, rfl⟩ := e
  exact ⟨_, _, _, Z, rfl, hnc, hZ⟩

end Go.Proofs.Yticaieghapjpkaa

/-
  Plain arithmetic of layer 10: entered, left, and entered again; all slots of one status. No Go in sight.
-/
namespace Um
set_option maxRecDepth 100000

theorem cl_nat {c : Cf} (hr : c.r = true) {f : Int} (h0 : 0 ≤ f) (h1 : f < c.s) : (((c.cl 4 f).toNat : Nat) : Int) = c.cl 4 f := by
  have := (sl_cells hr h0 h1).1
  omega

/-- who may enter is entered: its slot is busy -/
theorem in10 {c : Cf} (hr : c.r = true) {x : Nat} {inn : Nat → Bool} (hn : ook x c.s = true) {v : Nat} (m : Mm) (hv : m.ws (c.cl 4 (svN x)).toNat = v) (hf : flN x inn v = 0) (A : Es) (hA : A = eit c x inn (enew m) 20) :
    A.e = 0 ∧ A.m.ws (c.cl 4 (svN x)).toNat = bzN v := by
  obtain ⟨f0, f1, _⟩ := ook_facts hn
  obtain ⟨_, a2, _, a4, _⟩ := alone_enters hr m hn (by rw [hv]; exact hf) (k := 20) (by decide) A hA
  exact ⟨a2, by rw [a4, if_pos (cl_nat hr f0 f1), hv]⟩

/-- who may not is told so -/
theorem out10 {c : Cf} (hr : c.r = true) {x : Nat} {inn : Nat → Bool} (hn : ook x c.s = true) {v : Nat} {e : Int} (m : Mm) (hv : m.ws (c.cl 4 (svN x)).toNat = v) (hf : flN x inn v = e) (he : e ≠ 0) (A : Es) (hA : A = eit c x inn (enew m) 20) :
    A.e = e ∧ A.m.ws (c.cl 4 (svN x)).toNat = v := by
  obtain ⟨_, a2, _, a4⟩ := alone_amiss hr m hn (by rw [hv, hf]; exact he) (k := 20) (by decide) A hA
  exact ⟨by rw [a2, hv, hf], by rw [a4, hv]⟩

theorem left10 {c : Cf} (hr : c.r = true) {sl st : Int} (f0 : 0 ≤ sl) (f1 : sl < c.s) {v : Nat} (m : Mm) (hv : m.ws (c.cl 4 sl).toNat = v) (A : Ls) (hA : A = lit10 c sl st (lnew m) 20) :
    A.m.ws (c.cl 4 sl).toNat = moveN v (lst st v) false := by
  obtain ⟨_, a2, _⟩ := alone_leaves hr f0 f1 (st := st) m (k := 20) (by decide) A hA
  rw [a2, if_pos (cl_nat hr f0 f1), hv]

theorem load10 {c : Cf} (hr : c.r = true) {sl : Int} (f0 : 0 ≤ sl) (f1 : sl < c.s) {v : Nat} (m M : Mm) (hv : m.ws (c.cl 4 sl).toNat = v) (hM : M = mtouch c m 1 4 sl 0 0) : M.l.old = v ∧ M.ws (c.cl 4 sl).toNat = v := by
  have hc := (sl_cells hr f0 f1).1
  exact ⟨by rw [hM, load_old, if_pos (by omega), hv], by rw [hM, load_ws, hv]⟩

theorem fl_moved {x : Nat} {inn : Nat → Bool} (hg : tgN x = 0) {k : Nat} (h3 : 3 ≤ k) (h7 : k ≤ 7) : flN x inn (moveN busW k false) = if inn k then 0 else 4 := by
  have hp := move_parts busW k false (by omega)
  have h1 : gnN (moveN busW k false) = 0 := by rw [gn_move _ (by omega)]; exact w_facts.2.2.2.1
  have h2 : stN (moveN busW k false) = k := hp.2.1
  unfold flN
  rw [h1, h2, hp.1, if_neg (by rw [hg]; simp; omega), if_neg (by decide)]

theorem again10 {c : Cf} (hr : c.r = true) {x : Nat} (hn : ook x c.s = true) (hg : tgN x = 0) {slot : Int} (hsv : svN x = slot) {k : Nat} (h3 : 3 ≤ k) (h7 : k ≤ 7) {inn ink : Nat → Bool} (i2 : inn 2 = true) (ik : inn k = false) (kk : ink k = true)
    (m1 : Mm) (h1 : m1.ws (c.cl 4 (svN x)).toNat = actW) (A : Es) (hA : A = eit c x inn (enew m1) 20) (m2 : Mm) (hm2 : m2 = mtouch c A.m 1 4 slot 0 0) (X : Ls) (hX : X = lit10 c slot (-1) (lnew m2) 20)
    (B : Es) (hB : B = eit c x inn (enew X.m) 20) (m3 : Mm) (hm3 : m3 = mtouch c B.m 1 4 slot 0 0) (Y : Ls) (hY : Y = lit10 c slot (k : Int) (lnew m3) 20) (D : Es) (hD : D = eit c x inn (enew Y.m) 20) (E : Es) (hE : E = eit c x ink (enew D.m) 20) :
    A.e = 0 ∧ B.e = 0 ∧ D.e = 4 ∧ E.e = 0 ∧ m2.l.old = busW ∧ m3.l.old = busW := by
  subst hsv
  obtain ⟨f0, f1, _⟩ := ook_facts hn
  obtain ⟨a1, a2⟩ := in10 hr hn m1 h1 (fl_w0 hg i2) A hA
  obtain ⟨b1, b2⟩ := load10 hr f0 f1 A.m m2 a2 hm2
  have c1 := left10 hr f0 f1 m2 b2 X hX
  have c2 : moveN (bzN actW) (lst (-1) (bzN actW)) false = actW := by decide +kernel
  rw [c2] at c1
  obtain ⟨d1, d2⟩ := in10 hr hn X.m c1 (fl_w0 hg i2) B hB
  obtain ⟨e1, e2⟩ := load10 hr f0 f1 B.m m3 d2 hm3
  have g1 := left10 hr f0 f1 m3 e2 Y hY
  have g2 : lst (k : Int) (bzN actW) = k := by unfold lst; rw [if_neg (by omega)]; omega
  rw [g2] at g1
  obtain ⟨k1, k2⟩ := out10 hr hn (e := 4) Y.m g1 (by show flN x inn (moveN busW k false) = 4; rw [fl_moved hg h3 h7, ik]; rfl) (by decide) D hD
  obtain ⟨l1, _⟩ := in10 hr hn D.m k2 (by show flN x ink (moveN busW k false) = 0; rw [fl_moved hg h3 h7, kk]; rfl) E hE
  exact ⟨a1, d1, k1, l1, b1, e1⟩

/-- a word into the Statuses of the first j slots -/
def fill10 (c : Cf) (v : Nat) (m : Mm) : Nat → Mm
  | 0 => m
  | j + 1 => mtouch c (fill10 c v m j) 2 4 (j : Int) 0 v

theorem cl_inj {c : Cf} (hr : c.r = true) {f g : Int} (h0 : 0 ≤ f) (h1 : f < c.s) (g0 : 0 ≤ g) (g1 : g < c.s) (h : c.cl 4 f = c.cl 4 g) : f = g := by
  have hb := c.rb hr
  unfold Cf.cl cellN at h
  rw [hr] at h
  simp [h0, h1, g0, g1] at h
  omega

theorem fill_at {c : Cf} (hr : c.r = true) (v : Nat) (m : Mm) : ∀ j : Nat, (j : Int) ≤ c.s → ∀ i : Nat, i < j → (fill10 c v m j).ws (c.cl 4 (i : Int)).toNat = v := by
  intro j
  induction j with
  | zero => intro _ i hi; omega
  | succ j ih =>
    intro hj i hi
    show (mtouch c (fill10 c v m j) 2 4 (j : Int) 0 v).ws _ = v
    rw [put_ws, cl_nat hr (by omega) (by omega)]
    by_cases e : c.cl 4 (i : Int) = c.cl 4 (j : Int)
    · rw [if_pos e]
    · rw [if_neg e]
      have hij : i ≠ j := fun q => e (by rw [q])
      exact ih (by omega) i (by omega)

theorem fill_ok {c : Cf} {v : Nat} {m : Mm} (hv : Word v) (h : ∀ i, i < c.n → Word (m.ws i)) (j : Nat) : ∀ i, i < c.n → Word ((fill10 c v m j).ws i) := by
  induction j with
  | zero => exact h
  | succ j ih => exact word_touch ih hv

/-- what a ticket is told, all slots being of one status -/
theorem stale10 {c : Cf} (hr : c.r = true) {x : Nat} {inn : Nat → Bool} {v : Nat} {m : Mm} (A : Es) (hA : A = eit c x inn (enew (fill10 c v m c.s.toNat)) 20) :
    edn c x A = true ∧ eer c x A = if ook x c.s = true then flN x inn v else 2 := by
  cases hn : ook x c.s with
  | false =>
    obtain ⟨e1, e2⟩ := alone_none (c := c) (inn := inn) (fill10 c v m c.s.toNat) hn 20
    rw [← hA] at e1
    refine ⟨by rw [e1]; exact e2, ?_⟩
    unfold eer
    rw [hn, if_neg (by decide), if_neg (by decide)]
  | true =>
    obtain ⟨f0, f1, _⟩ := ook_facts hn
    have hv : (fill10 c v m c.s.toNat).ws (c.cl 4 (svN x)).toNat = v := by
      have h := fill_at hr v m c.s.toNat (by omega) (svN x).toNat (by omega)
      rwa [show (((svN x).toNat : Nat) : Int) = svN x by omega] at h
    obtain ⟨a1, a2⟩ := alone_told hr (inn := inn) (fill10 c v m c.s.toNat) hn (k := 20) (by decide) A hA
    refine ⟨by unfold edn; rw [a1]; rfl, ?_⟩
    unfold eer
    rw [hn, if_pos rfl, if_pos rfl, a2, hv]

end Um
