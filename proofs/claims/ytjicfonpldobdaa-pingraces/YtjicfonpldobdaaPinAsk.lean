/-
  The document's grace: one step of it, beside the program's.
-/
import Derived.Test.YtjicfonpldobdaaPinRG
namespace Go.Proofs.Ytjicfonpldobdaa
set_option maxRecDepth 100000
open Go.RowKit Go.Sort

theorem rAsk7 (w : World) (c : Um.Cf) (m : Um.Mm) (g cg : Nat) (own : Int) (ret : Nat) (p oth : Int) (later : Bool) (S : Um.Gs) (hs : S = Um.gask c own ret ⟨m, oth, later⟩) (hrel : later = false → oth = Um.goTo own p)
    (hB : BlkAt w g (rowW m.ws c.n)) (hr : c.r = true) (hw : WordsOk c m) (h1 : c.n ≤ cg) (h2 : cg ≤ maxLen) (h3 : 0 ≤ p) (h4 : p ≤ 10) :
    Calls Try.prog 34 #[.agg #[.int .i64 own, .int .u64 (ret : Nat), .int .i64 p, .bool later], (.agg #[.int .i64 c.t, .int .i64 c.s, .int .i64 c.k, .int .i64 c.g, .int .u64 c.q, (.slice (some ⟨g, 0, none⟩) c.n cg), .int .i64 m.cnt, .int .i64 m.l.kind, .int .i64 m.l.a, .int .i64 m.l.b, .int .u64 (m.l.old : Nat), .int .u64 (m.l.new : Nat), .bool m.l.done])] w fun r w' => ∃ g' cg' p', r = .returned (.tuple #[.agg #[.int .i64 own, .int .u64 (ret : Nat), .int .i64 p', .bool S.later], (.agg #[.int .i64 c.t, .int .i64 c.s, .int .i64 c.k, .int .i64 c.g, .int .u64 c.q, (.slice (some ⟨g', 0, none⟩) c.n cg'), .int .i64 S.m.cnt, .int .i64 S.m.l.kind, .int .i64 S.m.l.a, .int .i64 S.m.l.b, .int .u64 (S.m.l.old : Nat), .int .u64 (S.m.l.new : Nat), .bool S.m.l.done])]) ∧ (0 ≤ p' ∧ p' ≤ 10) ∧ (S.later = false → S.oth = Um.goTo own p') ∧ c.n ≤ cg' ∧ cg' ≤ maxLen ∧ Fr w g g' ∧ WordsOk c S.m ∧ BlkAt w' g' (rowW S.m.ws c.n) ∧ Below w.heap.size w w' := by
  by_cases hd : Um.gdone c oth later = true
  · have hS : S = ⟨m, oth, later⟩ := by rw [hs]; unfold Um.gask; rw [if_pos hd]
    subst hS
    have hd2 : (later || decide (c.t ≤ Um.goTo own p)) = true := by
      cases hl : later with
      | true => rfl
      | false =>
        rw [hl] at hd
        rw [← hrel hl]
        exact hd
    refine (rAsk7_done w c m g cg own ret p later hd2 hB hr hw h1 h2 h3 (by omega)).mono ?_
    rintro r w' ⟨g', cg', rfl, q1, q2, q3, q4, q5, q6⟩
    exact ⟨g', cg', p, rfl, ⟨h3, h4⟩, hrel, q1, q2, q3, q4, q5, q6⟩
  · have hl : later = false := by
      cases h : later with
      | false => rfl
      | true => rw [h] at hd; exact absurd rfl hd
    subst hl
    have ho := hrel rfl
    subst ho
    have hlt : ¬ c.t ≤ Um.goTo own p := by
      unfold Um.gdone at hd
      simpa using hd
    have hb := c.rb hr
    have hge : 0 ≤ Um.goTo own p := by unfold Um.goTo; split <;> omega
    have hwd : Um.Word (Um.mtouch c m 1 3 (Um.goTo own p) 0 0).l.old := Um.old_word hw
    have hS : S = if Um.holdsW (Um.mtouch c m 1 3 (Um.goTo own p) 0 0).l.old ret = true then ⟨Um.mtouch c m 1 3 (Um.goTo own p) 0 0, Um.goTo own p, true⟩ else ⟨Um.mtouch c m 1 3 (Um.goTo own p) 0 0, Um.goTo own (Um.goTo own p + 1), false⟩ := by
      rw [hs]; unfold Um.gask; rw [if_neg hd]
    by_cases e0 : (Um.mtouch c m 1 3 (Um.goTo own p) 0 0).l.old = 0
    · have hS2 : S = ⟨Um.mtouch c m 1 3 (Um.goTo own p) 0 0, Um.goTo own (Um.goTo own p + 1), false⟩ := by
        rw [hS, if_neg (by rw [e0]; simp [Um.holdsW])]
      subst hS2
      refine (rAsk7_zero w c m _ g cg own ret p hlt e0 hB hr hw h1 h2 h3 (by omega) rfl).mono ?_
      rintro r w' ⟨g', cg', rfl, q1, q2, q3, q4, q5, q6⟩
      exact ⟨g', cg', _, rfl, ⟨by omega, by omega⟩, fun _ => rfl, q1, q2, q3, q4, q5, q6⟩
    · obtain ⟨q, hq⟩ : ∃ q, (Um.mtouch c m 1 3 (Um.goTo own p) 0 0).l.old = q + 1 := ⟨_, (Nat.succ_pred_eq_of_pos (Nat.pos_of_ne_zero e0)).symm⟩
      have hh : Um.holdsW (q + 1) ret = decide (q ≤ ret) := by unfold Um.holdsW; simp
      rw [hq, hh] at hS
      rw [hq] at hwd
      refine (rAsk7_more w c m _ g cg own ret p hlt q hq hwd hB hr hw h1 h2 h3 (by omega) rfl).mono ?_
      rintro r w' ⟨g', cg', rfl, q1, q2, q3, q4, q5, q6⟩
      by_cases e1 : q ≤ ret
      · have hS2 : S = ⟨Um.mtouch c m 1 3 (Um.goTo own p) 0 0, Um.goTo own p, true⟩ := by rw [hS, if_pos (by simpa using e1)]
        subst hS2
        rw [decide_eq_true e1]
        exact ⟨g', cg', _, rfl, ⟨by omega, by omega⟩, (fun h => by cases h), q1, q2, q3, q4, q5, q6⟩
      · have hS2 : S = ⟨Um.mtouch c m 1 3 (Um.goTo own p) 0 0, Um.goTo own (Um.goTo own p + 1), false⟩ := by rw [hS, if_neg (by simpa using e1)]
        subst hS2
        rw [decide_eq_false e1]
        exact ⟨g', cg', _, rfl, ⟨by omega, by omega⟩, fun _ => rfl, q1, q2, q3, q4, q5, q6⟩

theorem gask_oth (c : Um.Cf) (own : Int) (ret : Nat) (s : Um.Gs) (h : 0 ≤ s.oth) : 0 ≤ (Um.gask c own ret s).oth := by
  unfold Um.gask
  split
  · exact h
  · split
    · exact h
    · show 0 ≤ Um.goTo own (s.oth + 1)
      unfold Um.goTo
      split <;> omega

theorem done_same (c : Um.Cf) (own : Int) (oth p : Int) (l : Bool) (h : l = false → oth = Um.goTo own p) : (l || decide (c.t ≤ Um.goTo own p)) = Um.gdone c oth l := by
  cases hl : l with
  | true => rfl
  | false => rw [h hl]; rfl

end Go.Proofs.Ytjicfonpldobdaa
