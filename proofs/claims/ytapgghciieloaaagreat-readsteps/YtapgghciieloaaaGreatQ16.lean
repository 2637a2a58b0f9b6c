/-
  Texts that the laws stand on, merged (JoinB, JoinX, MarkMath, MarkA, MarkB, MarkC, MarkD, ReadS).
-/
import Derived.Test.YtapgghciieloaaaGreatQ1
import Derived.Test.YtapgghciieloaaaGreatQ11
import Derived.Test.YtapgghciieloaaaGreatQ12
import Derived.Test.YtapgghciieloaaaGreatQ15
import Derived.Test.YtapgghciieloaaaGreatQ9
import Derived.BigQuiet
import Derived.BigRegion
import Derived.Lib.QuietBelow
import Derived.LoopIn
import Derived.LoopNIn
import Derived.LoopTactic
import Derived.Maps.AppendAt
import Derived.OwnWalk
import Derived.OwnWalkIn
import Derived.RangeFuncBound
import Derived.RangeFuncBox
import Derived.RangeFuncCalls
import Derived.RangeFuncLeaves
import Derived.RangeFuncNested
import Derived.RegionTactic
import Derived.Shelf.Abstract
import Derived.Shelf.RegionOpen
import Derived.TacticsInMore
import Derived.WalkKit

namespace Go.Proofs.YtapgghciieloaaaGreat
section
set_option maxRecDepth 100000
open Go.RowKit Go.Sort
set_option linter.unusedVariables false
set_option linter.unusedSimpArgs false
def jgF (sd b : Int) (s : Nat) : Value := if Um.hasN s sd b = true then .nilFunc else if Um.stN s ≠ 2 ∧ Um.anyN s (1 - sd) = true then .nilFunc else .func (.func 170) #[] #[]
def jgR (sd b : Int) (s : Nat) (rr : Int) : Int := if Um.hasN s sd b = true then 2 else if Um.stN s ≠ 2 ∧ Um.anyN s (1 - sd) = true then 3 else rr
section
variable {bs : List Nat} {w0 w : World} {l e : List (Nat × List Value)} {B C P : Nat} {c : Um.Cf} {m : Um.Mm} {sl sd b rr : Int} {s sn : Nat} {fn : Value} {tl : List Value}
theorem jJudge_any (hS : Sx bs w0 w l e) (k : Nat) (hk : l[k]? = some (P, [.int .i64 sl, .int .i64 sd, .int .i64 b, .int .u64 (s : Nat), .int .u64 (sn : Nat), fn, .int .i64 rr])) (hs : Um.Word s) (hd0 : -1 ≤ sd) (hd1 : sd ≤ 2) :
    Calls Tryz.prog 159 #[.pointer (some ⟨P, 0, none⟩)] w fun r w' => r = .returned (.tuple #[]) ∧ Sx bs w0 w' (putL l [(k, P, [.int .i64 sl, .int .i64 sd, .int .i64 b, .int .u64 (s : Nat), .int .u64 (sn : Nat), jgF sd b s, .int .i64 (jgR sd b s rr)])]) e := by
  unfold jgF jgR
  cases hh : Um.hasN s sd b with
  | true =>
    rw [if_pos rfl, if_pos rfl]
    exact jJudge_l hS k hk hs hd0 hd1 hh
  | false =>
    have e1 : ¬ (false = true) := by decide
    rw [if_neg e1, if_neg e1]
    by_cases h2 : Um.stN s = 2
    · have e2 : ¬ (Um.stN s ≠ 2 ∧ Um.anyN s (1 - sd) = true) := fun q => q.1 h2
      rw [if_neg e2, if_neg e2]
      exact jJudge_2 hS k hk hs hd0 hd1 hh h2
    · by_cases ha : Um.anyN s (1 - sd) = true
      · have e3 : Um.stN s ≠ 2 ∧ Um.anyN s (1 - sd) = true := ⟨h2, ha⟩
        rw [if_pos e3, if_pos e3]
        exact jJudge_f hS k hk hs hd0 hd1 hh h2 ha
      · have e3 : ¬ (Um.stN s ≠ 2 ∧ Um.anyN s (1 - sd) = true) := fun q => ha q.2
        rw [if_neg e3, if_neg e3]
        exact jJudge_n hS k hk hs hd0 hd1 hh h2 (by simpa using ha)
set_option maxHeartbeats 4000000 in
theorem jAsk_4 (hS : Sx bs w0 w l e) (i j k : Nat) (hi : l[i]? = some (B, memL c C m)) (hj : l[j]? = some (C, rowW m.ws c.n)) (hk : l[k]? = some (P, [.int .i64 sl, .int .i64 sd, .int .i64 b, .int .u64 (s : Nat), .int .u64 (sn : Nat), fn, .int .i64 rr])) (hij : i ≠ j) (hik : i ≠ k) (hjk : j ≠ k) (hr : c.r = true) (hw : WordsOk c m) (hb0 : -9223372036854775808 ≤ sl) (hb1 : sl ≤ 9223372036854775807) (M : Um.Mm) (hM : M = Um.mtouch c m 1 4 sl 0 0) (hd0 : -1 ≤ sd) (hd1 : sd ≤ 2) (h2 : Um.stN M.l.old = 4) :
    Calls Tryz.prog 148 #[.pointer (some ⟨P, 0, none⟩), .pointer (some ⟨B, 0, none⟩)] w fun r w' => r = .returned (.tuple #[]) ∧ WordsOk c M ∧ Sx bs w0 w' (putL l [(i, B, memL c C M), (j, C, rowW M.ws c.n), (k, P, [.int .i64 sl, .int .i64 sd, .int .i64 b, .int .u64 (M.l.old : Nat), .int .u64 (sn : Nat), .func (.func 158) #[] #[], .int .i64 rr])]) e := by
  have HO := hide (show Um.Word (Um.mtouch c m 1 4 sl 0 0).l.old from Um.old_word hw)
  rw [← hM] at HO
  have hq : Um.stN M.l.old = Um.part M.l.old 27 3 := rfl
  have a0 : ((Um.part M.l.old 27 3 : Nat) : Int) = 4 := by omega
  have b0 : (((Um.part M.l.old 27 3 : Nat) : Int) == 4) = true := by simpa using a0
  clear hq h2
  have HS := hide hS
  have HI := hide (And.intro hi (And.intro hj hk))
  have hL := hS.enter3 i j k hi hj hk hij hik hjk
  have HR := hide hr
  have HW := hide hw
  have HM := hide hM
  have HBD := hide (And.intro hb0 hb1)
  have HDD := hide (And.intro hd0 hd1)
  clear hS hi hj hk hr hw hM hb0 hb1 hd0 hd1
  have hS := hL
  clear hL
  go_enter Tryz.func148, Tryz.ntmps148
  go_wp2_with (first | (refine ybox hS (h := ?_); clear hS; intro _ _ hS) | (refine yall hS (h := ?_); clear hS; intro _ _ hS) | refine yld hS (h := ?_) | (refine yst hS (h := ?_); clear hS; intro _ hS))
  refine (jLook_x hS 0 1 2 rfl rfl rfl (by decide) (by decide) (by decide) (unhide HR) (unhide HW) (unhide HBD).1 (unhide HBD).2 M (unhide HM)).mono ?_
  rintro r u ⟨rfl, hWn, hSn⟩
  clear hS
  have hS := hSn
  clear hSn
  dsimp only [putL, List.set, List.cons_append, List.nil_append] at hS
  have HW6 := hide hWn
  clear hWn
  go_wp2_with (first | (refine ybox hS (h := ?_); clear hS; intro _ _ hS) | (refine yall hS (h := ?_); clear hS; intro _ _ hS) | refine yld hS (h := ?_) | (refine yst hS (h := ?_); clear hS; intro _ hS))
  refine (jState_b (hS.get 2 rfl) (unhide HO)).mono ?_
  rintro r u ⟨rfl, hb⟩
  replace hS := hS.call hb
  clear hb
  go_wp2_with (first | (refine ybox hS (h := ?_); clear hS; intro _ _ hS) | (refine yall hS (h := ?_); clear hS; intro _ _ hS) | refine yld hS (h := ?_) | (refine yst hS (h := ?_); clear hS; intro _ hS))
  first | go_end0 | ((try simp only [Exit.inBlock, Exit.then]); refine bodyPost_ret (results_none rfl _ _ _) rfl ?_)
  exact ⟨rfl, unhide HW6, (unhide HS).back3 i j k (unhide HI).1 (unhide HI).2.1 (unhide HI).2.2 hS⟩
set_option maxHeartbeats 4000000 in
theorem jAsk_2 (hS : Sx bs w0 w l e) (i j k : Nat) (hi : l[i]? = some (B, memL c C m)) (hj : l[j]? = some (C, rowW m.ws c.n)) (hk : l[k]? = some (P, [.int .i64 sl, .int .i64 sd, .int .i64 b, .int .u64 (s : Nat), .int .u64 (sn : Nat), fn, .int .i64 rr])) (hij : i ≠ j) (hik : i ≠ k) (hjk : j ≠ k) (hr : c.r = true) (hw : WordsOk c m) (hb0 : -9223372036854775808 ≤ sl) (hb1 : sl ≤ 9223372036854775807) (M : Um.Mm) (hM : M = Um.mtouch c m 1 4 sl 0 0) (hd0 : -1 ≤ sd) (hd1 : sd ≤ 2) (h2 : Um.stN M.l.old = 2) :
    Calls Tryz.prog 148 #[.pointer (some ⟨P, 0, none⟩), .pointer (some ⟨B, 0, none⟩)] w fun r w' => r = .returned (.tuple #[]) ∧ WordsOk c M ∧ Sx bs w0 w' (putL l [(i, B, memL c C M), (j, C, rowW M.ws c.n), (k, P, [.int .i64 sl, .int .i64 sd, .int .i64 b, .int .u64 (M.l.old : Nat), .int .u64 (sn : Nat), jgF sd b M.l.old, .int .i64 (jgR sd b M.l.old rr)])]) e := by
  have HO := hide (show Um.Word (Um.mtouch c m 1 4 sl 0 0).l.old from Um.old_word hw)
  rw [← hM] at HO
  have hq : Um.stN M.l.old = Um.part M.l.old 27 3 := rfl
  have a0 : ¬ ((Um.part M.l.old 27 3 : Nat) : Int) = 4 := by omega
  have b0 : (((Um.part M.l.old 27 3 : Nat) : Int) == 4) = false := by simpa using a0
  have a1 : ((Um.part M.l.old 27 3 : Nat) : Int) = 2 := by omega
  have b1 : (((Um.part M.l.old 27 3 : Nat) : Int) == 2) = true := by simpa using a1
  clear hq h2
  have HS := hide hS
  have HI := hide (And.intro hi (And.intro hj hk))
  have hL := hS.enter3 i j k hi hj hk hij hik hjk
  have HR := hide hr
  have HW := hide hw
  have HM := hide hM
  have HBD := hide (And.intro hb0 hb1)
  have HDD := hide (And.intro hd0 hd1)
  clear hS hi hj hk hr hw hM hb0 hb1 hd0 hd1
  have hS := hL
  clear hL
  go_enter Tryz.func148, Tryz.ntmps148
  go_wp2_with (first | (refine ybox hS (h := ?_); clear hS; intro _ _ hS) | (refine yall hS (h := ?_); clear hS; intro _ _ hS) | refine yld hS (h := ?_) | (refine yst hS (h := ?_); clear hS; intro _ hS))
  refine (jLook_x hS 0 1 2 rfl rfl rfl (by decide) (by decide) (by decide) (unhide HR) (unhide HW) (unhide HBD).1 (unhide HBD).2 M (unhide HM)).mono ?_
  rintro r u ⟨rfl, hWn, hSn⟩
  clear hS
  have hS := hSn
  clear hSn
  dsimp only [putL, List.set, List.cons_append, List.nil_append] at hS
  have HW6 := hide hWn
  clear hWn
  go_wp2_with (first | (refine ybox hS (h := ?_); clear hS; intro _ _ hS) | (refine yall hS (h := ?_); clear hS; intro _ _ hS) | refine yld hS (h := ?_) | (refine yst hS (h := ?_); clear hS; intro _ hS))
  refine (jState_b (hS.get 2 rfl) (unhide HO)).mono ?_
  rintro r u ⟨rfl, hb⟩
  replace hS := hS.call hb
  clear hb
  go_wp2_with (first | (refine ybox hS (h := ?_); clear hS; intro _ _ hS) | (refine yall hS (h := ?_); clear hS; intro _ _ hS) | refine yld hS (h := ?_) | (refine yst hS (h := ?_); clear hS; intro _ hS))
  refine (jJudge_any hS 2 rfl (unhide HO) (unhide HDD).1 (unhide HDD).2).mono ?_
  rintro r u ⟨rfl, hSn⟩
  clear hS
  have hS := hSn
  clear hSn
  dsimp only [putL, List.set, List.cons_append, List.nil_append] at hS
  go_wp2_with (first | (refine ybox hS (h := ?_); clear hS; intro _ _ hS) | (refine yall hS (h := ?_); clear hS; intro _ _ hS) | refine yld hS (h := ?_) | (refine yst hS (h := ?_); clear hS; intro _ hS))
  first | go_end0 | ((try simp only [Exit.inBlock, Exit.then]); refine bodyPost_ret (results_none rfl _ _ _) rfl ?_)
  exact ⟨rfl, unhide HW6, (unhide HS).back3 i j k (unhide HI).1 (unhide HI).2.1 (unhide HI).2.2 hS⟩
set_option maxHeartbeats 4000000 in
theorem jAsk_3 (hS : Sx bs w0 w l e) (i j k : Nat) (hi : l[i]? = some (B, memL c C m)) (hj : l[j]? = some (C, rowW m.ws c.n)) (hk : l[k]? = some (P, [.int .i64 sl, .int .i64 sd, .int .i64 b, .int .u64 (s : Nat), .int .u64 (sn : Nat), fn, .int .i64 rr])) (hij : i ≠ j) (hik : i ≠ k) (hjk : j ≠ k) (hr : c.r = true) (hw : WordsOk c m) (hb0 : -9223372036854775808 ≤ sl) (hb1 : sl ≤ 9223372036854775807) (M : Um.Mm) (hM : M = Um.mtouch c m 1 4 sl 0 0) (hd0 : -1 ≤ sd) (hd1 : sd ≤ 2) (h2 : Um.stN M.l.old = 3) :
    Calls Tryz.prog 148 #[.pointer (some ⟨P, 0, none⟩), .pointer (some ⟨B, 0, none⟩)] w fun r w' => r = .returned (.tuple #[]) ∧ WordsOk c M ∧ Sx bs w0 w' (putL l [(i, B, memL c C M), (j, C, rowW M.ws c.n), (k, P, [.int .i64 sl, .int .i64 sd, .int .i64 b, .int .u64 (M.l.old : Nat), .int .u64 (sn : Nat), jgF sd b M.l.old, .int .i64 (jgR sd b M.l.old rr)])]) e := by
  have HO := hide (show Um.Word (Um.mtouch c m 1 4 sl 0 0).l.old from Um.old_word hw)
  rw [← hM] at HO
  have hq : Um.stN M.l.old = Um.part M.l.old 27 3 := rfl
  have a0 : ¬ ((Um.part M.l.old 27 3 : Nat) : Int) = 4 := by omega
  have b0 : (((Um.part M.l.old 27 3 : Nat) : Int) == 4) = false := by simpa using a0
  have a1 : ¬ ((Um.part M.l.old 27 3 : Nat) : Int) = 2 := by omega
  have b1 : (((Um.part M.l.old 27 3 : Nat) : Int) == 2) = false := by simpa using a1
  have a2 : ((Um.part M.l.old 27 3 : Nat) : Int) = 3 := by omega
  have b2 : (((Um.part M.l.old 27 3 : Nat) : Int) == 3) = true := by simpa using a2
  clear hq h2
  have HS := hide hS
  have HI := hide (And.intro hi (And.intro hj hk))
  have hL := hS.enter3 i j k hi hj hk hij hik hjk
  have HR := hide hr
  have HW := hide hw
  have HM := hide hM
  have HBD := hide (And.intro hb0 hb1)
  have HDD := hide (And.intro hd0 hd1)
  clear hS hi hj hk hr hw hM hb0 hb1 hd0 hd1
  have hS := hL
  clear hL
  go_enter Tryz.func148, Tryz.ntmps148
  go_wp2_with (first | (refine ybox hS (h := ?_); clear hS; intro _ _ hS) | (refine yall hS (h := ?_); clear hS; intro _ _ hS) | refine yld hS (h := ?_) | (refine yst hS (h := ?_); clear hS; intro _ hS))
  refine (jLook_x hS 0 1 2 rfl rfl rfl (by decide) (by decide) (by decide) (unhide HR) (unhide HW) (unhide HBD).1 (unhide HBD).2 M (unhide HM)).mono ?_
  rintro r u ⟨rfl, hWn, hSn⟩
  clear hS
  have hS := hSn
  clear hSn
  dsimp only [putL, List.set, List.cons_append, List.nil_append] at hS
  have HW6 := hide hWn
  clear hWn
  go_wp2_with (first | (refine ybox hS (h := ?_); clear hS; intro _ _ hS) | (refine yall hS (h := ?_); clear hS; intro _ _ hS) | refine yld hS (h := ?_) | (refine yst hS (h := ?_); clear hS; intro _ hS))
  refine (jState_b (hS.get 2 rfl) (unhide HO)).mono ?_
  rintro r u ⟨rfl, hb⟩
  replace hS := hS.call hb
  clear hb
  go_wp2_with (first | (refine ybox hS (h := ?_); clear hS; intro _ _ hS) | (refine yall hS (h := ?_); clear hS; intro _ _ hS) | refine yld hS (h := ?_) | (refine yst hS (h := ?_); clear hS; intro _ hS))
  refine (jJudge_any hS 2 rfl (unhide HO) (unhide HDD).1 (unhide HDD).2).mono ?_
  rintro r u ⟨rfl, hSn⟩
  clear hS
  have hS := hSn
  clear hSn
  dsimp only [putL, List.set, List.cons_append, List.nil_append] at hS
  go_wp2_with (first | (refine ybox hS (h := ?_); clear hS; intro _ _ hS) | (refine yall hS (h := ?_); clear hS; intro _ _ hS) | refine yld hS (h := ?_) | (refine yst hS (h := ?_); clear hS; intro _ hS))
  first | go_end0 | ((try simp only [Exit.inBlock, Exit.then]); refine bodyPost_ret (results_none rfl _ _ _) rfl ?_)
  exact ⟨rfl, unhide HW6, (unhide HS).back3 i j k (unhide HI).1 (unhide HI).2.1 (unhide HI).2.2 hS⟩
set_option maxHeartbeats 4000000 in
theorem jAsk_n (hS : Sx bs w0 w l e) (i j k : Nat) (hi : l[i]? = some (B, memL c C m)) (hj : l[j]? = some (C, rowW m.ws c.n)) (hk : l[k]? = some (P, [.int .i64 sl, .int .i64 sd, .int .i64 b, .int .u64 (s : Nat), .int .u64 (sn : Nat), fn, .int .i64 rr])) (hij : i ≠ j) (hik : i ≠ k) (hjk : j ≠ k) (hr : c.r = true) (hw : WordsOk c m) (hb0 : -9223372036854775808 ≤ sl) (hb1 : sl ≤ 9223372036854775807) (M : Um.Mm) (hM : M = Um.mtouch c m 1 4 sl 0 0) (hd0 : -1 ≤ sd) (hd1 : sd ≤ 2) (h2 : Um.stN M.l.old ≠ 2) (h3 : Um.stN M.l.old ≠ 3) (h4 : Um.stN M.l.old ≠ 4) :
    Calls Tryz.prog 148 #[.pointer (some ⟨P, 0, none⟩), .pointer (some ⟨B, 0, none⟩)] w fun r w' => r = .returned (.tuple #[]) ∧ WordsOk c M ∧ Sx bs w0 w' (putL l [(i, B, memL c C M), (j, C, rowW M.ws c.n), (k, P, [.int .i64 sl, .int .i64 sd, .int .i64 b, .int .u64 (M.l.old : Nat), .int .u64 (sn : Nat), .nilFunc, .int .i64 1])]) e := by
  have HO := hide (show Um.Word (Um.mtouch c m 1 4 sl 0 0).l.old from Um.old_word hw)
  rw [← hM] at HO
  have hq : Um.stN M.l.old = Um.part M.l.old 27 3 := rfl
  have a0 : ¬ ((Um.part M.l.old 27 3 : Nat) : Int) = 4 := by omega
  have b0 : (((Um.part M.l.old 27 3 : Nat) : Int) == 4) = false := by simpa using a0
  have a1 : ¬ ((Um.part M.l.old 27 3 : Nat) : Int) = 2 := by omega
  have b1 : (((Um.part M.l.old 27 3 : Nat) : Int) == 2) = false := by simpa using a1
  have a2 : ¬ ((Um.part M.l.old 27 3 : Nat) : Int) = 3 := by omega
  have b2 : (((Um.part M.l.old 27 3 : Nat) : Int) == 3) = false := by simpa using a2
  clear hq h2 h3 h4
  have HS := hide hS
  have HI := hide (And.intro hi (And.intro hj hk))
  have hL := hS.enter3 i j k hi hj hk hij hik hjk
  have HR := hide hr
  have HW := hide hw
  have HM := hide hM
  have HBD := hide (And.intro hb0 hb1)
  have HDD := hide (And.intro hd0 hd1)
  clear hS hi hj hk hr hw hM hb0 hb1 hd0 hd1
  have hS := hL
  clear hL
  go_enter Tryz.func148, Tryz.ntmps148
  go_wp2_with (first | (refine ybox hS (h := ?_); clear hS; intro _ _ hS) | (refine yall hS (h := ?_); clear hS; intro _ _ hS) | refine yld hS (h := ?_) | (refine yst hS (h := ?_); clear hS; intro _ hS))
  refine (jLook_x hS 0 1 2 rfl rfl rfl (by decide) (by decide) (by decide) (unhide HR) (unhide HW) (unhide HBD).1 (unhide HBD).2 M (unhide HM)).mono ?_
  rintro r u ⟨rfl, hWn, hSn⟩
  clear hS
  have hS := hSn
  clear hSn
  dsimp only [putL, List.set, List.cons_append, List.nil_append] at hS
  have HW6 := hide hWn
  clear hWn
  go_wp2_with (first | (refine ybox hS (h := ?_); clear hS; intro _ _ hS) | (refine yall hS (h := ?_); clear hS; intro _ _ hS) | refine yld hS (h := ?_) | (refine yst hS (h := ?_); clear hS; intro _ hS))
  refine (jState_b (hS.get 2 rfl) (unhide HO)).mono ?_
  rintro r u ⟨rfl, hb⟩
  replace hS := hS.call hb
  clear hb
  go_wp2_with (first | (refine ybox hS (h := ?_); clear hS; intro _ _ hS) | (refine yall hS (h := ?_); clear hS; intro _ _ hS) | refine yld hS (h := ?_) | (refine yst hS (h := ?_); clear hS; intro _ hS))
  refine (jSay_x hS 2 rfl 1).mono ?_
  rintro r u ⟨rfl, hSn⟩
  clear hS
  have hS := hSn
  clear hSn
  dsimp only [putL, List.set, List.cons_append, List.nil_append] at hS
  go_wp2_with (first | (refine ybox hS (h := ?_); clear hS; intro _ _ hS) | (refine yall hS (h := ?_); clear hS; intro _ _ hS) | refine yld hS (h := ?_) | (refine yst hS (h := ?_); clear hS; intro _ hS))
  first | go_end0 | ((try simp only [Exit.inBlock, Exit.then]); refine bodyPost_ret (results_none rfl _ _ _) rfl ?_)
  exact ⟨rfl, unhide HW6, (unhide HS).back3 i j k (unhide HI).1 (unhide HI).2.1 (unhide HI).2.2 hS⟩
set_option maxHeartbeats 4000000 in
theorem jNum_p (hS : Sx bs w0 w l e) (i j k : Nat) (hi : l[i]? = some (B, memL c C m)) (hj : l[j]? = some (C, rowW m.ws c.n)) (hk : l[k]? = some (P, [.int .i64 sl, .int .i64 sd, .int .i64 b, .int .u64 (s : Nat), .int .u64 (sn : Nat), fn, .int .i64 rr])) (hij : i ≠ j) (hik : i ≠ k) (hjk : j ≠ k) (hr : c.r = true) (hw : WordsOk c m) (hb0 : -9223372036854775808 ≤ sl) (hb1 : sl ≤ 9223372036854775807) (M : Um.Mm) (hM : M = Um.mtouch c m 1 6 sl 0 0) (hs : Um.Word s) (hd0 : -1 ≤ sd) (hd1 : sd ≤ 2) (hp : Um.past M.l.old sn = true) :
    Calls Tryz.prog 158 #[.pointer (some ⟨P, 0, none⟩), .pointer (some ⟨B, 0, none⟩)] w fun r w' => r = .returned (.tuple #[]) ∧ WordsOk c M ∧ Sx bs w0 w' (putL l [(i, B, memL c C M), (j, C, rowW M.ws c.n), (k, P, [.int .i64 sl, .int .i64 sd, .int .i64 b, .int .u64 (s : Nat), .int .u64 (sn : Nat), .nilFunc, .int .i64 1])]) e := by
  have HS := hide hS
  have HI := hide (And.intro hi (And.intro hj hk))
  have hL := hS.enter3 i j k hi hj hk hij hik hjk
  have HR := hide hr
  have HW := hide hw
  have HM := hide hM
  have HBD := hide (And.intro hb0 hb1)
  have HDD := hide (And.intro hd0 hd1)
  have HO := hide hs
  have HPA := hide hp
  clear hS hi hj hk hr hw hM hb0 hb1 hd0 hd1 hs hp
  have hS := hL
  clear hL
  have k4 := fun w' (hq : BlkAt w' P [.int .i64 sl, .int .i64 sd, .int .i64 b, .int .u64 (s : Nat), .int .u64 (sn : Nat), fn, .int .i64 rr]) => hq.cell 4 _ rfl
  have HP := hide (hS.get 2 rfl)
  go_enter Tryz.func158, Tryz.ntmps158
  go_wp2_with fail
  have HS3 := hide hS
  clear hS
  go_region_held3 (fun w' => BlkAt w' P [.int .i64 sl, .int .i64 sd, .int .i64 b, .int .u64 (s : Nat), .int .u64 (sn : Nat), fn, .int .i64 rr]) (first | exact (unhide HP).drew | exact BlkAt.below (by assumption) (by assumption) | assumption) (first | (go_at_call 165; refine (jSpot_b (by assumption) 6).mono ?_; rintro e u5 ⟨rfl, hb5⟩) | (go_at_call 35; refine (mLoad_x ((unhide HS3).undrew hb5) 0 1 rfl rfl (by decide) (unhide HR) (unhide HW) 6 sl (unhide HBD).1 (unhide HBD).2 M (unhide HM)).mono ?_; rintro e u7 ⟨rfl, hW6, hS6⟩; have hP6 := hS6.get 2 rfl) | (go_at_call 166; refine (tPast_any M.l.old sn _).mono ?_; rintro e u8 ⟨rfl, rfl⟩))
  have hS := hS6
  have HW6 := hide hW6
  clear hS6 hP6 hW6 k4 HS3 HP
  dsimp only [putL, List.set] at hS
  simp only [unhide HPA]
  go_wp2_with (first | (refine ybox hS (h := ?_); clear hS; intro _ _ hS) | (refine yall hS (h := ?_); clear hS; intro _ _ hS) | refine yld hS (h := ?_) | (refine yst hS (h := ?_); clear hS; intro _ hS))
  refine (jSay_x hS 2 rfl 1).mono ?_
  rintro r u ⟨rfl, hSn⟩
  clear hS
  have hS := hSn
  clear hSn
  dsimp only [putL, List.set, List.cons_append, List.nil_append] at hS
  go_wp2_with (first | (refine ybox hS (h := ?_); clear hS; intro _ _ hS) | (refine yall hS (h := ?_); clear hS; intro _ _ hS) | refine yld hS (h := ?_) | (refine yst hS (h := ?_); clear hS; intro _ hS))
  first | go_end0 | ((try simp only [Exit.inBlock, Exit.then]); refine bodyPost_ret (results_none rfl _ _ _) rfl ?_)
  exact ⟨rfl, unhide HW6, (unhide HS).back3 i j k (unhide HI).1 (unhide HI).2.1 (unhide HI).2.2 hS⟩
set_option maxHeartbeats 4000000 in
theorem jNum_j (hS : Sx bs w0 w l e) (i j k : Nat) (hi : l[i]? = some (B, memL c C m)) (hj : l[j]? = some (C, rowW m.ws c.n)) (hk : l[k]? = some (P, [.int .i64 sl, .int .i64 sd, .int .i64 b, .int .u64 (s : Nat), .int .u64 (sn : Nat), fn, .int .i64 rr])) (hij : i ≠ j) (hik : i ≠ k) (hjk : j ≠ k) (hr : c.r = true) (hw : WordsOk c m) (hb0 : -9223372036854775808 ≤ sl) (hb1 : sl ≤ 9223372036854775807) (M : Um.Mm) (hM : M = Um.mtouch c m 1 6 sl 0 0) (hs : Um.Word s) (hd0 : -1 ≤ sd) (hd1 : sd ≤ 2) (hp : Um.past M.l.old sn = false) :
    Calls Tryz.prog 158 #[.pointer (some ⟨P, 0, none⟩), .pointer (some ⟨B, 0, none⟩)] w fun r w' => r = .returned (.tuple #[]) ∧ WordsOk c M ∧ Sx bs w0 w' (putL l [(i, B, memL c C M), (j, C, rowW M.ws c.n), (k, P, [.int .i64 sl, .int .i64 sd, .int .i64 b, .int .u64 (s : Nat), .int .u64 (sn : Nat), jgF sd b s, .int .i64 (jgR sd b s rr)])]) e := by
  have HS := hide hS
  have HI := hide (And.intro hi (And.intro hj hk))
  have hL := hS.enter3 i j k hi hj hk hij hik hjk
  have HR := hide hr
  have HW := hide hw
  have HM := hide hM
  have HBD := hide (And.intro hb0 hb1)
  have HDD := hide (And.intro hd0 hd1)
  have HO := hide hs
  have HPA := hide hp
  clear hS hi hj hk hr hw hM hb0 hb1 hd0 hd1 hs hp
  have hS := hL
  clear hL
  have k4 := fun w' (hq : BlkAt w' P [.int .i64 sl, .int .i64 sd, .int .i64 b, .int .u64 (s : Nat), .int .u64 (sn : Nat), fn, .int .i64 rr]) => hq.cell 4 _ rfl
  have HP := hide (hS.get 2 rfl)
  go_enter Tryz.func158, Tryz.ntmps158
  go_wp2_with fail
  have HS3 := hide hS
  clear hS
  go_region_held3 (fun w' => BlkAt w' P [.int .i64 sl, .int .i64 sd, .int .i64 b, .int .u64 (s : Nat), .int .u64 (sn : Nat), fn, .int .i64 rr]) (first | exact (unhide HP).drew | exact BlkAt.below (by assumption) (by assumption) | assumption) (first | (go_at_call 165; refine (jSpot_b (by assumption) 6).mono ?_; rintro e u5 ⟨rfl, hb5⟩) | (go_at_call 35; refine (mLoad_x ((unhide HS3).undrew hb5) 0 1 rfl rfl (by decide) (unhide HR) (unhide HW) 6 sl (unhide HBD).1 (unhide HBD).2 M (unhide HM)).mono ?_; rintro e u7 ⟨rfl, hW6, hS6⟩; have hP6 := hS6.get 2 rfl) | (go_at_call 166; refine (tPast_any M.l.old sn _).mono ?_; rintro e u8 ⟨rfl, rfl⟩))
  have hS := hS6
  have HW6 := hide hW6
  clear hS6 hP6 hW6 k4 HS3 HP
  dsimp only [putL, List.set] at hS
  simp only [unhide HPA]
  go_wp2_with (first | (refine ybox hS (h := ?_); clear hS; intro _ _ hS) | (refine yall hS (h := ?_); clear hS; intro _ _ hS) | refine yld hS (h := ?_) | (refine yst hS (h := ?_); clear hS; intro _ hS))
  refine (jJudge_any hS 2 rfl (unhide HO) (unhide HDD).1 (unhide HDD).2).mono ?_
  rintro r u ⟨rfl, hSn⟩
  clear hS
  have hS := hSn
  clear hSn
  dsimp only [putL, List.set, List.cons_append, List.nil_append] at hS
  go_wp2_with (first | (refine ybox hS (h := ?_); clear hS; intro _ _ hS) | (refine yall hS (h := ?_); clear hS; intro _ _ hS) | refine yld hS (h := ?_) | (refine yst hS (h := ?_); clear hS; intro _ hS))
  first | go_end0 | ((try simp only [Exit.inBlock, Exit.then]); refine bodyPost_ret (results_none rfl _ _ _) rfl ?_)
  exact ⟨rfl, unhide HW6, (unhide HS).back3 i j k (unhide HI).1 (unhide HI).2.1 (unhide HI).2.2 hS⟩
set_option maxHeartbeats 4000000 in
theorem jLay_t (hS : Sx bs w0 w l e) (i j k : Nat) (hi : l[i]? = some (B, memL c C m)) (hj : l[j]? = some (C, rowW m.ws c.n)) (hk : l[k]? = some (P, [.int .i64 sl, .int .i64 sd, .int .i64 b, .int .u64 (s : Nat), .int .u64 (sn : Nat), fn, .int .i64 rr])) (hij : i ≠ j) (hik : i ≠ k) (hjk : j ≠ k) (hr : c.r = true) (hw : WordsOk c m) (hb0 : -9223372036854775808 ≤ sl) (hb1 : sl ≤ 9223372036854775807) (M : Um.Mm) (hM : M = Um.mtouch c m 3 4 sl s (Um.withN s sd b)) (hs : Um.Word s) (hd : M.l.done = true) :
    Calls Tryz.prog 170 #[.pointer (some ⟨P, 0, none⟩), .pointer (some ⟨B, 0, none⟩)] w fun r w' => r = .returned (.tuple #[]) ∧ WordsOk c M ∧ Sx bs w0 w' (putL l [(i, B, memL c C M), (j, C, rowW M.ws c.n), (k, P, [.int .i64 sl, .int .i64 sd, .int .i64 b, .int .u64 (s : Nat), .int .u64 (sn : Nat), .nilFunc, .int .i64 2])]) e := by
  have HS := hide hS
  have HI := hide (And.intro hi (And.intro hj hk))
  have hL := hS.enter3 i j k hi hj hk hij hik hjk
  have HR := hide hr
  have HW := hide hw
  have HM := hide hM
  have HBD := hide (And.intro hb0 hb1)
  have HV := hide hs
  have HD := hide hd
  clear hS hi hj hk hr hw hM hb0 hb1 hs hd
  have hS := hL
  clear hL
  go_enter Tryz.func170, Tryz.ntmps170
  go_wp2_with (first | (refine ybox hS (h := ?_); clear hS; intro _ _ hS) | (refine yall hS (h := ?_); clear hS; intro _ _ hS) | refine yld hS (h := ?_) | (refine yst hS (h := ?_); clear hS; intro _ hS))
  refine (jSwap_x hS 0 1 2 rfl rfl rfl (by decide) (by decide) (by decide) (unhide HR) (unhide HW) (unhide HBD).1 (unhide HBD).2 M (unhide HM) (unhide HV)).mono ?_
  rintro r u ⟨rfl, hWn, hSn⟩
  clear hS
  have hS := hSn
  clear hSn
  dsimp only [putL, List.set, List.cons_append, List.nil_append] at hS
  have HW6 := hide hWn
  clear hWn
  rw [unhide HD]
  go_wp2_with (first | (refine ybox hS (h := ?_); clear hS; intro _ _ hS) | (refine yall hS (h := ?_); clear hS; intro _ _ hS) | refine yld hS (h := ?_) | (refine yst hS (h := ?_); clear hS; intro _ hS))
  refine (jSay_x hS 2 rfl 2).mono ?_
  rintro r u ⟨rfl, hSn⟩
  clear hS
  have hS := hSn
  clear hSn
  dsimp only [putL, List.set, List.cons_append, List.nil_append] at hS
  go_wp2_with (first | (refine ybox hS (h := ?_); clear hS; intro _ _ hS) | (refine yall hS (h := ?_); clear hS; intro _ _ hS) | refine yld hS (h := ?_) | (refine yst hS (h := ?_); clear hS; intro _ hS))
  first | go_end0 | ((try simp only [Exit.inBlock, Exit.then]); refine bodyPost_ret (results_none rfl _ _ _) rfl ?_)
  exact ⟨rfl, unhide HW6, (unhide HS).back3 i j k (unhide HI).1 (unhide HI).2.1 (unhide HI).2.2 hS⟩
set_option maxHeartbeats 4000000 in
theorem jLay_f (hS : Sx bs w0 w l e) (i j k : Nat) (hi : l[i]? = some (B, memL c C m)) (hj : l[j]? = some (C, rowW m.ws c.n)) (hk : l[k]? = some (P, [.int .i64 sl, .int .i64 sd, .int .i64 b, .int .u64 (s : Nat), .int .u64 (sn : Nat), fn, .int .i64 rr])) (hij : i ≠ j) (hik : i ≠ k) (hjk : j ≠ k) (hr : c.r = true) (hw : WordsOk c m) (hb0 : -9223372036854775808 ≤ sl) (hb1 : sl ≤ 9223372036854775807) (M : Um.Mm) (hM : M = Um.mtouch c m 3 4 sl s (Um.withN s sd b)) (hs : Um.Word s) (hd : M.l.done = false) :
    Calls Tryz.prog 170 #[.pointer (some ⟨P, 0, none⟩), .pointer (some ⟨B, 0, none⟩)] w fun r w' => r = .returned (.tuple #[]) ∧ WordsOk c M ∧ Sx bs w0 w' (putL l [(i, B, memL c C M), (j, C, rowW M.ws c.n), (k, P, [.int .i64 sl, .int .i64 sd, .int .i64 b, .int .u64 (s : Nat), .int .u64 (sn : Nat), .func (.func 148) #[] #[], .int .i64 rr])]) e := by
  have HS := hide hS
  have HI := hide (And.intro hi (And.intro hj hk))
  have hL := hS.enter3 i j k hi hj hk hij hik hjk
  have HR := hide hr
  have HW := hide hw
  have HM := hide hM
  have HBD := hide (And.intro hb0 hb1)
  have HV := hide hs
  have HD := hide hd
  clear hS hi hj hk hr hw hM hb0 hb1 hs hd
  have hS := hL
  clear hL
  go_enter Tryz.func170, Tryz.ntmps170
  go_wp2_with (first | (refine ybox hS (h := ?_); clear hS; intro _ _ hS) | (refine yall hS (h := ?_); clear hS; intro _ _ hS) | refine yld hS (h := ?_) | (refine yst hS (h := ?_); clear hS; intro _ hS))
  refine (jSwap_x hS 0 1 2 rfl rfl rfl (by decide) (by decide) (by decide) (unhide HR) (unhide HW) (unhide HBD).1 (unhide HBD).2 M (unhide HM) (unhide HV)).mono ?_
  rintro r u ⟨rfl, hWn, hSn⟩
  clear hS
  have hS := hSn
  clear hSn
  dsimp only [putL, List.set, List.cons_append, List.nil_append] at hS
  have HW6 := hide hWn
  clear hWn
  rw [unhide HD]
  go_wp2_with (first | (refine ybox hS (h := ?_); clear hS; intro _ _ hS) | (refine yall hS (h := ?_); clear hS; intro _ _ hS) | refine yld hS (h := ?_) | (refine yst hS (h := ?_); clear hS; intro _ hS))
  first | go_end0 | ((try simp only [Exit.inBlock, Exit.then]); refine bodyPost_ret (results_none rfl _ _ _) rfl ?_)
  exact ⟨rfl, unhide HW6, (unhide HS).back3 i j k (unhide HI).1 (unhide HI).2.1 (unhide HI).2.2 hS⟩
set_option maxHeartbeats 4000000 in
theorem oLay_t (hS : Sx bs w0 w l e) (i j k : Nat) (hi : l[i]? = some (B, memL c C m)) (hj : l[j]? = some (C, rowW m.ws c.n)) (hk : l[k]? = some (P, [.int .i64 sl, .int .i64 sd, .int .i64 b, .int .u64 (s : Nat), fn])) (hij : i ≠ j) (hik : i ≠ k) (hjk : j ≠ k) (hr : c.r = true) (hw : WordsOk c m) (hb0 : -9223372036854775808 ≤ sl) (hb1 : sl ≤ 9223372036854775807) (M : Um.Mm) (hM : M = Um.mtouch c m 3 4 sl s (Um.withN s sd b)) (hs : Um.Word s) (hd : M.l.done = true) :
    Calls Tryz.prog 172 #[.pointer (some ⟨P, 0, none⟩), .pointer (some ⟨B, 0, none⟩)] w fun r w' => r = .returned (.tuple #[]) ∧ WordsOk c M ∧ Sx bs w0 w' (putL l [(i, B, memL c C M), (j, C, rowW M.ws c.n), (k, P, [.int .i64 sl, .int .i64 sd, .int .i64 b, .int .u64 (s : Nat), .nilFunc])]) e := by
  have HS := hide hS
  have HI := hide (And.intro hi (And.intro hj hk))
  have hL := hS.enter3 i j k hi hj hk hij hik hjk
  have HR := hide hr
  have HW := hide hw
  have HM := hide hM
  have HBD := hide (And.intro hb0 hb1)
  have HV := hide hs
  have HD := hide hd
  clear hS hi hj hk hr hw hM hb0 hb1 hs hd
  have hS := hL
  clear hL
  go_enter Tryz.func172, Tryz.ntmps172
  go_wp2_with (first | (refine ybox hS (h := ?_); clear hS; intro _ _ hS) | (refine yall hS (h := ?_); clear hS; intro _ _ hS) | refine yld hS (h := ?_) | (refine yst hS (h := ?_); clear hS; intro _ hS))
  refine (jSwap_x hS 0 1 2 rfl rfl rfl (by decide) (by decide) (by decide) (unhide HR) (unhide HW) (unhide HBD).1 (unhide HBD).2 M (unhide HM) (unhide HV)).mono ?_
  rintro r u ⟨rfl, hWn, hSn⟩
  clear hS
  have hS := hSn
  clear hSn
  dsimp only [putL, List.set, List.cons_append, List.nil_append] at hS
  have HW6 := hide hWn
  clear hWn
  rw [unhide HD]
  go_wp2_with (first | (refine ybox hS (h := ?_); clear hS; intro _ _ hS) | (refine yall hS (h := ?_); clear hS; intro _ _ hS) | refine yld hS (h := ?_) | (refine yst hS (h := ?_); clear hS; intro _ hS))
  first | go_end0 | ((try simp only [Exit.inBlock, Exit.then]); refine bodyPost_ret (results_none rfl _ _ _) rfl ?_)
  exact ⟨rfl, unhide HW6, (unhide HS).back3 i j k (unhide HI).1 (unhide HI).2.1 (unhide HI).2.2 hS⟩
set_option maxHeartbeats 4000000 in
theorem oLay_f (hS : Sx bs w0 w l e) (i j k : Nat) (hi : l[i]? = some (B, memL c C m)) (hj : l[j]? = some (C, rowW m.ws c.n)) (hk : l[k]? = some (P, [.int .i64 sl, .int .i64 sd, .int .i64 b, .int .u64 (s : Nat), fn])) (hij : i ≠ j) (hik : i ≠ k) (hjk : j ≠ k) (hr : c.r = true) (hw : WordsOk c m) (hb0 : -9223372036854775808 ≤ sl) (hb1 : sl ≤ 9223372036854775807) (M : Um.Mm) (hM : M = Um.mtouch c m 3 4 sl s (Um.withN s sd b)) (hs : Um.Word s) (hd : M.l.done = false) :
    Calls Tryz.prog 172 #[.pointer (some ⟨P, 0, none⟩), .pointer (some ⟨B, 0, none⟩)] w fun r w' => r = .returned (.tuple #[]) ∧ WordsOk c M ∧ Sx bs w0 w' (putL l [(i, B, memL c C M), (j, C, rowW M.ws c.n), (k, P, [.int .i64 sl, .int .i64 sd, .int .i64 b, .int .u64 (s : Nat), .func (.func 161) #[] #[]])]) e := by
  have HS := hide hS
  have HI := hide (And.intro hi (And.intro hj hk))
  have hL := hS.enter3 i j k hi hj hk hij hik hjk
  have HR := hide hr
  have HW := hide hw
  have HM := hide hM
  have HBD := hide (And.intro hb0 hb1)
  have HV := hide hs
  have HD := hide hd
  clear hS hi hj hk hr hw hM hb0 hb1 hs hd
  have hS := hL
  clear hL
  go_enter Tryz.func172, Tryz.ntmps172
  go_wp2_with (first | (refine ybox hS (h := ?_); clear hS; intro _ _ hS) | (refine yall hS (h := ?_); clear hS; intro _ _ hS) | refine yld hS (h := ?_) | (refine yst hS (h := ?_); clear hS; intro _ hS))
  refine (jSwap_x hS 0 1 2 rfl rfl rfl (by decide) (by decide) (by decide) (unhide HR) (unhide HW) (unhide HBD).1 (unhide HBD).2 M (unhide HM) (unhide HV)).mono ?_
  rintro r u ⟨rfl, hWn, hSn⟩
  clear hS
  have hS := hSn
  clear hSn
  dsimp only [putL, List.set, List.cons_append, List.nil_append] at hS
  have HW6 := hide hWn
  clear hWn
  rw [unhide HD]
  go_wp2_with (first | (refine ybox hS (h := ?_); clear hS; intro _ _ hS) | (refine yall hS (h := ?_); clear hS; intro _ _ hS) | refine yld hS (h := ?_) | (refine yst hS (h := ?_); clear hS; intro _ hS))
  first | go_end0 | ((try simp only [Exit.inBlock, Exit.then]); refine bodyPost_ret (results_none rfl _ _ _) rfl ?_)
  exact ⟨rfl, unhide HW6, (unhide HS).back3 i j k (unhide HI).1 (unhide HI).2.1 (unhide HI).2.2 hS⟩
set_option maxHeartbeats 4000000 in
theorem oAsk_t (hS : Sx bs w0 w l e) (i j k : Nat) (hi : l[i]? = some (B, memL c C m)) (hj : l[j]? = some (C, rowW m.ws c.n)) (hk : l[k]? = some (P, [.int .i64 sl, .int .i64 sd, .int .i64 b, .int .u64 (s : Nat), fn])) (hij : i ≠ j) (hik : i ≠ k) (hjk : j ≠ k) (hr : c.r = true) (hw : WordsOk c m) (hb0 : -9223372036854775808 ≤ sl) (hb1 : sl ≤ 9223372036854775807) (M : Um.Mm) (hM : M = Um.mtouch c m 1 4 sl 0 0) (hd : Um.withN M.l.old sd b = M.l.old) :
    Calls Tryz.prog 161 #[.pointer (some ⟨P, 0, none⟩), .pointer (some ⟨B, 0, none⟩)] w fun r w' => r = .returned (.tuple #[]) ∧ WordsOk c M ∧ Sx bs w0 w' (putL l [(i, B, memL c C M), (j, C, rowW M.ws c.n), (k, P, [.int .i64 sl, .int .i64 sd, .int .i64 b, .int .u64 (M.l.old : Nat), .nilFunc])]) e := by
  have HO := hide (show Um.Word (Um.mtouch c m 1 4 sl 0 0).l.old from Um.old_word hw)
  rw [← hM] at HO
  have e1 : ((Um.withN M.l.old sd b : Nat) : Int) = ((M.l.old : Nat) : Int) := by omega
  have e2 : (((Um.withN M.l.old sd b : Nat) : Int) == ((M.l.old : Nat) : Int)) = true := by simpa using e1
  clear hd
  have HS := hide hS
  have HI := hide (And.intro hi (And.intro hj hk))
  have hL := hS.enter3 i j k hi hj hk hij hik hjk
  have HR := hide hr
  have HW := hide hw
  have HM := hide hM
  have HBD := hide (And.intro hb0 hb1)
  clear hS hi hj hk hr hw hM hb0 hb1 
  have hS := hL
  clear hL
  go_enter Tryz.func161, Tryz.ntmps161
  go_wp2_with (first | (refine ybox hS (h := ?_); clear hS; intro _ _ hS) | (refine yall hS (h := ?_); clear hS; intro _ _ hS) | refine yld hS (h := ?_) | (refine yst hS (h := ?_); clear hS; intro _ hS))
  refine (jLook_x hS 0 1 2 rfl rfl rfl (by decide) (by decide) (by decide) (unhide HR) (unhide HW) (unhide HBD).1 (unhide HBD).2 M (unhide HM)).mono ?_
  rintro r u ⟨rfl, hWn, hSn⟩
  clear hS
  have hS := hSn
  clear hSn
  dsimp only [putL, List.set, List.cons_append, List.nil_append] at hS
  have HW6 := hide hWn
  clear hWn
  go_wp2_with fail
  obtain ⟨u, rfl⟩ := nameW hS
  have k3 := cell_regrown ((hS.get 2 rfl).cell 3 _ rfl)
  have HLD := hide (fun d os => Calls.regrown_of (jLaid_b ((hS.call (below_regrown u d os)).get 2 rfl) (unhide HO)))
  have HSQ := hide hS
  clear hS
  refine wp_region_quiet_below (by kernel_rfl) (by kernel_rfl) ?_
  repeat (go_big_quiet_step (first | (go_at_call 171; exact (unhide HLD) _ _)))
  refine wpQuiet_nil ?_
  intro _ hw'
  obtain ⟨⟨dq, osq⟩, hw''⟩ := hw'
  subst hw''
  have hS := (unhide HSQ).call (below_regrown u dq osq)
  clear HLD HSQ k3
  generalize grow (redrawn u dq) osq = u9 at *
  go_wp2_with (first | (refine ybox hS (h := ?_); clear hS; intro _ _ hS) | (refine yall hS (h := ?_); clear hS; intro _ _ hS) | refine yld hS (h := ?_) | (refine yst hS (h := ?_); clear hS; intro _ hS))
  first | go_end0 | ((try simp only [Exit.inBlock, Exit.then]); refine bodyPost_ret (results_none rfl _ _ _) rfl ?_)
  exact ⟨rfl, unhide HW6, (unhide HS).back3 i j k (unhide HI).1 (unhide HI).2.1 (unhide HI).2.2 hS⟩
set_option maxHeartbeats 4000000 in
theorem oAsk_f (hS : Sx bs w0 w l e) (i j k : Nat) (hi : l[i]? = some (B, memL c C m)) (hj : l[j]? = some (C, rowW m.ws c.n)) (hk : l[k]? = some (P, [.int .i64 sl, .int .i64 sd, .int .i64 b, .int .u64 (s : Nat), fn])) (hij : i ≠ j) (hik : i ≠ k) (hjk : j ≠ k) (hr : c.r = true) (hw : WordsOk c m) (hb0 : -9223372036854775808 ≤ sl) (hb1 : sl ≤ 9223372036854775807) (M : Um.Mm) (hM : M = Um.mtouch c m 1 4 sl 0 0) (hd : Um.withN M.l.old sd b ≠ M.l.old) :
    Calls Tryz.prog 161 #[.pointer (some ⟨P, 0, none⟩), .pointer (some ⟨B, 0, none⟩)] w fun r w' => r = .returned (.tuple #[]) ∧ WordsOk c M ∧ Sx bs w0 w' (putL l [(i, B, memL c C M), (j, C, rowW M.ws c.n), (k, P, [.int .i64 sl, .int .i64 sd, .int .i64 b, .int .u64 (M.l.old : Nat), .func (.func 172) #[] #[]])]) e := by
  have HO := hide (show Um.Word (Um.mtouch c m 1 4 sl 0 0).l.old from Um.old_word hw)
  rw [← hM] at HO
  have e1 : ¬ ((Um.withN M.l.old sd b : Nat) : Int) = ((M.l.old : Nat) : Int) := by omega
  have e2 : (((Um.withN M.l.old sd b : Nat) : Int) == ((M.l.old : Nat) : Int)) = false := by simpa using e1
  clear hd
  have HS := hide hS
  have HI := hide (And.intro hi (And.intro hj hk))
  have hL := hS.enter3 i j k hi hj hk hij hik hjk
  have HR := hide hr
  have HW := hide hw
  have HM := hide hM
  have HBD := hide (And.intro hb0 hb1)
  clear hS hi hj hk hr hw hM hb0 hb1 
  have hS := hL
  clear hL
  go_enter Tryz.func161, Tryz.ntmps161
  go_wp2_with (first | (refine ybox hS (h := ?_); clear hS; intro _ _ hS) | (refine yall hS (h := ?_); clear hS; intro _ _ hS) | refine yld hS (h := ?_) | (refine yst hS (h := ?_); clear hS; intro _ hS))
  refine (jLook_x hS 0 1 2 rfl rfl rfl (by decide) (by decide) (by decide) (unhide HR) (unhide HW) (unhide HBD).1 (unhide HBD).2 M (unhide HM)).mono ?_
  rintro r u ⟨rfl, hWn, hSn⟩
  clear hS
  have hS := hSn
  clear hSn
  dsimp only [putL, List.set, List.cons_append, List.nil_append] at hS
  have HW6 := hide hWn
  clear hWn
  go_wp2_with fail
  obtain ⟨u, rfl⟩ := nameW hS
  have k3 := cell_regrown ((hS.get 2 rfl).cell 3 _ rfl)
  have HLD := hide (fun d os => Calls.regrown_of (jLaid_b ((hS.call (below_regrown u d os)).get 2 rfl) (unhide HO)))
  have HSQ := hide hS
  clear hS
  refine wp_region_quiet_below (by kernel_rfl) (by kernel_rfl) ?_
  repeat (go_big_quiet_step (first | (go_at_call 171; exact (unhide HLD) _ _)))
  refine wpQuiet_nil ?_
  intro _ hw'
  obtain ⟨⟨dq, osq⟩, hw''⟩ := hw'
  subst hw''
  have hS := (unhide HSQ).call (below_regrown u dq osq)
  clear HLD HSQ k3
  generalize grow (redrawn u dq) osq = u9 at *
  go_wp2_with (first | (refine ybox hS (h := ?_); clear hS; intro _ _ hS) | (refine yall hS (h := ?_); clear hS; intro _ _ hS) | refine yld hS (h := ?_) | (refine yst hS (h := ?_); clear hS; intro _ hS))
  first | go_end0 | ((try simp only [Exit.inBlock, Exit.then]); refine bodyPost_ret (results_none rfl _ _ _) rfl ?_)
  exact ⟨rfl, unhide HW6, (unhide HS).back3 i j k (unhide HI).1 (unhide HI).2.1 (unhide HI).2.2 hS⟩
set_option maxHeartbeats 2000000 in
theorem jStep_ask {Q : World → Prop} (hB : BlkAt w P [.int .i64 sl, .int .i64 sd, .int .i64 b, .int .u64 (s : Nat), .int .u64 (sn : Nat), .func (.func 148) #[] #[], .int .i64 rr]) (hC : Calls Tryz.prog 148 #[.pointer (some ⟨P, 0, none⟩), .pointer (some ⟨B, 0, none⟩)] w fun r w' => r = .returned (.tuple #[]) ∧ Q w') :
    Calls Tryz.prog 149 #[.pointer (some ⟨P, 0, none⟩), .pointer (some ⟨B, 0, none⟩)] w fun r w' => r = .returned (.tuple #[]) ∧ Q w' := by
  have h2 := hB.cell 5 _ rfl
  have hE := eqJF
  have HC := hide hC
  clear hB hC
  go_enter Tryz.func149, Tryz.ntmps149
  go_wp2_with fail
  refine (unhide HC).mono ?_
  rintro r u ⟨rfl, hQ⟩
  have H2 := hide hQ
  clear hQ h2 HC
  go_wp2
  go_end0
  exact ⟨rfl, unhide H2⟩
set_option maxHeartbeats 2000000 in
theorem jStep_num {Q : World → Prop} (hB : BlkAt w P [.int .i64 sl, .int .i64 sd, .int .i64 b, .int .u64 (s : Nat), .int .u64 (sn : Nat), .func (.func 158) #[] #[], .int .i64 rr]) (hC : Calls Tryz.prog 158 #[.pointer (some ⟨P, 0, none⟩), .pointer (some ⟨B, 0, none⟩)] w fun r w' => r = .returned (.tuple #[]) ∧ Q w') :
    Calls Tryz.prog 149 #[.pointer (some ⟨P, 0, none⟩), .pointer (some ⟨B, 0, none⟩)] w fun r w' => r = .returned (.tuple #[]) ∧ Q w' := by
  have h2 := hB.cell 5 _ rfl
  have hE := eqJF
  have HC := hide hC
  clear hB hC
  go_enter Tryz.func149, Tryz.ntmps149
  go_wp2_with fail
  refine (unhide HC).mono ?_
  rintro r u ⟨rfl, hQ⟩
  have H2 := hide hQ
  clear hQ h2 HC
  go_wp2
  go_end0
  exact ⟨rfl, unhide H2⟩
set_option maxHeartbeats 2000000 in
theorem jStep_lay {Q : World → Prop} (hB : BlkAt w P [.int .i64 sl, .int .i64 sd, .int .i64 b, .int .u64 (s : Nat), .int .u64 (sn : Nat), .func (.func 170) #[] #[], .int .i64 rr]) (hC : Calls Tryz.prog 170 #[.pointer (some ⟨P, 0, none⟩), .pointer (some ⟨B, 0, none⟩)] w fun r w' => r = .returned (.tuple #[]) ∧ Q w') :
    Calls Tryz.prog 149 #[.pointer (some ⟨P, 0, none⟩), .pointer (some ⟨B, 0, none⟩)] w fun r w' => r = .returned (.tuple #[]) ∧ Q w' := by
  have h2 := hB.cell 5 _ rfl
  have hE := eqJF
  have HC := hide hC
  clear hB hC
  go_enter Tryz.func149, Tryz.ntmps149
  go_wp2_with fail
  refine (unhide HC).mono ?_
  rintro r u ⟨rfl, hQ⟩
  have H2 := hide hQ
  clear hQ h2 HC
  go_wp2
  go_end0
  exact ⟨rfl, unhide H2⟩
set_option maxHeartbeats 1000000 in
theorem jStep_done (hB : BlkAt w P [.int .i64 sl, .int .i64 sd, .int .i64 b, .int .u64 (s : Nat), .int .u64 (sn : Nat), .nilFunc, .int .i64 rr]) (b : Value) : Calls Tryz.prog 149 #[.pointer (some ⟨P, 0, none⟩), b] w fun r w' => r = .returned (.tuple #[]) ∧ w' = w := by
  have h2 := hB.cell 5 _ rfl
  have hE := eqJN
  clear hB
  go_enter Tryz.func149, Tryz.ntmps149
  go_wp2
  go_end0
  exact ⟨rfl, rfl⟩
set_option maxHeartbeats 1000000 in
theorem jResult_b (hB : BlkAt w P [.int .i64 sl, .int .i64 sd, .int .i64 b, .int .u64 (s : Nat), .int .u64 (sn : Nat), fn, .int .i64 rr]) : Calls Tryz.prog 150 #[.pointer (some ⟨P, 0, none⟩)] w fun r w' => r = .returned (.int .i64 rr) ∧ w' = w := by
  have h2 := hB.cell 6 _ rfl
  clear hB
  go_enter Tryz.func150, Tryz.ntmps150
  go_wp2
  go_ret
  exact ⟨rfl, rfl⟩
set_option maxHeartbeats 1000000 in
theorem jNew_x (hS : Sx bs w0 w l e) (sl sd b : Int) (sn : Nat) :
    Calls Tryz.prog 143 #[.int .i64 sl, .int .i64 sd, .int .i64 b, .int .u64 (sn : Nat)] w fun r w' => ∃ P, r = .returned (.pointer (some ⟨P, 0, none⟩)) ∧ Sx bs w0 w' (l ++ [(P, [.int .i64 sl, .int .i64 sd, .int .i64 b, .int .u64 (0 : Nat), .int .u64 (sn : Nat), .func (.func 148) #[] #[], .int .i64 0])]) e := by
  have HS := hide hS
  clear hS
  have hS := Sx.new w
  go_enter Tryz.func143, Tryz.ntmps143
  go_wp2_with (first | (refine ybox hS (h := ?_); clear hS; intro _ _ hS) | (refine yall hS (h := ?_); clear hS; intro _ _ hS) | refine yld hS (h := ?_) | (refine yst hS (h := ?_); clear hS; intro _ hS))
  go_ret
  obtain ⟨P, rfl⟩ := nameB hS 0 rfl
  exact ⟨P, rfl, (unhide HS).add hS.bel (hS.get 0 rfl) ((hS.low _ (List.mem_of_getElem? (i := 0) rfl)).resolve_left (by simp))⟩
set_option maxHeartbeats 1000000 in
theorem oNew_x (hS : Sx bs w0 w l e) (sl sd b : Int) :
    Calls Tryz.prog 151 #[.int .i64 sl, .int .i64 sd, .int .i64 b] w fun r w' => ∃ P, r = .returned (.pointer (some ⟨P, 0, none⟩)) ∧ Sx bs w0 w' (l ++ [(P, [.int .i64 sl, .int .i64 sd, .int .i64 b, .int .u64 (0 : Nat), .func (.func 161) #[] #[]])]) e := by
  have HS := hide hS
  clear hS
  have hS := Sx.new w
  go_enter Tryz.func151, Tryz.ntmps151
  go_wp2_with (first | (refine ybox hS (h := ?_); clear hS; intro _ _ hS) | (refine yall hS (h := ?_); clear hS; intro _ _ hS) | refine yld hS (h := ?_) | (refine yst hS (h := ?_); clear hS; intro _ hS))
  go_ret
  obtain ⟨P, rfl⟩ := nameB hS 0 rfl
  exact ⟨P, rfl, (unhide HS).add hS.bel (hS.get 0 rfl) ((hS.low _ (List.mem_of_getElem? (i := 0) rfl)).resolve_left (by simp))⟩
set_option maxHeartbeats 1000000 in
theorem oDone_f (f : Fn) (a1 a2 : Array Value) (hB : BlkAt w P [.int .i64 sl, .int .i64 sd, .int .i64 b, .int .u64 (s : Nat), .func f a1 a2]) : Calls Tryz.prog 163 #[.pointer (some ⟨P, 0, none⟩)] w fun r w' => r = .returned (.bool false) ∧ w' = w := by
  have h2 := hB.cell 4 _ rfl
  have hE := eqOF
  have hE0 := eqON
  clear hB
  go_enter Tryz.func163, Tryz.ntmps163
  go_wp2
  go_ret
  exact ⟨rfl, rfl⟩
set_option maxHeartbeats 1000000 in
theorem oDone_n (hB : BlkAt w P [.int .i64 sl, .int .i64 sd, .int .i64 b, .int .u64 (s : Nat), .nilFunc]) : Calls Tryz.prog 163 #[.pointer (some ⟨P, 0, none⟩)] w fun r w' => r = .returned (.bool true) ∧ w' = w := by
  have h2 := hB.cell 4 _ rfl
  have hE := eqOF
  have hE0 := eqON
  clear hB
  go_enter Tryz.func163, Tryz.ntmps163
  go_wp2
  go_ret
  exact ⟨rfl, rfl⟩
set_option maxHeartbeats 2000000 in
theorem oStep_ask {Q : World → Prop} (hB : BlkAt w P [.int .i64 sl, .int .i64 sd, .int .i64 b, .int .u64 (s : Nat), .func (.func 161) #[] #[]]) (hC : Calls Tryz.prog 161 #[.pointer (some ⟨P, 0, none⟩), .pointer (some ⟨B, 0, none⟩)] w fun r w' => r = .returned (.tuple #[]) ∧ Q w') :
    Calls Tryz.prog 162 #[.pointer (some ⟨P, 0, none⟩), .pointer (some ⟨B, 0, none⟩)] w fun r w' => r = .returned (.tuple #[]) ∧ Q w' := by
  have HD := hide (oDone_f _ _ _ hB)
  have HC := hide hC
  have h2 := hB.cell 4 _ rfl
  clear hB hC
  go_enter Tryz.func162, Tryz.ntmps162
  go_wp2_with fail
  refine (unhide HD).mono ?_
  rintro r u ⟨rfl, rfl⟩
  go_wp2_with fail
  refine (unhide HC).mono ?_
  rintro r u2 ⟨rfl, hQ⟩
  have H2 := hide hQ
  clear hQ h2
  go_wp2
  go_end0
  exact ⟨rfl, unhide H2⟩
set_option maxHeartbeats 2000000 in
theorem oStep_lay {Q : World → Prop} (hB : BlkAt w P [.int .i64 sl, .int .i64 sd, .int .i64 b, .int .u64 (s : Nat), .func (.func 172) #[] #[]]) (hC : Calls Tryz.prog 172 #[.pointer (some ⟨P, 0, none⟩), .pointer (some ⟨B, 0, none⟩)] w fun r w' => r = .returned (.tuple #[]) ∧ Q w') :
    Calls Tryz.prog 162 #[.pointer (some ⟨P, 0, none⟩), .pointer (some ⟨B, 0, none⟩)] w fun r w' => r = .returned (.tuple #[]) ∧ Q w' := by
  have HD := hide (oDone_f _ _ _ hB)
  have HC := hide hC
  have h2 := hB.cell 4 _ rfl
  clear hB hC
  go_enter Tryz.func162, Tryz.ntmps162
  go_wp2_with fail
  refine (unhide HD).mono ?_
  rintro r u ⟨rfl, rfl⟩
  go_wp2_with fail
  refine (unhide HC).mono ?_
  rintro r u2 ⟨rfl, hQ⟩
  have H2 := hide hQ
  clear hQ h2
  go_wp2
  go_end0
  exact ⟨rfl, unhide H2⟩
set_option maxHeartbeats 1000000 in
theorem oStep_done (hB : BlkAt w P [.int .i64 sl, .int .i64 sd, .int .i64 b, .int .u64 (s : Nat), .nilFunc]) (b : Value) :
    Calls Tryz.prog 162 #[.pointer (some ⟨P, 0, none⟩), b] w fun r w' => r = .returned (.tuple #[]) ∧ w' = w := by
  have HD := hide (oDone_n hB)
  clear hB
  go_enter Tryz.func162, Tryz.ntmps162
  go_wp2_with fail
  refine (unhide HD).mono ?_
  rintro r u ⟨rfl, rfl⟩
  go_wp2
  go_end0
  exact ⟨rfl, rfl⟩
end
end
section
set_option maxRecDepth 100000
open Go.RowKit Go.Sort
set_option linter.unusedVariables false
set_option linter.unusedSimpArgs false
def jnF (o : Um.Js) : Value := if o.r ≠ 0 then .nilFunc else if o.nx = 0 then .func (.func 148) #[] #[] else if o.nx = 1 then .func (.func 158) #[] #[] else .func (.func 170) #[] #[]
def jnL (sl sd b : Int) (sn : Nat) (o : Um.Js) : List Value := [.int .i64 sl, .int .i64 sd, .int .i64 b, .int .u64 (o.s : Nat), .int .u64 (sn : Nat), jnF o, .int .i64 ((o.r : Nat) : Int)]
def owF (o : Um.Ls) : Value := if o.dn = true then .nilFunc else if o.lk = true then .func (.func 172) #[] #[] else .func (.func 161) #[] #[]
def owL (sl sd b : Int) (o : Um.Ls) : List Value := [.int .i64 sl, .int .i64 sd, .int .i64 b, .int .u64 (o.s : Nat), owF o]
theorem put_same3j {l : List (Nat × List Value)} {i j k : Nat} {a b d : Nat × List Value} (hi : l[i]? = some a) (hj : l[j]? = some b) (hk : l[k]? = some d) : putL l [(i, a), (j, b), (k, d)] = l := by
  show ((l.set i a).set j b).set k d = l
  rw [set_same hi, set_same hj, set_same hk]
theorem jjd_F (sd b : Int) (M : Um.Mm) (nx s : Nat) : jnF (Um.jjd sd b M nx s) = jgF sd b s := by
  unfold jnF jgF Um.jjd
  by_cases h1 : Um.hasN s sd b = true
  · simp only [if_pos h1]
    rfl
  · simp only [if_neg h1]
    by_cases h2 : Um.stN s ≠ 2 ∧ Um.anyN s (1 - sd) = true
    · simp only [if_pos h2]
      rfl
    · simp only [if_neg h2]
      rfl
theorem jjd_R (sd b : Int) (M : Um.Mm) (nx s : Nat) : (((Um.jjd sd b M nx s).r : Nat) : Int) = jgR sd b s 0 := by
  unfold jgR Um.jjd
  by_cases h1 : Um.hasN s sd b = true
  · simp only [if_pos h1]
    rfl
  · simp only [if_neg h1]
    by_cases h2 : Um.stN s ≠ 2 ∧ Um.anyN s (1 - sd) = true
    · simp only [if_pos h2]
      rfl
    · simp only [if_neg h2]
      rfl
theorem jjd_L (sl sd b : Int) (sn : Nat) (M : Um.Mm) (nx s : Nat) : jnL sl sd b sn (Um.jjd sd b M nx s) = [.int .i64 sl, .int .i64 sd, .int .i64 b, .int .u64 (s : Nat), .int .u64 (sn : Nat), jgF sd b s, .int .i64 (jgR sd b s 0)] := by
  unfold jnL
  rw [jjd_F, jjd_R, (Um.jjd_r sd b M nx s).2.2.1]
section
variable {bs : List Nat} {w0 w : World} {l e : List (Nat × List Value)} {B C P : Nat} {c : Um.Cf} {sl sd b : Int} {sn : Nat}
theorem jRes_any {o : Um.Js} (hB : BlkAt w P (jnL sl sd b sn o)) : Calls Tryz.prog 150 #[.pointer (some ⟨P, 0, none⟩)] w fun r w' => r = .returned (.int .i64 ((o.r : Nat) : Int)) ∧ w' = w := jResult_b hB
theorem jnew_any (hS : Sx bs w0 w l e) (sl sd b : Int) (sn : Nat) (m : Um.Mm) :
    Calls Tryz.prog 143 #[.int .i64 sl, .int .i64 sd, .int .i64 b, .int .u64 (sn : Nat)] w fun r w' => ∃ P, r = .returned (.pointer (some ⟨P, 0, none⟩)) ∧ Sx bs w0 w' (l ++ [(P, jnL sl sd b sn (Um.jnew m))]) e := jNew_x hS sl sd b sn
theorem onew_any (hS : Sx bs w0 w l e) (sl sd b : Int) (m : Um.Mm) :
    Calls Tryz.prog 151 #[.int .i64 sl, .int .i64 sd, .int .i64 b] w fun r w' => ∃ P, r = .returned (.pointer (some ⟨P, 0, none⟩)) ∧ Sx bs w0 w' (l ++ [(P, owL sl sd b (Um.lnew m))]) e := oNew_x hS sl sd b
theorem jStep_any (hS : Sx bs w0 w l e) (i j k : Nat) (o O : Um.Js) (hO : O = Um.jstep c sl sd b sn o) (hi : l[i]? = some (B, memL c C o.m)) (hj : l[j]? = some (C, rowW o.m.ws c.n)) (hk : l[k]? = some (P, jnL sl sd b sn o)) (hij : i ≠ j) (hik : i ≠ k) (hjk : j ≠ k) (hr : c.r = true) (ho : Um.Jok c o) (h0 : -9223372036854775808 ≤ sl) (h1 : sl ≤ 9223372036854775807) (hd0 : -1 ≤ sd) (hd1 : sd ≤ 2) :
    Calls Tryz.prog 149 #[.pointer (some ⟨P, 0, none⟩), .pointer (some ⟨B, 0, none⟩)] w fun r w' => r = .returned (.tuple #[]) ∧ Um.Jok c O ∧ Sx bs w0 w' (putL l [(i, B, memL c C O.m), (j, C, rowW O.m.ws c.n), (k, P, jnL sl sd b sn O)]) e := by
  have hO' : Um.Jok c O := hO ▸ Um.jstep_ok ho
  by_cases hz : o.r = 0
  · obtain ⟨m, nx, s, r⟩ := o
    obtain ⟨i1, i2, i3, i4⟩ := ho
    dsimp only at *
    subst hz
    rcases (by omega : nx = 0 ∨ nx = 1 ∨ nx = 2) with rfl | rfl | rfl
    · obtain ⟨M, hM⟩ : ∃ M, M = Um.mtouch c m 1 4 sl 0 0 := ⟨_, rfl⟩
      have eO : O = (if Um.stN M.l.old = 4 then ⟨M, 1, M.l.old, 0⟩ else if Um.stN M.l.old = 2 ∨ Um.stN M.l.old = 3 then Um.jjd sd b M 0 M.l.old else ⟨M, 0, M.l.old, 1⟩) := by rw [hO, hM]; rfl
      by_cases g4 : Um.stN M.l.old = 4
      · rw [if_pos g4] at eO
        subst eO
        refine (jStep_ask (Q := fun w' => WordsOk c M ∧ Sx bs w0 w' (putL l [(i, B, memL c C M), (j, C, rowW M.ws c.n), (k, P, jnL sl sd b sn ⟨M, 1, M.l.old, 0⟩)]) e) (hS.get k hk) (jAsk_4 hS i j k hi hj hk hij hik hjk hr i1 h0 h1 M hM hd0 hd1 g4)).mono ?_
        rintro r w' ⟨rfl, _, hSn⟩
        exact ⟨rfl, hO', hSn⟩
      rw [if_neg g4] at eO
      by_cases g23 : Um.stN M.l.old = 2 ∨ Um.stN M.l.old = 3
      · rw [if_pos g23] at eO
        subst eO
        have hm := (Um.jjd_r sd b M 0 M.l.old).2.1
        rw [hm, jjd_L]
        rcases g23 with g2 | g3
        · refine (jStep_ask (Q := fun w' => WordsOk c M ∧ Sx bs w0 w' (putL l [(i, B, memL c C M), (j, C, rowW M.ws c.n), (k, P, [.int .i64 sl, .int .i64 sd, .int .i64 b, .int .u64 (M.l.old : Nat), .int .u64 (sn : Nat), jgF sd b M.l.old, .int .i64 (jgR sd b M.l.old 0)])]) e) (hS.get k hk) (jAsk_2 hS i j k hi hj hk hij hik hjk hr i1 h0 h1 M hM hd0 hd1 g2)).mono ?_
          rintro r w' ⟨rfl, _, hSn⟩
          exact ⟨rfl, hO', hSn⟩
        · refine (jStep_ask (Q := fun w' => WordsOk c M ∧ Sx bs w0 w' (putL l [(i, B, memL c C M), (j, C, rowW M.ws c.n), (k, P, [.int .i64 sl, .int .i64 sd, .int .i64 b, .int .u64 (M.l.old : Nat), .int .u64 (sn : Nat), jgF sd b M.l.old, .int .i64 (jgR sd b M.l.old 0)])]) e) (hS.get k hk) (jAsk_3 hS i j k hi hj hk hij hik hjk hr i1 h0 h1 M hM hd0 hd1 g3)).mono ?_
          rintro r w' ⟨rfl, _, hSn⟩
          exact ⟨rfl, hO', hSn⟩
      · rw [if_neg g23] at eO
        subst eO
        refine (jStep_ask (Q := fun w' => WordsOk c M ∧ Sx bs w0 w' (putL l [(i, B, memL c C M), (j, C, rowW M.ws c.n), (k, P, jnL sl sd b sn ⟨M, 0, M.l.old, 1⟩)]) e) (hS.get k hk) (jAsk_n hS i j k hi hj hk hij hik hjk hr i1 h0 h1 M hM hd0 hd1 (fun q => g23 (.inl q)) (fun q => g23 (.inr q)) g4)).mono ?_
        rintro r w' ⟨rfl, _, hSn⟩
        exact ⟨rfl, hO', hSn⟩
    · obtain ⟨M, hM⟩ : ∃ M, M = Um.mtouch c m 1 6 sl 0 0 := ⟨_, rfl⟩
      have eO : O = (if Um.past M.l.old sn = true then ⟨M, 1, s, 1⟩ else Um.jjd sd b M 1 s) := by rw [hO, hM]; rfl
      cases hp : Um.past M.l.old sn with
      | true =>
        rw [if_pos hp] at eO
        subst eO
        refine (jStep_num (Q := fun w' => WordsOk c M ∧ Sx bs w0 w' (putL l [(i, B, memL c C M), (j, C, rowW M.ws c.n), (k, P, jnL sl sd b sn ⟨M, 1, s, 1⟩)]) e) (hS.get k hk) (jNum_p hS i j k hi hj hk hij hik hjk hr i1 h0 h1 M hM i2 hd0 hd1 hp)).mono ?_
        rintro r w' ⟨rfl, _, hSn⟩
        exact ⟨rfl, hO', hSn⟩
      | false =>
        rw [if_neg (by rw [hp]; decide)] at eO
        subst eO
        have hm := (Um.jjd_r sd b M 1 s).2.1
        rw [hm, jjd_L]
        refine (jStep_num (Q := fun w' => WordsOk c M ∧ Sx bs w0 w' (putL l [(i, B, memL c C M), (j, C, rowW M.ws c.n), (k, P, [.int .i64 sl, .int .i64 sd, .int .i64 b, .int .u64 (s : Nat), .int .u64 (sn : Nat), jgF sd b s, .int .i64 (jgR sd b s 0)])]) e) (hS.get k hk) (jNum_j hS i j k hi hj hk hij hik hjk hr i1 h0 h1 M hM i2 hd0 hd1 hp)).mono ?_
        rintro r w' ⟨rfl, _, hSn⟩
        exact ⟨rfl, hO', hSn⟩
    · obtain ⟨M, hM⟩ : ∃ M, M = Um.mtouch c m 3 4 sl s (Um.withN s sd b) := ⟨_, rfl⟩
      have eO : O = ⟨M, 0, s, if M.l.done then 2 else 0⟩ := by rw [hO, hM]; rfl
      cases hdn : M.l.done with
      | true =>
        rw [hdn, if_pos rfl] at eO
        subst eO
        refine (jStep_lay (Q := fun w' => WordsOk c M ∧ Sx bs w0 w' (putL l [(i, B, memL c C M), (j, C, rowW M.ws c.n), (k, P, jnL sl sd b sn ⟨M, 0, s, 2⟩)]) e) (hS.get k hk) (jLay_t hS i j k hi hj hk hij hik hjk hr i1 h0 h1 M hM i2 hdn)).mono ?_
        rintro r w' ⟨rfl, _, hSn⟩
        exact ⟨rfl, hO', hSn⟩
      | false =>
        rw [hdn, if_neg (by decide)] at eO
        subst eO
        refine (jStep_lay (Q := fun w' => WordsOk c M ∧ Sx bs w0 w' (putL l [(i, B, memL c C M), (j, C, rowW M.ws c.n), (k, P, jnL sl sd b sn ⟨M, 0, s, 0⟩)]) e) (hS.get k hk) (jLay_f hS i j k hi hj hk hij hik hjk hr i1 h0 h1 M hM i2 hdn)).mono ?_
        rintro r w' ⟨rfl, _, hSn⟩
        exact ⟨rfl, hO', hSn⟩
  · have eO : O = o := by rw [hO]; exact Um.jstep_end hz
    subst eO
    have hF : jnF O = .nilFunc := by unfold jnF; rw [if_pos hz]
    have hk' := hk
    unfold jnL at hk'
    rw [hF] at hk'
    refine (jStep_done (hS.get k hk') _).mono ?_
    rintro r w' ⟨rfl, rfl⟩
    exact ⟨rfl, hO', by rw [put_same3j hi hj hk]; exact hS⟩
theorem oDone_any {o : Um.Ls} (hB : BlkAt w P (owL sl sd b o)) : Calls Tryz.prog 163 #[.pointer (some ⟨P, 0, none⟩)] w fun r w' => r = .returned (.bool o.dn) ∧ w' = w := by
  obtain ⟨m, lk, s, dn⟩ := o
  cases dn with
  | true => exact oDone_n hB
  | false =>
    cases lk with
    | true => exact oDone_f _ _ _ hB
    | false => exact oDone_f _ _ _ hB
theorem oStep_any (hS : Sx bs w0 w l e) (i j k : Nat) (o O : Um.Ls) (hO : O = Um.wstep c sl sd b o) (hi : l[i]? = some (B, memL c C o.m)) (hj : l[j]? = some (C, rowW o.m.ws c.n)) (hk : l[k]? = some (P, owL sl sd b o)) (hij : i ≠ j) (hik : i ≠ k) (hjk : j ≠ k) (hr : c.r = true) (ho : Um.Lok c o) (h0 : -9223372036854775808 ≤ sl) (h1 : sl ≤ 9223372036854775807) :
    Calls Tryz.prog 162 #[.pointer (some ⟨P, 0, none⟩), .pointer (some ⟨B, 0, none⟩)] w fun r w' => r = .returned (.tuple #[]) ∧ Um.Lok c O ∧ Sx bs w0 w' (putL l [(i, B, memL c C O.m), (j, C, rowW O.m.ws c.n), (k, P, owL sl sd b O)]) e := by
  have hO' : Um.Lok c O := hO ▸ Um.wstep_ok ho
  obtain ⟨m, lk, s, dn⟩ := o
  obtain ⟨i1, i2⟩ := ho
  dsimp only at *
  cases dn with
  | true =>
    have eO : O = ⟨m, lk, s, true⟩ := by rw [hO]; exact Um.wstep_done rfl
    subst eO
    refine (oStep_done (hS.get k hk) _).mono ?_
    rintro r w' ⟨rfl, rfl⟩
    exact ⟨rfl, hO', by rw [put_same3j hi hj hk]; exact hS⟩
  | false =>
    cases lk with
    | false =>
      obtain ⟨M, hM⟩ : ∃ M, M = Um.mtouch c m 1 4 sl 0 0 := ⟨_, rfl⟩
      have eO : O = ⟨M, true, M.l.old, decide (Um.withN M.l.old sd b = M.l.old)⟩ := by rw [hO, hM]; rfl
      by_cases he : Um.withN M.l.old sd b = M.l.old
      · rw [decide_eq_true he] at eO
        subst eO
        refine (oStep_ask (Q := fun w' => WordsOk c M ∧ Sx bs w0 w' (putL l [(i, B, memL c C M), (j, C, rowW M.ws c.n), (k, P, owL sl sd b ⟨M, true, M.l.old, true⟩)]) e) (hS.get k hk) (oAsk_t hS i j k hi hj hk hij hik hjk hr i1 h0 h1 M hM he)).mono ?_
        rintro r w' ⟨rfl, _, hSn⟩
        exact ⟨rfl, hO', hSn⟩
      · rw [decide_eq_false he] at eO
        subst eO
        refine (oStep_ask (Q := fun w' => WordsOk c M ∧ Sx bs w0 w' (putL l [(i, B, memL c C M), (j, C, rowW M.ws c.n), (k, P, owL sl sd b ⟨M, true, M.l.old, false⟩)]) e) (hS.get k hk) (oAsk_f hS i j k hi hj hk hij hik hjk hr i1 h0 h1 M hM he)).mono ?_
        rintro r w' ⟨rfl, _, hSn⟩
        exact ⟨rfl, hO', hSn⟩
    | true =>
      obtain ⟨M, hM⟩ : ∃ M, M = Um.mtouch c m 3 4 sl s (Um.withN s sd b) := ⟨_, rfl⟩
      have eO : O = ⟨M, false, s, M.l.done⟩ := by rw [hM]; exact hO
      cases hdn : M.l.done with
      | true =>
        rw [hdn] at eO
        subst eO
        refine (oStep_lay (Q := fun w' => WordsOk c M ∧ Sx bs w0 w' (putL l [(i, B, memL c C M), (j, C, rowW M.ws c.n), (k, P, owL sl sd b ⟨M, false, s, true⟩)]) e) (hS.get k hk) (oLay_t hS i j k hi hj hk hij hik hjk hr i1 h0 h1 M hM i2 hdn)).mono ?_
        rintro r w' ⟨rfl, _, hSn⟩
        exact ⟨rfl, hO', hSn⟩
      | false =>
        rw [hdn] at eO
        subst eO
        refine (oStep_lay (Q := fun w' => WordsOk c M ∧ Sx bs w0 w' (putL l [(i, B, memL c C M), (j, C, rowW M.ws c.n), (k, P, owL sl sd b ⟨M, false, s, false⟩)]) e) (hS.get k hk) (oLay_f hS i j k hi hj hk hij hik hjk hr i1 h0 h1 M hM i2 hdn)).mono ?_
        rintro r w' ⟨rfl, _, hSn⟩
        exact ⟨rfl, hO', hSn⟩
end
end
end Go.Proofs.YtapgghciieloaaaGreat
namespace Um
set_option maxRecDepth 100000
def slotsTo (x : Nat) (a : Int) (k : Nat) : List Int := ((List.range k).filter (fun j : Nat => hasN x a (j : Int))).map (fun j : Nat => (j : Int))
def slotsN (x : Nat) (a : Int) : List Int := slotsTo x a 12
def othersN (x : Nat) (a s : Int) : List Int := (slotsN x a).filter (fun y => y != s)
def othersTo (x : Nat) (a s : Int) (k : Nat) : List Int := (slotsTo x a k).filter (fun y => y != s)
theorem slotsTo_hit {x : Nat} {a : Int} {k : Nat} (h : hasN x a (k : Int) = true) : slotsTo x a (k + 1) = slotsTo x a k ++ [(k : Int)] := by
  simp [slotsTo, List.range_succ, List.filter_append, h]
theorem slotsTo_miss {x : Nat} {a : Int} {k : Nat} (h : hasN x a (k : Int) = false) : slotsTo x a (k + 1) = slotsTo x a k := by
  simp [slotsTo, List.range_succ, List.filter_append, h]
theorem slotsTo_length (x : Nat) (a : Int) (k : Nat) : (slotsTo x a k).length ≤ k := by
  unfold slotsTo
  rw [List.length_map]
  exact Nat.le_trans (List.length_filter_le _ _) (by simp)
theorem othersTo_hit {x : Nat} {a s : Int} {k : Nat} (h : hasN x a (k : Int) = true) (hs : (k : Int) ≠ s) : othersTo x a s (k + 1) = othersTo x a s k ++ [(k : Int)] := by
  unfold othersTo
  rw [slotsTo_hit h]
  simp [List.filter_append, hs]
theorem othersTo_same {x : Nat} {a s : Int} {k : Nat} (hs : (k : Int) = s) : othersTo x a s (k + 1) = othersTo x a s k := by
  unfold othersTo
  cases h : hasN x a (k : Int)
  · rw [slotsTo_miss h]
  · rw [slotsTo_hit h]
    simp [List.filter_append, hs]
theorem othersTo_miss {x : Nat} {a s : Int} {k : Nat} (h : hasN x a (k : Int) = false) : othersTo x a s (k + 1) = othersTo x a s k := by
  unfold othersTo
  rw [slotsTo_miss h]
theorem othersTo_length (x : Nat) (a s : Int) (k : Nat) : (othersTo x a s k).length ≤ k :=
  Nat.le_trans (List.length_filter_le _ _) (slotsTo_length x a k)
end Um
namespace Go.Proofs.YtapgghciieloaaaGreat
section
set_option maxRecDepth 100000
open Go.RowKit
set_option maxHeartbeats 400000 in
theorem mBit_any (a b : Int) (w : World) :
    Calls Tryz.prog 133 #[.int .i64 a, .int .i64 b] w fun e w' => e = .returned (.int .u64 (Um.slotN a b : Int)) ∧ w' = w := by
  by_cases ho : (a = 0 ∨ a = 1) ∧ 0 ≤ b ∧ b < 12
  · have e : Um.slotN a b = 2 ^ (12 * a + b).toNat := by unfold Um.slotN Um.bitAt; rw [if_pos (Um.okS_iff.2 ho)]
    have E : Hid (Um.slotN a b = 2 ^ (12 * a + b).toNat) := e
    clear e
    obtain ⟨ha, hb0, hb1⟩ := ho
    rcases ha with rfl | rfl
    all_goals
      go_enter Tryz.func133, Tryz.ntmps133
      go_wp2
      all_goals go_ret
      all_goals refine ⟨ret_u64 ?_, rfl⟩
      all_goals rw [E.out]
      all_goals rw [wrap_pow _ (by omega)]
      all_goals first | rfl | (congr 3; omega)
  · have e : Um.slotN a b = 0 := by unfold Um.slotN; rw [if_neg (fun h => ho (Um.okS_iff.1 h))]
    rw [e]
    go_enter Tryz.func133, Tryz.ntmps133
    go_wp2
    all_goals go_ret
    all_goals first | exact ⟨rfl, rfl⟩ | omega
set_option maxHeartbeats 400000 in
theorem mHas_any (x : Nat) (a b : Int) (w : World) (hx : Um.Word x) :
    Calls Tryz.prog 125 #[.int .u64 x, .int .i64 a, .int .i64 b] w fun e w' => e = .returned (.bool (Um.hasN x a b)) ∧ w' = w := by
  go_enter Tryz.func125, Tryz.ntmps125
  go_wp2_with (go_at_call 133; refine (mBit_any _ _ _).mono ?_; rintro e w' ⟨rfl, rfl⟩)
  go_ret
  refine ⟨ret_bool ?_, rfl⟩
  rw [u64_and_nat _ _ hx (Um.slot_word a b), ne0, Um.and_slot]
set_option maxHeartbeats 400000 in
theorem mWith_any (x : Nat) (a b : Int) (w : World) (hx : Um.Word x) :
    Calls Tryz.prog 137 #[.int .u64 x, .int .i64 a, .int .i64 b] w fun e w' => e = .returned (.int .u64 (Um.withN x a b)) ∧ w' = w := by
  go_enter Tryz.func137, Tryz.ntmps137
  go_wp2_with (go_at_call 133; refine (mBit_any _ _ _).mono ?_; rintro e w' ⟨rfl, rfl⟩)
  go_ret
  refine ⟨ret_u64 ?_, rfl⟩
  rw [u64_or_nat _ _ hx (Um.slot_word a b), Um.or_slot]
set_option maxHeartbeats 400000 in
theorem mrAt_any (a b : Int) (w : World) :
    Calls Tryz.prog 63 #[.int .i64 a, .int .i64 b] w fun e w' => e = .returned (.int .i64 (if Um.okS a b then (Um.bitAt a b : Int) else -1)) ∧ w' = w := by
  by_cases ho : (a = 0 ∨ a = 1) ∧ 0 ≤ b ∧ b < 12
  · have e : (if Um.okS a b then (Um.bitAt a b : Int) else -1) = 12 * a + b := by rw [if_pos (Um.okS_iff.2 ho)]; unfold Um.bitAt; omega
    rw [e]
    clear e
    obtain ⟨ha, hb0, hb1⟩ := ho
    rcases ha with rfl | rfl
    all_goals
      go_enter Tryz.func63, Tryz.ntmps63
      go_wp2
      all_goals go_ret
      all_goals first | omega | exact ⟨ret_i64 (by omega), rfl⟩
  · have e : (if Um.okS a b then (Um.bitAt a b : Int) else -1) = -1 := by rw [if_neg (fun h => ho (Um.okS_iff.1 h))]
    rw [e]
    go_enter Tryz.func63, Tryz.ntmps63
    go_wp2
    all_goals go_ret
    all_goals first | exact ⟨rfl, rfl⟩ | omega
theorem mrAt_yes {a b : Int} (ho : Um.okS a b = true) (w : World) :
    Calls Tryz.prog 63 #[.int .i64 a, .int .i64 b] w fun e w' => e = .returned (.int .i64 (Um.bitAt a b : Int)) ∧ w' = w := by
  have := mrAt_any a b w
  rwa [if_pos ho] at this
theorem mrAt_no {a b : Int} (ho : Um.okS a b = false) (w : World) :
    Calls Tryz.prog 63 #[.int .i64 a, .int .i64 b] w fun e w' => e = .returned (.int .i64 (-1)) ∧ w' = w := by
  have := mrAt_any a b w
  rwa [if_neg (by simp [ho])] at this
set_option maxHeartbeats 400000 in
theorem mrHas_any (x : Nat) (a b : Int) (w : World) (hx : Um.Word x) :
    Calls Tryz.prog 49 #[.int .u64 x, .int .i64 a, .int .i64 b] w fun e w' => e = .returned (.bool (Um.hasN x a b)) ∧ w' = w := by
  cases ho : Um.okS a b with
  | true =>
    have hlt := Um.bitAt_lt ho
    have e : Um.hasN x a b = x.testBit (Um.bitAt a b) := by unfold Um.hasN; rw [ho]; rfl
    rw [e]
    clear e
    have HA := hide (mrAt_yes ho)
    generalize Um.bitAt a b = k at *
    go_enter Tryz.func49, Tryz.ntmps49
    go_wp2_with (first
      | (go_at_call 63; refine (unhide HA _).mono ?_; rintro e w' ⟨rfl, rfl⟩)
      | (go_at_call 95; refine (bit_any _ _ _ hx (by omega) (by omega)).mono ?_; rintro e w' ⟨rfl, rfl⟩))
    go_ret
    exact ⟨rfl, rfl⟩
  | false =>
    have e : Um.hasN x a b = false := by unfold Um.hasN; rw [ho]; rfl
    rw [e]
    clear e
    have HA := hide (mrAt_no ho)
    go_enter Tryz.func49, Tryz.ntmps49
    go_wp2_with (first
      | (go_at_call 63; refine (unhide HA _).mono ?_; rintro e w' ⟨rfl, rfl⟩))
    go_ret
    exact ⟨rfl, rfl⟩
set_option maxHeartbeats 400000 in
theorem mrWith_any (x : Nat) (a b : Int) (w : World) (hx : Um.Word x) :
    Calls Tryz.prog 26 #[.int .u64 x, .int .i64 a, .int .i64 b] w fun e w' => e = .returned (.int .u64 (Um.withN x a b)) ∧ w' = w := by
  cases ho : Um.okS a b with
  | true =>
    have hlt := Um.bitAt_lt ho
    have e : Um.withN x a b = Um.setN x ((Um.bitAt a b : Int).toNat) true := by unfold Um.withN; rw [ho]; rfl
    rw [e]
    clear e
    have HA := hide (mrAt_yes ho)
    generalize Um.bitAt a b = k at *
    go_enter Tryz.func26, Tryz.ntmps26
    go_wp2_with (first
      | (go_at_call 63; refine (unhide HA _).mono ?_; rintro e w' ⟨rfl, rfl⟩)
      | (go_at_call 64; refine (put_any _ _ _ _ hx (by omega) (by omega)).mono ?_; rintro e w' ⟨rfl, rfl⟩))
    go_ret
    exact ⟨rfl, rfl⟩
  | false =>
    have e : Um.withN x a b = x := Um.with_bad _ _ _ ho
    rw [e]
    clear e
    have HA := hide (mrAt_no ho)
    go_enter Tryz.func26, Tryz.ntmps26
    go_wp2_with (first
      | (go_at_call 63; refine (unhide HA _).mono ?_; rintro e w' ⟨rfl, rfl⟩))
    go_ret
    exact ⟨rfl, rfl⟩
end
section
set_option maxRecDepth 100000
open Go.RowKit Go.Shelf
attribute [local go_sem] Oper.semAt_some
def KeepsTwo (Bw Bk : Nat) (A B : World) : Prop :=
  (∀ v, A.cell? ⟨Bw, 0, none⟩ = some v → B.cell? ⟨Bw, 0, none⟩ = some v) ∧ (∀ v, A.cell? ⟨Bk, 0, none⟩ = some v → B.cell? ⟨Bk, 0, none⟩ = some v)
theorem keepsTwo_t {Bw Bk : Nat} {A B C : World} (h : KeepsTwo Bw Bk A B) (k : KeepsTwo Bw Bk B C) : KeepsTwo Bw Bk A C :=
  ⟨fun v e => k.1 v (h.1 v e), fun v e => k.2 v (h.2 v e)⟩
theorem keepsTwo_b {Bw Bk : Nat} {w : World} (W : World) (l : Nat) (o o' : Obj) (_ : w.heap.size ≤ l) (h : W.heap[l]? = some o) (hc : o.isCells = false) (_ : o.isWalk = false) : KeepsTwo Bw Bk W (W.putObj l o') :=
  ⟨fun v e => cell_kept e (grownBy_putObj' W l o') (fun r er => by cases er; exact ⟨o, h, hc⟩), fun v e => cell_kept e (grownBy_putObj' W l o') (fun r er => by cases er; exact ⟨o, h, hc⟩)⟩
theorem keepsTwo_boxed {Bw Bk : Nat} {A B : World} {t u : TypeId} {x y : Value} (h1 : Boxed A Bw t x) (h2 : Boxed A Bk u y) (k1 : Boxed B Bw t x) (k2 : Boxed B Bk u y) : KeepsTwo Bw Bk A B := by
  refine ⟨fun v e => ?_, fun v e => ?_⟩
  · rw [h1.cell] at e; cases e; exact k1.cell
  · rw [h2.cell] at e; cases e; exact k2.cell
theorem appended2 {W w1 : World} {n₀ base B : Nat} {t e : TypeId} {size : Nat} {v v' : Value} {k m : Nat} {xs ys : List Value} {tmp : Obj}
    (hv : Boxed W B t v) (hrow : W.ownsRow base e size v k xs) (hbs : base ≤ W.heap.size) (hB : n₀ ≤ B) (hB2 : B < base)
    (hown' : w1.ownsRow base e size v' m ys) (hgrow : (W.alloc tmp).grownBy w1 v.ownBlock) :
    Boxed w1 B t v ∧ Boxed (w1.setCell ⟨B, 0, none⟩ v') B t v' ∧ (w1.setCell ⟨B, 0, none⟩ v').ownsRow base e size v' m ys ∧ KeepsOthers W (w1.setCell ⟨B, 0, none⟩ v') ∧ Below n₀ W (w1.setCell ⟨B, 0, none⟩ v')
      ∧ ∀ C t' u, C < base → C ≠ B → Boxed W C t' u → Boxed (w1.setCell ⟨B, 0, none⟩ v') C t' u := by
  have nr : ∀ C, C < base → some C ≠ v.ownBlock := by
    intro C hC
    rcases hrow.2 with ⟨rfl, _⟩ | ⟨g, cap, cur, rfl, hg, _, _⟩
    · simp [Value.ownBlock]
    · intro e'
      obtain rfl : C = g := by simpa [Value.ownBlock] using e'
      omega
  have nr' : some B ≠ v'.ownBlock := by
    rcases hown'.2 with ⟨rfl, _⟩ | ⟨g, cap, cur, rfl, hg, _, _⟩
    · simp [Value.ownBlock]
    · intro e'
      obtain rfl : B = g := by simpa [Value.ownBlock] using e'
      omega
  have hv1 : Boxed w1 B t v := (hv.alloc tmp).kept hgrow (nr B hB2)
  refine ⟨hv1, hv1.set v', hown'.kept (grownBy_setCell' w1 B v') (.inr nr'.symm), ?_, ?_, ?_⟩
  · refine ((KeepsOthers.alloc W tmp).trans (KeepsOthers.of_grownBy hgrow fun j o ej hj => ?_)).trans (KeepsOthers.setCell _ _ _)
    rcases (hrow.alloc tmp).2 with ⟨rfl, _⟩ | ⟨g, cap, cur, rfl, _, hgb, _⟩
    · simp [Value.ownBlock] at ej
    · obtain rfl : g = j := by simpa [Value.ownBlock] using ej
      rw [hgb] at hj; cases hj; rfl
  · refine (((Below.refl n₀ W).alloc (by omega) tmp).grown hgrow (by simp; omega) fun j ej => ?_).setCell (p := ⟨B, 0, none⟩) hB v'
    rcases hrow.2 with ⟨rfl, _⟩ | ⟨g, cap, cur, rfl, hb, _, _⟩
    · simp [Value.ownBlock] at ej
    · obtain rfl : g = j := by simpa [Value.ownBlock] using ej
      omega
  · intro C t' u hC hne hb
    exact ((hb.alloc tmp).kept hgrow (nr C hC)).kept (grownBy_setCell' w1 B v') (by simpa using hne)
set_option maxRecDepth 100000 in
set_option maxHeartbeats 2000000 in
theorem marked1_in (n : Nat) (hn : 1 ≤ n) (l Bw Bk x : Nat) (hx : Um.Word x) (a : Int) (J Jx : List Int → World → Prop)
    (hY : ∀ pre y W, J pre W → pre.length < 12 → YieldAt Fence.wide (n - 1) Tryz.prog l #[.int .i64 y] W fun e W' =>
      (e = .returned (.bool true) ∧ J (pre ++ [y]) W' ∧ KeepsTwo Bw Bk W W') ∨ (e = .returned (.bool false) ∧ Jx (pre ++ [y]) W'))
    (W : World) (hBw : W.cell? ⟨Bw, 0, none⟩ = some (.int .u64 x)) (hBk : W.cell? ⟨Bk, 0, none⟩ = some (.int .i64 a)) (h0 : J [] W) :
    CallsIn Fence.wide n Tryz.prog 145 #[.func (.yield l) #[] #[], .pointer (some ⟨Bw, 0, none⟩), .pointer (some ⟨Bk, 0, none⟩)] W fun e W' => (∃ v, e = .returned v) ∧
      ((∃ ys, ys = Um.slotsN x a ∧ J ys W') ∨ (∃ pre, True ∧ Jx pre W')) := by
  refine callsIn_of_wp Tryz.func145 rfl trivial ?_ rfl
  simp only [Tryz.ntmps145, List.size_toArray, List.length_cons, List.length_nil, Nat.reduceAdd, Nat.reduceSub, Array.replicate_succ, Array.replicate_zero, List.push_toArray, List.append_toArray, List.nil_append, List.cons_append]
  gi_wp2
  gi_loopw [5] (fun i wr => ∃ k : Nat, k ≤ 12 ∧ i = .int .i64 k ∧ J (Um.slotsTo x a k) wr ∧ wr.cell? ⟨Bw, 0, none⟩ = some (.int .u64 x) ∧ wr.cell? ⟨Bk, 0, none⟩ = some (.int .i64 a))
    (fun i _ => 12 - (intOf i).toNat)
  case atStart => exact ⟨0, Nat.zero_le _, rfl, h0, hBw, hBk⟩
  case round =>
    obtain ⟨k, hk, rfl, hJs, hcw, hck⟩ := hrel
    by_cases hlt : k < 12
    · cases hh : Um.hasN x a (k : Int)
      · have hs := hide (Um.slotsTo_miss hh)
        gi_wp2_with (refine ⟨trivial, ?_⟩; gi_at_call 125; refine (callsIn_wide.2 (mHas_any _ _ _ _ hx)).mono ?_; rintro e w' ⟨rfl, rfl⟩)
        refine ⟨fun _ h => (by cases h), ?_⟩
        gi_wp2
        go_roundw
        case rel => exact ⟨k + 1, by omega, by simp, by rw [unhide hs]; exact hJs, hcw, hck⟩
        case measure => simp [intOf]; omega
      · have hs := hide (Um.slotsTo_hit hh)
        obtain ⟨fn, tmps, assign, body, hy, hR⟩ := hY _ (k : Int) wr hJs (by have := Um.slotsTo_length x a k; omega)
        gi_wp2_with (refine ⟨trivial, ?_⟩; gi_at_call 125; refine (callsIn_wide.2 (mHas_any _ _ _ _ hx)).mono ?_; rintro e w' ⟨rfl, rfl⟩)
        refine hR.mono ?_
        rintro e W3 (⟨rfl, hJ3, hk3⟩ | ⟨rfl, hJx3⟩)
        · gi_wp2
          go_roundw
          case rel => exact ⟨k + 1, by omega, by simp, by rw [unhide hs]; exact hJ3, hk3.1 _ hcw, hk3.2 _ hck⟩
          case measure => simp [intOf]; omega
        · gi_wp2
          refine bodyPost_ret (results_none rfl _ _ _) rfl ?_
          exact ⟨⟨_, rfl⟩, .inr ⟨_, trivial, hJx3⟩⟩
    · obtain rfl : k = 12 := by omega
      gi_wp2
      go_end0
      exact ⟨⟨_, rfl⟩, .inl ⟨_, rfl, hJs⟩⟩
set_option maxHeartbeats 1000000 in
theorem marked_in (n : Nat) (x : Nat) (a : Int) (w : World) :
    CallsIn Fence.wide n Tryz.prog 141 #[.int .u64 x, .int .i64 a] w fun e w' => e = .returned (.func (.func 145) #[] #[.pointer (some ⟨w.heap.size, 0, none⟩), .pointer (some ⟨w.heap.size + 1, 0, none⟩)]) ∧ w' = (w.alloc (.cells #[.int .u64 x] 22)).alloc (.cells #[.int .i64 a] 3) := by
  refine callsIn_of_wp Tryz.func141 rfl trivial ?_ rfl
  simp only [Tryz.ntmps141, List.size_toArray, List.length_cons, List.length_nil, Nat.reduceAdd, Nat.reduceSub, Array.replicate_succ, Array.replicate_zero, List.push_toArray, List.append_toArray, List.nil_append, List.cons_append]
  gi_wp2
  go_ret
  exact ⟨rfl, rfl⟩
theorem marked_stops (n : Nat) (hn : 1 ≤ n) (Bw Bk x : Nat) (hx : Um.Word x) (a : Int) (w : World) (hw : Bw < w.heap.size) (hk : Bk < w.heap.size)
    (hcw : w.cell? ⟨Bw, 0, none⟩ = some (.int .u64 x)) (hck : w.cell? ⟨Bk, 0, none⟩ = some (.int .i64 a)) :
    SeqStopsK Fence.wide n Tryz.prog 145 #[.pointer (some ⟨Bw, 0, none⟩), .pointer (some ⟨Bk, 0, none⟩)] (fun y : Int => #[Value.int .i64 y]) (KeepsTwo Bw Bk) (fun ys => ys = Um.slotsN x a) (fun _ => True) 12 w := fun l J Jx W hW _ _ hY h0 =>
  marked1_in n hn l Bw Bk x hx a J Jx hY W ((hW.cell (p := ⟨Bw, 0, none⟩) hw).trans hcw) ((hW.cell (p := ⟨Bk, 0, none⟩) hk).trans hck) h0
end
section
set_option maxRecDepth 100000
open Go.RowKit Go.Shelf
attribute [local go_sem] Oper.semAt_some
theorem infoInt : (Tryz.prog.info? 3).map (fun i => (i.zero, i.size, i.bytes)) = some (some (.int .i64 0), 1, 8) := by kernel_rfl
theorem ownsRow_base {W : World} {base base' : Nat} {e : TypeId} {size : Nat} {v : Value} {k : Nat} {xs : List Value} (h : W.ownsRow base e size v k xs) (hb : base' ≤ base) : W.ownsRow base' e size v k xs := by
  refine ⟨h.1, ?_⟩
  rcases h.2 with h | ⟨g, cap, cur, rfl, hg, h1, h2, h3, h4, h5⟩
  · exact .inl h
  · exact .inr ⟨g, cap, cur, rfl, by omega, h1, h2, h3, h4, h5⟩
def butN (s : Int) (l : List Int) : List Int := l.filter (fun y => y != s)
theorem butN_same {s y : Int} {l : List Int} (h : y = s) : butN s (l ++ [y]) = butN s l := by simp [butN, h]
theorem butN_hit {s y : Int} {l : List Int} (h : ¬ y = s) : butN s (l ++ [y]) = butN s l ++ [y] := by simp [butN, h]
set_option maxRecDepth 100000 in
set_option maxHeartbeats 2000000 in
theorem mOthers_any (x : Nat) (a s : Int) (w : World) (hx : Um.Word x) :
    Calls Tryz.prog 135 #[.int .u64 x, .int .i64 a, .int .i64 s] w fun e W' => ∃ v, e = .returned v ∧ W'.ownsRow w.heap.size 3 1 v (Um.othersN x a s).length ((Um.othersN x a s).map (Value.int .i64)) ∧ Below w.heap.size w W' := by
  refine (callsIn_wide (n := 3)).1 ?_
  obtain ⟨i0, hi, hz0, hz1, hz2⟩ := info_parts infoInt
  refine callsIn_of_wp_marks Tryz.func135 rfl trivial ?_ rfl
  simp only [Tryz.ntmps135, List.size_toArray, List.length_cons, List.length_nil, Nat.reduceAdd, Nat.reduceSub, Array.replicate_succ, Array.replicate_zero, List.push_toArray, List.append_toArray, List.nil_append, List.cons_append]
  gi_wp2_with (refine ⟨trivial, ?_⟩; gi_at_call 141; refine (marked_in _ _ _ _).mono ?_; rintro e w' ⟨rfl, rfl⟩)
  have bS := Boxed.new w 3 (.int .i64 s)
  have bO := Boxed.new (w.alloc (.cells #[.int .i64 s] 3)) 41 (.slice none 0 0)
  have bW := Boxed.new ((w.alloc (.cells #[.int .i64 s] 3)).alloc (.cells #[.slice none 0 0] 41)) 22 (.int .u64 x)
  have bK := Boxed.new (((w.alloc (.cells #[.int .i64 s] 3)).alloc (.cells #[.slice none 0 0] 41)).alloc (.cells #[.int .u64 x] 22)) 3 (.int .i64 a)
  simp only [World.size_alloc] at bO bW bK
  have hB0 : Below w.heap.size w ((((w.alloc (.cells #[.int .i64 s] 3)).alloc (.cells #[.slice none 0 0] 41)).alloc (.cells #[.int .u64 x] 22)).alloc (.cells #[.int .i64 a] 3)) := ((((Below.refl _ w).alloc (Nat.le_refl _) _).alloc (by simp) _).alloc (by simp; omega) _).alloc (by simp; omega) _
  refine wpIn_rangeFunc_ownG rfl (by omega) (gf := 145) (lb := #[.pointer (some ⟨w.heap.size + 1 + 1, 0, none⟩), .pointer (some ⟨w.heap.size + 1 + 1 + 1, 0, none⟩)]) rfl trivial (enters_of Tryz.func145 (by kernel_rfl) rfl)
    (marked_stops (3 - 1) (by omega) (w.heap.size + 1 + 1) (w.heap.size + 1 + 1 + 1) x hx a _ (by simp) (by simp) (bW.alloc _).cell bK.cell) keepsTwo_t keepsTwo_b (Below.refl _ _) (fun _ => rfl)
    (fun pre W => (∃ v, Boxed W (w.heap.size + 1) 41 v ∧ W.ownsRow (w.heap.size + 4) 3 1 v (butN s pre).length ((butN s pre).map (Value.int .i64)) ∧ True) ∧ (Boxed W w.heap.size 3 (.int .i64 s) ∧ Boxed W (w.heap.size + 1 + 1) 22 (.int .u64 x) ∧ Boxed W (w.heap.size + 1 + 1 + 1) 3 (.int .i64 a)) ∧ Below w.heap.size w W ∧ w.heap.size + 4 ≤ W.heap.size)
    (fun _ _ _ => False)
    ?hI
    (fun _ _ _ _ _ hs _ _ => hs)
    ⟨⟨_, (bO.alloc _).alloc _, World.ownsRow_nil _ _ _ _, trivial⟩, ⟨((bS.alloc _).alloc _).alloc _, bW.alloc _, bK⟩, hB0, by simp⟩
    (fun y => { tmps := #[.int .u64 x, .int .i64 a, .int .i64 s, undef, undef, .pointer (some ⟨w.heap.size, 0, none⟩), .slice none 0 0, .pointer (some ⟨w.heap.size + 1, 0, none⟩), .int .i64 y, .int .u64 x, .int .i64 a, .func (.func 145) #[] #[.pointer (some ⟨w.heap.size + 1 + 1, 0, none⟩), .pointer (some ⟨w.heap.size + 1 + 1 + 1, 0, none⟩)], .int .i64 y, undef, undef, undef, undef, undef, undef, undef, undef], defers := [] }) ?assign ?body ?done ?stop
  case hI =>
    exact OwnFrom.and (Own.from (holdsRow_own (w.heap.size + 4) (w.heap.size + 1) 41 3 1 (fun pre : List Int => (butN s pre).length) (fun pre : List Int => (butN s pre).map (Value.int .i64)) (fun _ _ => True)) _)
      (OwnFrom.and (OwnFrom.and (Own.from (boxed_own _ _ _) _) (OwnFrom.and (Own.from (boxed_own _ _ _) _) (Own.from (boxed_own _ _ _) _))) (OwnFrom.and (ownFrom_below (Nat.le_refl _) (by simp; omega)) (fun _ _ _ _ hs hg _ => Nat.le_trans hs hg.size)))
  case assign =>
    intro l x W K hK
    gi_wp2
    exact hK
  case body =>
    rintro l pre y W ⟨⟨v, hv, hrow, _⟩, ⟨hs, hw, hk⟩, hB, hs3⟩ hlt
    have hc := hv.cell
    have hcs := hs.cell
    have hpl : (butN s pre).length ≤ pre.length := List.length_filter_le _ _
    by_cases hys : y = s
    · have hbn : butN s (pre ++ [y]) = butN s pre := butN_same hys
      have HBN := hide hbn
      clear hbn
      gi_wp2
      exact ⟨KeepsFrom.refl _ _, keepsTwo_boxed hw hk hw hk, ⟨v, hv, by rw [unhide HBN]; exact hrow, trivial⟩, ⟨hs, hw, hk⟩, hB, hs3⟩
    · have hbn : butN s (pre ++ [y]) = butN s pre ++ [y] := butN_hit hys
      have HBN := hide hbn
      clear hbn
      gi_wp2_with (gi_at_builtin; refine wpListIn_append_own _ rfl _ _ 41 rfl (w.heap.size + 4) 3 i0 (.int .i64 0) 1 8 Tryz.underlying41 hi hz0 hz1 hz2 rfl (by decide) _ _ _ rfl (hrow.alloc _) ⟨W.heap.size, 0, none⟩ 1 1 [.int .i64 y] rfl rfl (cell_one_new _ _ _) (by simp [Value.oneCell']) (by unfold maxLen; omega) (by omega) (by simp; omega) ?_; intro v' w1 hown' hgrow _; obtain ⟨g', cap', rfl⟩ := ownsRow_succ hown'; obtain ⟨hv1, hv2, hr2, hk2, hb2, hb3⟩ := appended2 (n₀ := w.heap.size) hv hrow hs3 (by omega) (by omega) hown' hgrow; have hc1 := hv1.cell; have hf1 := hv1.frozen)
      have hw2 := hb3 _ _ _ (by omega) (by omega) hw
      have hk3 := hb3 _ _ _ (by omega) (by omega) hk
      have hs2 := hb3 _ _ _ (by omega) (by omega) hs
      exact ⟨hk2.from _, keepsTwo_boxed hw hk hw2 hk3, ⟨_, hv2, by rw [unhide HBN]; simpa using hr2, trivial⟩, ⟨hs2, hw2, hk3⟩, hB.trans hb2, Nat.le_trans hs3 hb2.size⟩
  case done =>
    rintro D ys W hD rfl ⟨⟨v, hv, hrow, _⟩, ⟨hs, hw, hk⟩, hB, hs3⟩ hK
    have hc := hv.cell
    gi_wp2
    refine ⟨by simp, .inl ⟨_, _, rfl, run_takeDeferred hK, ?_⟩⟩
    exact ⟨_, results_tmp rfl _ _ _, v, rfl, ownsRow_base (ownsRow_putObj hrow _ hK rfl) (by omega), hB.trans (belowK_b (w := w) (Nat.le_refl _) W D _ _ (by simp at hD; omega) hK rfl rfl)⟩
  case stop =>
    rintro D c pre W _ _ h _
    exact h.elim
end
section
set_option maxRecDepth 100000
open Go.RowKit Go.Shelf Go.Sort
def IsRow (W : World) (v : Value) (xs : List Int) : Prop :=
  (v = .slice none 0 0 ∧ xs = []) ∨ ∃ b off cap, v = .slice (some ⟨b, off, none⟩) xs.length cap ∧ xs.length ≤ cap ∧ cap ≤ maxLen ∧ b < W.heap.size ∧ ∀ j, j < xs.length → W.cell? ⟨b, off + j, none⟩ = some (.int .i64 (xs[j]?.getD 0))
theorem IsRow.below {n₀ : Nat} {A B : World} {v : Value} {xs : List Int} (h : IsRow A v xs) (k : Below n₀ A B) (hn : A.heap.size ≤ n₀) : IsRow B v xs := by
  rcases h with h | ⟨b, off, cap, rfl, h1, h2, h3, h4⟩
  · exact .inl h
  · exact .inr ⟨b, off, cap, rfl, h1, h2, Nat.lt_of_lt_of_le h3 k.size, fun j hj => (k.cell (p := ⟨b, off + j, none⟩) (by show b < n₀; omega)).trans (h4 j hj)⟩
theorem below_append {W w1 : World} {n₀ base : Nat} {e : TypeId} {size : Nat} {v : Value} {k : Nat} {xs : List Value} {tmp : Obj}
    (hrow : W.ownsRow base e size v k xs) (hb : n₀ ≤ base) (hbs : n₀ ≤ W.heap.size) (hgrow : (W.alloc tmp).grownBy w1 v.ownBlock) : Below n₀ W w1 := by
  refine ((Below.refl n₀ W).alloc hbs tmp).grown hgrow (by simp; omega) fun j ej => ?_
  rcases hrow.2 with ⟨rfl, _⟩ | ⟨g, cap, cur, rfl, hg, _, _⟩
  · simp [Value.ownBlock] at ej
  · obtain rfl : g = j := by simpa [Value.ownBlock] using ej
    omega
set_option maxRecDepth 100000 in
set_option maxHeartbeats 2000000 in
theorem mrOthers_any (x : Nat) (a s : Int) (w : World) (hx : Um.Word x) :
    Calls Tryz.prog 28 #[.int .u64 x, .int .i64 a, .int .i64 s] w fun e W' => ∃ v, e = .returned v ∧ W'.ownsRow w.heap.size 3 1 v (Um.othersN x a s).length ((Um.othersN x a s).map (Value.int .i64)) ∧ Below w.heap.size w W' := by
  obtain ⟨i0, hi, hz0, hz1, hz2⟩ := info_parts infoInt
  go_enter Tryz.func28, Tryz.ntmps28
  go_wp2
  go_loopw [7, 8] (fun u7 i wr => ∃ k : Nat, k ≤ 12 ∧ i = .int .i64 k ∧ wr.ownsRow w.heap.size 3 1 u7 (Um.othersTo x a s k).length ((Um.othersTo x a s k).map (Value.int .i64)) ∧ Below w.heap.size w wr) (fun _ i _ => 12 - (intOf i).toNat)
  case atStart => exact ⟨0, by omega, rfl, World.ownsRow_nil _ _ _ _, Below.refl _ _⟩
  case round =>
    obtain ⟨k, hk, rfl, hrow, hB⟩ := hrel
    by_cases hlt : k < 12
    · cases hh : Um.hasN x a (k : Int)
      · have hs := hide (Um.othersTo_miss (s := s) hh)
        go_wp2_with (go_at_call 49; refine (mrHas_any _ _ _ _ hx).mono ?_; rintro e w' ⟨rfl, rfl⟩)
        refine ⟨⟨k + 1, by omega, by go_num, by rw [unhide hs]; exact hrow, hB⟩, by simp [intOf]; omega⟩
      · by_cases hks : (k : Int) = s
        · have hs := hide (Um.othersTo_same (x := x) (a := a) hks)
          have hks' : ((k : Int) != s) = false := by simp [hks]
          clear hks
          go_wp2_with (go_at_call 49; refine (mrHas_any _ _ _ _ hx).mono ?_; rintro e w' ⟨rfl, rfl⟩)
          refine ⟨⟨k + 1, by omega, by go_num, by rw [unhide hs]; exact hrow, hB⟩, by simp [intOf]; omega⟩
        · have hs := hide (Um.othersTo_hit hh hks)
          have hks' : ((k : Int) != s) = true := by simp [hks]
          clear hks
          have hpl := Um.othersTo_length x a s k
          go_wp2_with (first
            | (go_at_call 49; refine (mrHas_any _ _ _ _ hx).mono ?_; rintro e w' ⟨rfl, rfl⟩)
            | (at_builtin; refine wpList_append_own _ rfl _ _ 41 rfl w.heap.size 3 i0 (.int .i64 0) 1 8 Tryz.underlying41 hi hz0 hz1 hz2 rfl (by decide) _ _ _ rfl (hrow.alloc _) ⟨_, 0, none⟩ 1 1 [.int .i64 k] rfl rfl (cell_one_new _ _ _) (by simp [Value.oneCell']) (by unfold maxLen; omega) (by omega) (by have := hB.size; simp; omega) ?_; intro v' w1 hown' hgrow _))
          refine ⟨⟨k + 1, by omega, by go_num, by rw [unhide hs]; simpa using hown', hB.trans (below_append hrow (Nat.le_refl _) hB.size hgrow)⟩, by simp [intOf]; omega⟩
    · obtain rfl : k = 12 := by omega
      go_wp2
      go_ret
      exact ⟨_, rfl, hrow, hB⟩
end
section
set_option maxRecDepth 100000
open Go.RowKit Go.Sort
set_option linter.unusedVariables false
set_option linter.unusedSimpArgs false
section
variable {bs : List Nat} {w0 w w' : World} {l e : List (Nat × List Value)}
theorem Sx.sub {l' e' : List (Nat × List Value)} (h : Sx bs w0 w l e) (hs : ∀ p ∈ l', p ∈ l) (hn : l'.Pairwise (fun p q => p.1 ≠ q.1)) (he : ∀ p ∈ e', p ∈ e) : Sx bs w0 w l' e' :=
  ⟨h.off, fun p hp => h.low p (hs p hp), fun p hp => h.blk p (hs p hp), hn, fun p hp => h.eb p (he p hp), fun p hp q hq => h.ed p (he p hp) q (hs q hq)⟩
def placesL (l : List (Nat × List Value)) (us : List (Nat × Nat × List Value)) : Prop := ∀ u ∈ us, ∃ cs, l[u.1]? = some (u.2.1, cs)
theorem Sx.backG {us : List (Nat × Nat × List Value)} {r sb : List (Nat × List Value)} (h : Sx bs w0 w l e) (hu : placesL l us) (hL : Sx (us.map (·.2.1)) w w' (us.map (fun u => (u.2.1, u.2.2)) ++ r) (e ++ sb)) (hsb : ∀ p ∈ sb, w.heap.size ≤ p.1) : Sx bs w0 w' (putL l us ++ r) (e ++ sb) := by
  have h1 : Sx bs w0 w' (putL l us) e := h.sets us hu hL.off (fun u hm => hL.blk (u.2.1, u.2.2) (List.mem_append_left _ (List.mem_map_of_mem hm)))
  have hnd := List.pairwise_append.1 hL.nd
  have hr : ∀ p ∈ r, w.heap.size ≤ p.1 := by
    intro p hp
    rcases hL.low p (List.mem_append_right _ hp) with q | q
    · obtain ⟨u, hu1, hu2⟩ := List.mem_map.1 q
      exact absurd hu2 (hnd.2.2 _ (List.mem_map_of_mem hu1) p hp)
    · exact q
  have hlt : ∀ p ∈ putL l us, p.1 < w.heap.size := by
    intro p hp
    have : p.1 ∈ (putL l us).map (·.1) := List.mem_map_of_mem hp
    rw [putL_fst us l hu] at this
    obtain ⟨q, hq, e⟩ := List.mem_map.1 this
    rw [← e]
    exact (h.blk q hq).lt
  refine ⟨h1.off, fun p hp => ?_, fun p hp => ?_, ?_, fun p hp => hL.eb p hp, fun p hp q hq => ?_⟩
  · rcases List.mem_append.1 hp with q | q
    · exact h1.low p q
    · exact .inr (Nat.le_trans h.size (hr p q))
  · rcases List.mem_append.1 hp with q | q
    · exact h1.blk p q
    · exact hL.blk p (List.mem_append_right _ q)
  · rw [List.pairwise_append]
    refine ⟨h1.nd, hnd.2.1, fun p hp q hq => ?_⟩
    have := hlt p hp
    have := hr q hq
    omega
  · rcases List.mem_append.1 hq with q1 | q1
    · rcases List.mem_append.1 hp with p1 | p1
      · exact h1.ed p p1 q q1
      · have := hlt q q1
        have := hsb p p1
        omega
    · exact hL.ed p hp q (List.mem_append_right _ q1)
section
variable {b1 b2 b3 : Nat} {c1 c2 c3 d1 d2 d3 : List Value} {hb hb' sb : List (Nat × List Value)}
theorem Sx.enters (hS : Sx bs w0 w (l ++ hb) e) (i j k : Nat) (hi : l[i]? = some (b1, c1)) (hj : l[j]? = some (b2, c2)) (hk : l[k]? = some (b3, c3)) (hij : i ≠ j) (hik : i ≠ k) (hjk : j ≠ k) :
    Sx (b1 :: b2 :: b3 :: hb.map (·.1)) w w ((b1, c1) :: (b2, c2) :: (b3, c3) :: hb) e := by
  have hl : Sx bs w0 w l e := hS.sub (fun p hp => List.mem_append_left _ hp) (List.pairwise_append.1 hS.nd).1 (fun p hp => hp)
  have hm := List.pairwise_append.1 hS.nd
  have m1 := List.mem_of_getElem? hi
  have m2 := List.mem_of_getElem? hj
  have m3 := List.mem_of_getElem? hk
  have n1 := hl.ne i j hi hj hij
  have n2 := hl.ne i k hi hk hik
  have n3 := hl.ne j k hj hk hjk
  refine hS.enter ((b1, c1) :: (b2, c2) :: (b3, c3) :: hb) e (fun p hp => ?_) ?_ (fun p hp => hp)
  · rcases List.mem_cons.1 hp with rfl | hp
    · exact List.mem_append_left _ m1
    rcases List.mem_cons.1 hp with rfl | hp
    · exact List.mem_append_left _ m2
    rcases List.mem_cons.1 hp with rfl | hp
    · exact List.mem_append_left _ m3
    · exact List.mem_append_right _ hp
  · refine List.pairwise_cons.2 ⟨fun p hp => ?_, List.pairwise_cons.2 ⟨fun p hp => ?_, List.pairwise_cons.2 ⟨fun p hp => hm.2.2 _ m3 p hp, hm.2.1⟩⟩⟩
    · rcases List.mem_cons.1 hp with rfl | hp
      · exact n1
      rcases List.mem_cons.1 hp with rfl | hp
      · exact n2
      · exact hm.2.2 _ m1 p hp
    · rcases List.mem_cons.1 hp with rfl | hp
      · exact n3
      · exact hm.2.2 _ m2 p hp
theorem Sx.backs (hS : Sx bs w0 w (l ++ hb) e) (i j k : Nat) (hi : l[i]? = some (b1, c1)) (hj : l[j]? = some (b2, c2)) (hk : l[k]? = some (b3, c3))
    (hL : Sx (b1 :: b2 :: b3 :: hb.map (·.1)) w w' ((b1, d1) :: (b2, d2) :: (b3, d3) :: hb') (e ++ sb)) (hsb : ∀ p ∈ sb, w.heap.size ≤ p.1) :
    Sx bs w0 w' (putL l [(i, b1, d1), (j, b2, d2), (k, b3, d3)] ++ hb') (e ++ sb) := by
  have hm := List.pairwise_append.1 hS.nd
  have hl : Sx bs w0 w l e := hS.sub (fun p hp => List.mem_append_left _ hp) hm.1 (fun p hp => hp)
  have m1 := List.mem_of_getElem? hi
  have m2 := List.mem_of_getElem? hj
  have m3 := List.mem_of_getElem? hk
  have hu : placesL l [(i, b1, d1), (j, b2, d2), (k, b3, d3)] := by
    intro u hu
    rcases (by simpa using hu : u = (i, b1, d1) ∨ u = (j, b2, d2) ∨ u = (k, b3, d3)) with rfl | rfl | rfl
    · exact ⟨_, hi⟩
    · exact ⟨_, hj⟩
    · exact ⟨_, hk⟩
  have hn : ∀ p ∈ putL l [(i, b1, d1), (j, b2, d2), (k, b3, d3)], ∃ q ∈ l, q.1 = p.1 := by
    intro p hp
    have : p.1 ∈ (putL l [(i, b1, d1), (j, b2, d2), (k, b3, d3)]).map (·.1) := List.mem_map_of_mem hp
    rw [putL_fst _ l hu] at this
    obtain ⟨q, hq, e⟩ := List.mem_map.1 this
    exact ⟨q, hq, e⟩
  have c3' := List.pairwise_cons.1 hL.nd
  have c2' := List.pairwise_cons.1 c3'.2
  have c1' := List.pairwise_cons.1 c2'.2
  have hlow : ∀ q ∈ hb', (∃ r ∈ hb, r.1 = q.1) ∨ w.heap.size ≤ q.1 := by
    intro q hq
    rcases hL.low q (by simp [hq]) with x | x
    · rcases List.mem_cons.1 x with x | x
      · exact absurd x.symm (c3'.1 q (by simp [hq]))
      rcases List.mem_cons.1 x with x | x
      · exact absurd x.symm (c2'.1 q (by simp [hq]))
      rcases List.mem_cons.1 x with x | x
      · exact absurd x.symm (c1'.1 q hq)
      · obtain ⟨r, hr, e⟩ := List.mem_map.1 x
        exact .inl ⟨r, hr, e⟩
    · exact .inr x
  refine ⟨hS.off.widen hL.off (fun x hx => ?_), fun p hp => ?_, fun p hp => ?_, ?_, fun p hp => hL.eb p hp, fun p hp q hq => ?_⟩
  · rcases List.mem_cons.1 hx with rfl | hx
    · exact hl.low _ m1
    rcases List.mem_cons.1 hx with rfl | hx
    · exact hl.low _ m2
    rcases List.mem_cons.1 hx with rfl | hx
    · exact hl.low _ m3
    · obtain ⟨r, hr, rfl⟩ := List.mem_map.1 hx
      exact hS.low r (List.mem_append_right _ hr)
  · rcases List.mem_append.1 hp with q | q
    · obtain ⟨r, hr, e⟩ := hn p q
      rw [← e]
      exact hl.low r hr
    · rcases hlow p q with ⟨r, hr, e⟩ | x
      · rw [← e]
        exact hS.low r (List.mem_append_right _ hr)
      · exact .inr (Nat.le_trans hS.size x)
  · rcases List.mem_append.1 hp with q | q
    · rcases putL_mem _ l p q with ⟨u, hu', rfl⟩ | ⟨x, hx, hne⟩
      · rcases (by simpa using hu' : u = (i, b1, d1) ∨ u = (j, b2, d2) ∨ u = (k, b3, d3)) with rfl | rfl | rfl
        · exact hL.blk (b1, d1) (by simp)
        · exact hL.blk (b2, d2) (by simp)
        · exact hL.blk (b3, d3) (by simp)
      · have hp' := List.mem_of_getElem? hx
        refine (hl.blk p hp').turn hL.off (fun hm' => ?_)
        rcases List.mem_cons.1 hm' with y | hm'
        · exact hl.ne (cs := c1) (cs' := p.2) i x hi hx (hne (i, b1, d1) (by simp)) y.symm
        rcases List.mem_cons.1 hm' with y | hm'
        · exact hl.ne (cs := c2) (cs' := p.2) j x hj hx (hne (j, b2, d2) (by simp)) y.symm
        rcases List.mem_cons.1 hm' with y | hm'
        · exact hl.ne (cs := c3) (cs' := p.2) k x hk hx (hne (k, b3, d3) (by simp)) y.symm
        · obtain ⟨r, hr, e⟩ := List.mem_map.1 hm'
          exact hm.2.2 p hp' r hr e.symm
    · exact hL.blk p (by simp [q])
  · rw [List.pairwise_append]
    refine ⟨?_, c1'.2, fun p hp q hq => ?_⟩
    · have : ((putL l [(i, b1, d1), (j, b2, d2), (k, b3, d3)]).map (·.1)).Pairwise (· ≠ ·) := by rw [putL_fst _ l hu, List.pairwise_map]; exact hm.1
      rw [List.pairwise_map] at this
      exact this
    · obtain ⟨r, hr, e⟩ := hn p hp
      rw [← e]
      rcases hlow q hq with ⟨x, hx, e2⟩ | x
      · rw [← e2]
        exact hm.2.2 r hr x hx
      · have := (hl.blk r hr).lt
        omega
  · rcases List.mem_append.1 hq with q1 | q1
    · obtain ⟨r, hr, e2⟩ := hn q q1
      rw [← e2]
      rcases List.mem_append.1 hp with p1 | p1
      · exact hl.ed p p1 r hr
      · have := (hl.blk r hr).lt
        have := hsb p p1
        omega
    · exact hL.ed p hp q (by simp [q1])
end
theorem Sx.back1s {b1 : Nat} {c1 d1 : List Value} {r sb : List (Nat × List Value)} (hS : Sx bs w0 w l e) (i : Nat) (hi : l[i]? = some (b1, c1)) (hL : Sx [b1] w w' ((b1, d1) :: r) (e ++ sb)) (hsb : ∀ p ∈ sb, w.heap.size ≤ p.1) : Sx bs w0 w' (putL l [(i, b1, d1)] ++ r) (e ++ sb) :=
  hS.backG (us := [(i, b1, d1)]) (fun u hu => by
    obtain rfl : u = _ := by simpa using hu
    exact ⟨_, hi⟩) hL hsb
theorem Sx.back1r {b1 : Nat} {c1 d1 : List Value} {r : List (Nat × List Value)} (hS : Sx bs w0 w l e) (i : Nat) (hi : l[i]? = some (b1, c1)) (hL : Sx [b1] w w' ((b1, d1) :: r) e) : Sx bs w0 w' (putL l [(i, b1, d1)] ++ r) e := by
  have h := hS.back1s (sb := []) i hi (by rw [List.append_nil]; exact hL) (fun p hp => by cases hp)
  rwa [List.append_nil] at h
theorem Sx.back2r {b1 b2 : Nat} {c1 c2 d1 d2 : List Value} {r : List (Nat × List Value)} (hS : Sx bs w0 w l e) (i j : Nat) (hi : l[i]? = some (b1, c1)) (hj : l[j]? = some (b2, c2)) (hL : Sx [b1, b2] w w' ((b1, d1) :: (b2, d2) :: r) e) : Sx bs w0 w' (putL l [(i, b1, d1), (j, b2, d2)] ++ r) e := by
  have h := hS.backG (w' := w') (us := [(i, b1, d1), (j, b2, d2)]) (r := r) (sb := []) (fun u hu => by
    rcases (by simpa using hu : u = (i, b1, d1) ∨ u = (j, b2, d2)) with rfl | rfl
    · exact ⟨_, hi⟩
    · exact ⟨_, hj⟩) (by rw [List.append_nil]; exact hL) (fun p hp => by cases hp)
  rwa [List.append_nil] at h
theorem Sx.enter2e {b1 b2 : Nat} {c1 c2 : List Value} (hS : Sx bs w0 w l e) (i j : Nat) (hi : l[i]? = some (b1, c1)) (hj : l[j]? = some (b2, c2)) (hij : i ≠ j) : Sx [b1, b2] w w [(b1, c1), (b2, c2)] e :=
  hS.enter [(b1, c1), (b2, c2)] e (fun p hp => by
      rcases (by simpa using hp : p = (b1, c1) ∨ p = (b2, c2)) with rfl | rfl
      · exact List.mem_of_getElem? hi
      · exact List.mem_of_getElem? hj)
    (by
      have h1 := hS.ne i j hi hj hij
      simp [h1]) (fun p hp => hp)
theorem Sx.addEs12 {sb : List (Nat × List Value)} (h : Sx bs w0 w l e) (b : Below w.heap.size w w') (hb : ∀ p ∈ sb, BlkAt w' p.1 p.2 ∧ w.heap.size ≤ p.1) : Sx bs w0 w' l (e ++ sb) := by
  have h' := h.call b
  refine ⟨h'.off, h'.low, h'.blk, h'.nd, fun p hp => ?_, fun p hp q hq => ?_⟩
  · rcases List.mem_append.1 hp with q | q
    · exact h'.eb p q
    · exact (hb p q).1
  · rcases List.mem_append.1 hp with q1 | q1
    · exact h'.ed p q1 q hq
    · have h3 := (h.blk q hq).lt
      have h4 := (hb p q1).2
      omega
theorem row_blk12 {W : World} {base : Nat} {t : TypeId} {v : Value} {xs : List Int} (h : W.ownsRow base t 1 v xs.length (xs.map (Value.int .i64))) :
    ∃ a n c, ∃ sb : List (Nat × List Value), v = .slice a n c ∧ (∀ p ∈ sb, BlkAt W p.1 p.2 ∧ base ≤ p.1) ∧ ∀ W', (∀ p ∈ sb, BlkAt W' p.1 p.2) → IsRow W' (.slice a n c) xs := by
  rcases h.2 with ⟨rfl, h0⟩ | ⟨g, cap, cur, rfl, hg, hb, h1, h2, h3, h4⟩
  · exact ⟨none, 0, 0, [], rfl, (fun p hp => by cases hp), fun W' _ => .inl ⟨rfl, List.length_eq_zero_iff.1 h0⟩⟩
  · have hB : BlkAt W g (xs.map (Value.int .i64)) := by
      have hn := blkAt_new hb
      refine ⟨hn.lt, fun j v hj => hn.cell j v ?_, hn.fz⟩
      rw [← h4] at hj
      have hl := (List.getElem?_eq_some_iff.1 hj).1
      rw [List.length_take] at hl
      exact (List.getElem?_take_of_lt (by omega)).symm.trans hj
    refine ⟨_, _, _, [(g, xs.map (Value.int .i64))], rfl, fun p hp => ?_, fun W' hW => .inr ⟨g, 0, cap, rfl, h1, h2, (hW (g, xs.map (Value.int .i64)) (by simp)).lt, fun j hj => ?_⟩⟩
    · obtain rfl : p = (g, xs.map (Value.int .i64)) := by simpa using hp
      exact ⟨hB, hg⟩
    · rw [Nat.zero_add]
      exact (hW (g, xs.map (Value.int .i64)) (by simp)).cell j _ (by simp [hj])
theorem isRow_cut {W : World} {a : Option Addr} {n cap : Nat} {x : Int} {xs : List Int} (h : IsRow W (.slice a n cap) (x :: xs)) :
    ∃ b off, a = some ⟨b, off, none⟩ ∧ n = xs.length + 1 ∧ n ≤ cap ∧ cap ≤ maxLen ∧ b < W.heap.size ∧ W.cell? ⟨b, off, none⟩ = some (.int .i64 x) := by
  rcases h with ⟨_, h⟩ | ⟨b, off, cap', h, h1, h2, h3, h4⟩
  · cases h
  · simp only [Value.slice.injEq, List.length_cons] at h
    obtain ⟨rfl, rfl, rfl⟩ := h
    simp only [List.length_cons] at h1 h4
    exact ⟨b, off, rfl, rfl, h1, h2, h3, by have := h4 0 (by omega); simpa using this⟩
theorem isRow_rest {W : World} {b off cap : Nat} {x : Int} {xs : List Int} (h : IsRow W (.slice (some ⟨b, off, none⟩) (xs.length + 1) cap) (x :: xs)) : IsRow W (.slice (some ⟨b, off + 1, none⟩) xs.length (cap - 1)) xs := by
  rcases h with ⟨_, h⟩ | ⟨b', off', cap', h, h1, h2, h3, h4⟩
  · cases h
  · simp only [Value.slice.injEq, List.length_cons, Option.some.injEq, Addr.mk.injEq] at h
    obtain ⟨⟨rfl, rfl, _⟩, _, rfl⟩ := h
    simp only [List.length_cons] at h1 h4
    refine .inr ⟨b, off + 1, cap - 1, rfl, by omega, by omega, h3, fun j hj => ?_⟩
    have := h4 (j + 1) (by omega)
    simpa [Nat.add_assoc, Nat.add_comm 1 j] using this
theorem isRow_end {W : World} {b off cap : Nat} {x : Int} {xs : List Int} (h : IsRow W (.slice (some ⟨b, off, none⟩) (xs.length + 1) cap) (x :: xs)) (hc : cap = 1) : xs = [] ∧ IsRow W (.slice (some ⟨b, off, none⟩) xs.length 0) xs := by
  rcases h with ⟨_, h⟩ | ⟨b', off', cap', h, h1, h2, h3, h4⟩
  · cases h
  · simp only [Value.slice.injEq, List.length_cons, Option.some.injEq, Addr.mk.injEq] at h
    obtain ⟨⟨rfl, rfl, _⟩, _, rfl⟩ := h
    simp only [List.length_cons] at h1
    have hx : xs = [] := List.length_eq_zero_iff.1 (by omega)
    subst hx
    exact ⟨rfl, .inr ⟨b, off, 0, rfl, Nat.le_refl _, by omega, h3, fun j hj => absurd hj (Nat.not_lt_zero _)⟩⟩
theorem put3_get {i j k : Nat} {a b d : Nat × List Value} (hi : i < l.length) (hj : j < l.length) (hk : k < l.length) (hij : i ≠ j) (hik : i ≠ k) (hjk : j ≠ k) :
    (putL l [(i, a), (j, b), (k, d)])[i]? = some a ∧ (putL l [(i, a), (j, b), (k, d)])[j]? = some b ∧ (putL l [(i, a), (j, b), (k, d)])[k]? = some d := by
  show (((l.set i a).set j b).set k d)[i]? = some a ∧ (((l.set i a).set j b).set k d)[j]? = some b ∧ (((l.set i a).set j b).set k d)[k]? = some d
  simp [List.getElem?_set, hi, hj, hk, hij, hik, hjk, hij.symm, hik.symm, hjk.symm]
theorem put3_twice {i j k : Nat} {a b d a' b' d' : Nat × List Value} (hij : i ≠ j) (hik : i ≠ k) (hjk : j ≠ k) :
    putL (putL l [(i, a), (j, b), (k, d)]) [(i, a'), (j, b'), (k, d')] = putL l [(i, a'), (j, b'), (k, d')] := by
  show (((((l.set i a).set j b).set k d).set i a').set j b').set k d' = ((l.set i a').set j b').set k d'
  apply List.ext_getElem?
  intro x
  simp only [List.getElem?_set, List.length_set]
  by_cases h1 : k = x
  · simp [h1]
  · by_cases h2 : j = x
    · simp [h1, h2]
    · by_cases h3 : i = x
      · simp [h1, h2, h3]
      · simp [h1, h2, h3]
theorem put_get_lt {i : Nat} {a : Nat × List Value} (h : l[i]? = some a) : i < l.length := (List.getElem?_eq_some_iff.1 h).1
end
end
end Go.Proofs.YtapgghciieloaaaGreat
