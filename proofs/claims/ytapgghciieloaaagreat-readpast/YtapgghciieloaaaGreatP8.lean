/-
  Texts that the laws stand on, merged (JoinMath3, JoinA, JoinB, JoinX, MarkMath, MarkA, MarkB, MarkC, MarkD).
-/
import Derived.Test.YtapgghciieloaaaGreatP1
import Derived.Test.YtapgghciieloaaaGreatP4
import Derived.Test.YtapgghciieloaaaGreatP5
import Derived.Test.YtapgghciieloaaaGreatP6
import Derived.Test.YtapgghciieloaaaGreatP7
import Derived.BigQuiet
import Derived.BigRegion
import Derived.Lib.QuietBelow
import Derived.LoopIn
import Derived.LoopNIn
import Derived.LoopTactic
import Derived.Maps.AppendAt
import Derived.OwnWalk
import Derived.OwnWalkIn
import Derived.RangeFuncBound
import Derived.RangeFuncBox
import Derived.RangeFuncCalls
import Derived.RangeFuncLeaves
import Derived.RangeFuncNested
import Derived.RegionTactic
import Derived.Shelf.Abstract
import Derived.Shelf.RegionOpen
import Derived.TacticsInMore
import Derived.WalkKit

/-
  Plain arithmetic of layer 11: an active status, to which two lay conflicts, and one its own end; laid again. No Go in sight.
-/
namespace Um
set_option maxRecDepth 100000

/-- all three laid -/
def clo (A B : Int) (W : Nat) : Nat := withN (withN (withN W 0 A) 1 B) 0 7

/-- one that lays its own end -/
structure Sw (W : Nat) (sd b : Int) (o : Ls) : Prop where
  dn : o.dn = true → withN W sd b = W

theorem Sw.grow {W : Nat} {sd b : Int} {o : Ls} (h : Sw W sd b o) (x y : Int) : Sw (withN W x y) sd b o := ⟨fun q => by rw [with_comm W x y sd b, h.dn q]⟩

theorem Sw.at {W : Nat} {sd b : Int} {o : Ls} (h : Sw W sd b o) (m : Mm) : Sw W sd b (setLs m o) := ⟨h.dn⟩

section
variable {c : Cf} {sl sd b : Int}

theorem wstep_look (hr : c.r = true) (h0 : 0 ≤ sl) (h1 : sl < c.s) {o : Ls} (h2 : o.dn = false) (h3 : o.lk = false) :
    wstep c sl sd b o = ⟨mtouch c o.m 1 4 sl 0 0, true, o.m.ws (c.cl 4 sl).toNat, decide (withN (o.m.ws (c.cl 4 sl).toNat) sd b = o.m.ws (c.cl 4 sl).toNat)⟩ := by
  have hc := (slot_cells hr h0 h1).1
  have hold : (mtouch c o.m 1 4 sl 0 0).l.old = o.m.ws (c.cl 4 sl).toNat := by rw [load_old, if_pos hc]
  unfold wstep
  rw [if_neg (by rw [h2]; decide), if_pos h3, hold]

theorem wstep_lay (hr : c.r = true) (h0 : 0 ≤ sl) (h1 : sl < c.s) {o : Ls} (h2 : o.dn = false) (h3 : o.lk = true) :
    wstep c sl sd b o = ⟨mtouch c o.m 3 4 sl o.s (withN o.s sd b), false, o.s, decide (o.m.ws (c.cl 4 sl).toNat = o.s)⟩ := by
  have hc := (slot_cells hr h0 h1).1
  have hd : (mtouch c o.m 3 4 sl o.s (withN o.s sd b)).l.done = decide (o.m.ws (c.cl 4 sl).toNat = o.s) := by
    rw [swap_done]
    by_cases e : o.m.ws (c.cl 4 sl).toNat = o.s
    · rw [decide_eq_true e, decide_eq_true ⟨hc, e⟩]
    · rw [decide_eq_false e, decide_eq_false (fun q => e q.2)]
  unfold wstep
  rw [if_neg (by rw [h2]; decide), if_neg (by rw [h3]; decide), hd]

end

/-- two joins, and an own end, of one active status; T: it with all three -/
structure Tj (T W : Nat) (A B : Int) (x y : Js) (o : Ls) : Prop where
  st : stN W = 2
  cl : clo A B W = T
  X : Sj W 0 A x
  Y : Sj W 1 B y
  O : Sw W 0 7 o

theorem Tj.at {T W : Nat} {A B : Int} {x y : Js} {o : Ls} (h : Tj T W A B x y o) (m m' m'' : Mm) : Tj T W A B (setJ m x) (setJ m' y) (setLs m'' o) := ⟨h.st, h.cl, h.X.at m, h.Y.at m', h.O.at m''⟩

section
variable {c : Cf} {sl A B : Int} {sn : Nat} {T : Nat} {x y : Js} {o : Ls}

end

/-- one's own end, where it is laid: a step, nothing is changed -/
theorem own_there {c : Cf} (hr : c.r = true) {sl sd b : Int} (h0 : 0 ≤ sl) (h1 : sl < c.s) (m : Mm) (hh : withN (m.ws (c.cl 4 sl).toNat) sd b = m.ws (c.cl 4 sl).toNat) {k : Nat} (hk : 1 ≤ k) (E : Ls) (hE : E = wit c sl sd b (lnew m) k) :
    E.dn = true ∧ E.m.ws = m.ws ∧ (wit c sl sd b (lnew m) 0).dn = false ∧ (wit c sl sd b (lnew m) 1).dn = true := by
  have e1 : wit c sl sd b (lnew m) 1 = _ := wstep_look (sd := sd) (b := b) hr h0 h1 (o := lnew m) rfl rfl
  have hd : (wit c sl sd b (lnew m) 1).dn = true := by rw [e1]; exact decide_eq_true hh
  rw [hE, wit_done hd hk]
  exact ⟨hd, by rw [e1]; exact load_ws c m 4 sl, rfl, hd⟩

end Um

/-
  The walks of the program's join, the small ones: an end's spot, look, swap, what is laid, its state; what is said, judged; a step's ways.
-/
namespace Go.Proofs.YtapgghciieloaaaGreat
set_option maxRecDepth 100000
open Go.RowKit Go.Sort
set_option linter.unusedVariables false
set_option linter.unusedSimpArgs false

theorem field_stat1j (a b c d e f g : Value) (w : World) : (Instr.field 170 (.agg #[a, b, c, d, e, f, g]) 1).run Tryz.prog w = .ok b w := by simp [Instr.field, go_sem, asAgg]

theorem eqJF (f : Fn) (x y : Array Value) (w : World) : (binOp .neq 195 (.func f x y) .nilFunc).run Tryz.prog w = .ok (.bool true) w := by kernel_rfl
theorem eqJN (w : World) : (binOp .neq 195 .nilFunc .nilFunc).run Tryz.prog w = .ok (.bool false) w := by kernel_rfl
theorem eqOF (f : Fn) (x y : Array Value) (w : World) : (binOp .eql 202 (.func f x y) .nilFunc).run Tryz.prog w = .ok (.bool false) w := by kernel_rfl
theorem eqON (w : World) : (binOp .eql 202 .nilFunc .nilFunc).run Tryz.prog w = .ok (.bool true) w := by kernel_rfl

theorem drew_below {P : Program} {f : FuncId} {args : Array Value} {w : World} {v : Value} (h : Calls P f args w fun e w' => e = .returned v ∧ ∃ n, w' = w.drewN n) : Calls P f args w fun e w' => e = .returned v ∧ Below w.heap.size w w' :=
  h.mono (by
    rintro e w' ⟨rfl, n, rfl⟩
    exact ⟨rfl, below_drewN (Below.refl _ _) n⟩)

section
variable {bs : List Nat} {w0 w : World} {l e : List (Nat × List Value)} {B C P : Nat} {c : Um.Cf} {m : Um.Mm} {sl sd b rr : Int} {s sn : Nat} {fn : Value} {tl : List Value}

set_option maxHeartbeats 1000000 in
theorem jSpot_b (hB : BlkAt w P (.int .i64 sl :: .int .i64 sd :: .int .i64 b :: .int .u64 (s : Nat) :: tl)) (kd : Int) : Calls Tryz.prog 165 #[.pointer (some ⟨P, 0, none⟩), .int .i64 kd] w fun r w' => r = .returned (.agg #[.int .i64 kd, .int .i64 sl]) ∧ Below w.heap.size w w' := by
  have hS := Sx.read1 hB
  clear hB
  go_enter Tryz.func165, Tryz.ntmps165
  go_wp2_with (first | (first | (refine ybox hS (h := ?_); clear hS; intro _ _ hS) | (refine yall hS (h := ?_); clear hS; intro _ _ hS) | refine yld hS (h := ?_) | (refine yst hS (h := ?_); clear hS; intro _ hS)) | (refine wpx_load1e hS 0 rfl _ _ rfl _ _ rfl _ rfl (one_any2 rfl) _ rfl _ (by simp only [Act.put, List.setIfInBounds_toArray, List.set_cons_zero, List.set_cons_succ]; first | done | exact rfl) ?_))
  have hZ := hS.get 0 rfl
  exact bodyPost_ret (v := (.agg #[.int .i64 kd, .int .i64 sl])) (by simp [results, Tryz.results165, go_sem, hZ.cell 0 _ rfl, hZ.cell 1 _ rfl]) rfl ⟨rfl, hS.bel⟩

set_option maxHeartbeats 1000000 in
theorem jState_b (hB : BlkAt w P (.int .i64 sl :: .int .i64 sd :: .int .i64 b :: .int .u64 (s : Nat) :: tl)) (hs : Um.Word s) : Calls Tryz.prog 157 #[.pointer (some ⟨P, 0, none⟩)] w fun r w' => r = .returned (.int .i64 ((Um.part s 27 3 : Nat) : Int)) ∧ Below w.heap.size w w' := by
  have hc := hB.cell 3 _ rfl
  have hf := field_stat1j
  have HC := hide (fun w => unpack_any s w hs)
  clear hB hs
  go_enter Tryz.func157, Tryz.ntmps157
  go_wp2_with fail
  refine ((unhide HC) _).mono ?_
  rintro r u ⟨rfl, hb⟩
  clear HC
  go_wp2
  go_ret
  exact ⟨rfl, hb⟩

set_option maxHeartbeats 1000000 in
theorem jLaid_b (hB : BlkAt w P (.int .i64 sl :: .int .i64 sd :: .int .i64 b :: .int .u64 (s : Nat) :: tl)) (hs : Um.Word s) : Calls Tryz.prog 171 #[.pointer (some ⟨P, 0, none⟩)] w fun r w' => r = .returned (.int .u64 (Um.withN s sd b : Nat)) ∧ Below w.heap.size w w' := by
  have hS := Sx.read1 hB
  have HW := hide hs
  clear hB hs
  go_enter Tryz.func171, Tryz.ntmps171
  go_wp2_with fail
  obtain ⟨u, rfl⟩ := nameW hS
  have k1 := cell_regrown ((hS.getE 0 rfl).cell 1 _ rfl)
  have k2 := cell_regrown ((hS.getE 0 rfl).cell 2 _ rfl)
  have k3 := cell_regrown ((hS.getE 0 rfl).cell 3 _ rfl)
  have HSQ := hide hS
  clear hS
  refine wp_region_quiet_below (by kernel_rfl) (by kernel_rfl) ?_
  repeat (go_big_quiet_step (first | (go_at_call 179; exact Calls.regrown_of (same_below (with_any s sd b _ (unhide HW))))))
  refine wpQuiet_nil ?_
  intro _ hw'
  obtain ⟨⟨dq, osq⟩, hw''⟩ := hw'
  subst hw''
  have hS := (unhide HSQ).call (below_regrown u dq osq)
  clear HSQ k1 k2 k3
  generalize grow (redrawn u dq) osq = u9 at *
  go_wp2_with fail
  have hB := hS.bel
  clear hS
  try go_wp2
  go_ret
  exact ⟨rfl, hB⟩

set_option maxHeartbeats 4000000 in
theorem jLook_x (hS : Sx bs w0 w l e) (i j k : Nat) (hi : l[i]? = some (B, memL c C m)) (hj : l[j]? = some (C, rowW m.ws c.n)) (hk : l[k]? = some (P, (.int .i64 sl :: .int .i64 sd :: .int .i64 b :: .int .u64 (s : Nat) :: tl))) (hij : i ≠ j) (hik : i ≠ k) (hjk : j ≠ k) (hr : c.r = true) (hw : WordsOk c m) (hb0 : -9223372036854775808 ≤ sl) (hb1 : sl ≤ 9223372036854775807) (M : Um.Mm) (hM : M = Um.mtouch c m 1 4 sl 0 0) :
    Calls Tryz.prog 156 #[.pointer (some ⟨P, 0, none⟩), .pointer (some ⟨B, 0, none⟩)] w fun r w' => r = .returned (.tuple #[]) ∧ WordsOk c M ∧ Sx bs w0 w' (putL l [(i, B, memL c C M), (j, C, rowW M.ws c.n), (k, P, (.int .i64 sl :: .int .i64 sd :: .int .i64 b :: .int .u64 (M.l.old : Nat) :: tl))]) e := by
  have HS := hide hS
  have HI := hide (And.intro hi (And.intro hj hk))
  have hL := hS.enter3 i j k hi hj hk hij hik hjk
  have HR := hide hr
  have HW := hide hw
  have HM := hide hM
  have HBD := hide (And.intro hb0 hb1)
  clear hS hi hj hk hr hw hM hb0 hb1 
  have hS := hL
  clear hL
  go_enter Tryz.func156, Tryz.ntmps156
  go_wp2_with (first | (refine ybox hS (h := ?_); clear hS; intro _ _ hS) | (refine yall hS (h := ?_); clear hS; intro _ _ hS) | refine yld hS (h := ?_) | (refine yst hS (h := ?_); clear hS; intro _ hS))
  refine (jSpot_b (hS.get 2 rfl) 4).mono ?_
  rintro r u ⟨rfl, hb⟩
  replace hS := hS.call hb
  clear hb
  go_wp2_with fail
  refine (mLoad_x hS 0 1 rfl rfl (by decide) (unhide HR) (unhide HW) 4 sl (unhide HBD).1 (unhide HBD).2 M (unhide HM)).mono ?_
  rintro r u ⟨rfl, hWn, hSn⟩
  clear hS
  have hS := hSn
  clear hSn
  dsimp only [putL, List.set, List.cons_append, List.nil_append] at hS
  have HW6 := hide hWn
  clear hWn
  go_wp2_with (first | (refine ybox hS (h := ?_); clear hS; intro _ _ hS) | (refine yall hS (h := ?_); clear hS; intro _ _ hS) | refine yld hS (h := ?_) | (refine yst hS (h := ?_); clear hS; intro _ hS))
  first | go_end0 | ((try simp only [Exit.inBlock, Exit.then]); refine bodyPost_ret (results_none rfl _ _ _) rfl ?_)
  exact ⟨rfl, unhide HW6, (unhide HS).back3 i j k (unhide HI).1 (unhide HI).2.1 (unhide HI).2.2 hS⟩

set_option maxHeartbeats 8000000 in
theorem jSwap_x (hS : Sx bs w0 w l e) (i j k : Nat) (hi : l[i]? = some (B, memL c C m)) (hj : l[j]? = some (C, rowW m.ws c.n)) (hk : l[k]? = some (P, (.int .i64 sl :: .int .i64 sd :: .int .i64 b :: .int .u64 (s : Nat) :: tl))) (hij : i ≠ j) (hik : i ≠ k) (hjk : j ≠ k) (hr : c.r = true) (hw : WordsOk c m) (hb0 : -9223372036854775808 ≤ sl) (hb1 : sl ≤ 9223372036854775807) (M : Um.Mm) (hM : M = Um.mtouch c m 3 4 sl s (Um.withN s sd b)) (hs : Um.Word s) :
    Calls Tryz.prog 178 #[.pointer (some ⟨P, 0, none⟩), .pointer (some ⟨B, 0, none⟩)] w fun r w' => r = .returned (.bool M.l.done) ∧ WordsOk c M ∧ Sx bs w0 w' (putL l [(i, B, memL c C M), (j, C, rowW M.ws c.n), (k, P, (.int .i64 sl :: .int .i64 sd :: .int .i64 b :: .int .u64 (s : Nat) :: tl))]) e := by
  have HS := hide hS
  have HI := hide (And.intro hi (And.intro hj hk))
  have hL := hS.enter3 i j k hi hj hk hij hik hjk
  have HR := hide hr
  have HW := hide hw
  have HM := hide hM
  have HBD := hide (And.intro hb0 hb1)
  have HV := hide hs
  clear hS hi hj hk hr hw hM hb0 hb1 hs
  have hS := hL
  clear hL
  have k3 := fun w' (hq : BlkAt w' P (.int .i64 sl :: .int .i64 sd :: .int .i64 b :: .int .u64 (s : Nat) :: tl)) => hq.cell 3 _ rfl
  have HP := hide (hS.get 2 rfl)
  go_enter Tryz.func178, Tryz.ntmps178
  go_wp2_with fail
  have HS3 := hide hS
  clear hS
  go_region_held3 (fun w' => BlkAt w' P (.int .i64 sl :: .int .i64 sd :: .int .i64 b :: .int .u64 (s : Nat) :: tl)) (first | exact (unhide HP).drew | exact BlkAt.below (by assumption) (by assumption) | assumption) (first | (go_at_call 165; refine (jSpot_b (by assumption) 4).mono ?_; rintro e u5 ⟨rfl, hb5⟩) | (go_at_call 171; refine (jLaid_b (by assumption) (unhide HV)).mono ?_; rintro e u6 ⟨rfl, hb6⟩) | (go_at_call 132; refine (mSwap_x (by first | exact ((unhide HS3).undrew hb5).call hb6 | exact ((unhide HS3).undrew hb6).call hb5) 0 1 rfl rfl (by decide) (unhide HR) (unhide HW) 4 sl s (Um.withN s sd b) (Um.with_word (unhide HV) _ _) (unhide HBD).1 (unhide HBD).2 M (unhide HM)).mono ?_; rintro e u7 ⟨rfl, hW6, hS6⟩; have hP6 := hS6.get 2 rfl))
  all_goals
    have hS := hS6
    have HW6 := hide hW6
    clear hS6 hP6 hW6 k3 HS3 HP
    dsimp only [putL, List.set] at hS
    go_wp2_with fail
    go_ret
    exact ⟨rfl, unhide HW6, (unhide HS).back3 i j k (unhide HI).1 (unhide HI).2.1 (unhide HI).2.2 hS⟩

set_option maxHeartbeats 1000000 in
theorem jOpp_b (hB : BlkAt w P [.int .i64 sl, .int .i64 sd, .int .i64 b, .int .u64 (s : Nat), .int .u64 (sn : Nat), fn, .int .i64 rr]) (hd0 : -1 ≤ sd) (hd1 : sd ≤ 2) : Calls Tryz.prog 169 #[.pointer (some ⟨P, 0, none⟩)] w fun r w' => r = .returned (.int .i64 (1 - sd)) ∧ w' = w := by
  have h1 := hB.cell 1 _ rfl
  clear hB
  go_enter Tryz.func169, Tryz.ntmps169
  go_wp2
  go_ret
  refine ⟨?_, rfl⟩
  rcases (by omega : sd = -1 ∨ sd = 0 ∨ sd = 1 ∨ sd = 2) with rfl | rfl | rfl | rfl <;> rfl

set_option maxHeartbeats 1000000 in
theorem jSay_x (hS : Sx bs w0 w l e) (k : Nat) (hk : l[k]? = some (P, [.int .i64 sl, .int .i64 sd, .int .i64 b, .int .u64 (s : Nat), .int .u64 (sn : Nat), fn, .int .i64 rr])) (v : Int) :
    Calls Tryz.prog 160 #[.pointer (some ⟨P, 0, none⟩), .int .i64 v] w fun r w' => r = .returned (.tuple #[]) ∧ Sx bs w0 w' (putL l [(k, P, [.int .i64 sl, .int .i64 sd, .int .i64 b, .int .u64 (s : Nat), .int .u64 (sn : Nat), .nilFunc, .int .i64 v])]) e := by
  have HS := hide hS
  have HI := hide hk
  have hL := hS.enter1 k hk
  clear hS hk
  have hS := hL
  clear hL
  go_enter Tryz.func160, Tryz.ntmps160
  go_wp2_with (first | (refine ybox hS (h := ?_); clear hS; intro _ _ hS) | (refine yall hS (h := ?_); clear hS; intro _ _ hS) | refine yld hS (h := ?_) | (refine yst hS (h := ?_); clear hS; intro _ hS))
  first | go_end0 | ((try simp only [Exit.inBlock, Exit.then]); refine bodyPost_ret (results_none rfl _ _ _) rfl ?_)
  exact ⟨rfl, (unhide HS).back1 k (unhide HI) hS⟩

set_option maxHeartbeats 4000000 in
theorem jJudge_l (hS : Sx bs w0 w l e) (k : Nat) (hk : l[k]? = some (P, [.int .i64 sl, .int .i64 sd, .int .i64 b, .int .u64 (s : Nat), .int .u64 (sn : Nat), fn, .int .i64 rr])) (hs : Um.Word s) (hd0 : -1 ≤ sd) (hd1 : sd ≤ 2) (hh : Um.hasN s sd b = true) :
    Calls Tryz.prog 159 #[.pointer (some ⟨P, 0, none⟩)] w fun r w' => r = .returned (.tuple #[]) ∧ Sx bs w0 w' (putL l [(k, P, [.int .i64 sl, .int .i64 sd, .int .i64 b, .int .u64 (s : Nat), .int .u64 (sn : Nat), .nilFunc, .int .i64 2])]) e := by
  have HDD := hide (And.intro hd0 hd1)
  have HHS := hide hh
  have HW := hide hs
  clear hs hd0 hd1 hh
  have HS := hide hS
  have HI := hide hk
  have hL := hS.enter1 k hk
  clear hS hk
  have hS := hL
  clear hL
  go_enter Tryz.func159, Tryz.ntmps159
  go_wp2_with fail
  obtain ⟨u, rfl⟩ := nameW hS
  have k1 := cell_regrown ((hS.get 0 rfl).cell 1 _ rfl)
  have k2 := cell_regrown ((hS.get 0 rfl).cell 2 _ rfl)
  have k3 := cell_regrown ((hS.get 0 rfl).cell 3 _ rfl)
  have HH := hide (fun w => same_below (has_any s sd b w (unhide HW)))
  rw [unhide HHS] at HH
  have HSQ := hide hS
  clear hS
  refine wp_region_quiet_below (by kernel_rfl) (by kernel_rfl) ?_
  repeat (go_big_quiet_step (first | (go_at_call 167; exact Calls.regrown_of ((unhide HH) _))))
  refine wpQuiet_nil ?_
  intro _ hw'
  obtain ⟨⟨dq, osq⟩, hw''⟩ := hw'
  subst hw''
  have hS := (unhide HSQ).call (below_regrown u dq osq)
  clear HH HSQ k1 k2 k3
  generalize grow (redrawn u dq) osq = u9 at *
  go_wp2_with (first | (refine ybox hS (h := ?_); clear hS; intro _ _ hS) | (refine yall hS (h := ?_); clear hS; intro _ _ hS) | refine yld hS (h := ?_) | (refine yst hS (h := ?_); clear hS; intro _ hS))
  refine (jSay_x hS 0 rfl 2).mono ?_
  rintro r u ⟨rfl, hSn⟩
  clear hS
  have hS := hSn
  clear hSn
  dsimp only [putL, List.set, List.cons_append, List.nil_append] at hS
  go_wp2_with (first | (refine ybox hS (h := ?_); clear hS; intro _ _ hS) | (refine yall hS (h := ?_); clear hS; intro _ _ hS) | refine yld hS (h := ?_) | (refine yst hS (h := ?_); clear hS; intro _ hS))
  first | go_end0 | ((try simp only [Exit.inBlock, Exit.then]); refine bodyPost_ret (results_none rfl _ _ _) rfl ?_)
  exact ⟨rfl, (unhide HS).back1 k (unhide HI) hS⟩

set_option maxHeartbeats 4000000 in
theorem jJudge_2 (hS : Sx bs w0 w l e) (k : Nat) (hk : l[k]? = some (P, [.int .i64 sl, .int .i64 sd, .int .i64 b, .int .u64 (s : Nat), .int .u64 (sn : Nat), fn, .int .i64 rr])) (hs : Um.Word s) (hd0 : -1 ≤ sd) (hd1 : sd ≤ 2) (hh : Um.hasN s sd b = false) (h2 : Um.stN s = 2) :
    Calls Tryz.prog 159 #[.pointer (some ⟨P, 0, none⟩)] w fun r w' => r = .returned (.tuple #[]) ∧ Sx bs w0 w' (putL l [(k, P, [.int .i64 sl, .int .i64 sd, .int .i64 b, .int .u64 (s : Nat), .int .u64 (sn : Nat), .func (.func 170) #[] #[], .int .i64 rr])]) e := by
  have hq : Um.part s 27 3 = 2 := h2
  have g1 : ((Um.part s 27 3 : Nat) : Int) = 2 := by omega
  have g2 : (((Um.part s 27 3 : Nat) : Int) != 2) = false := by simpa using g1
  clear h2 hq
  have HDD := hide (And.intro hd0 hd1)
  have HHS := hide hh
  have HW := hide hs
  clear hs hd0 hd1 hh
  have HS := hide hS
  have HI := hide hk
  have hL := hS.enter1 k hk
  clear hS hk
  have hS := hL
  clear hL
  go_enter Tryz.func159, Tryz.ntmps159
  go_wp2_with fail
  obtain ⟨u, rfl⟩ := nameW hS
  have k1 := cell_regrown ((hS.get 0 rfl).cell 1 _ rfl)
  have k2 := cell_regrown ((hS.get 0 rfl).cell 2 _ rfl)
  have k3 := cell_regrown ((hS.get 0 rfl).cell 3 _ rfl)
  have HH := hide (fun w => same_below (has_any s sd b w (unhide HW)))
  rw [unhide HHS] at HH
  have HSQ := hide hS
  clear hS
  refine wp_region_quiet_below (by kernel_rfl) (by kernel_rfl) ?_
  repeat (go_big_quiet_step (first | (go_at_call 167; exact Calls.regrown_of ((unhide HH) _))))
  refine wpQuiet_nil ?_
  intro _ hw'
  obtain ⟨⟨dq, osq⟩, hw''⟩ := hw'
  subst hw''
  have hS := (unhide HSQ).call (below_regrown u dq osq)
  clear HH HSQ k1 k2 k3
  generalize grow (redrawn u dq) osq = u9 at *
  go_wp2_with (first | (refine ybox hS (h := ?_); clear hS; intro _ _ hS) | (refine yall hS (h := ?_); clear hS; intro _ _ hS) | refine yld hS (h := ?_) | (refine yst hS (h := ?_); clear hS; intro _ hS))
  obtain ⟨u, rfl⟩ := nameW hS
  have k3 := cell_regrown ((hS.get 0 rfl).cell 3 _ rfl)
  have HT := hide (fun d os => Calls.regrown_of (jState_b ((hS.call (below_regrown u d os)).get 0 rfl) (unhide HW)))
  have HSQ := hide hS
  clear hS
  refine wp_region_quiet_below (by kernel_rfl) (by kernel_rfl) ?_
  repeat (go_big_quiet_step (first | (go_at_call 157; exact (unhide HT) _ _)))
  refine wpQuiet_nil ?_
  intro _ hw'
  obtain ⟨⟨dq, osq⟩, hw''⟩ := hw'
  subst hw''
  have hS := (unhide HSQ).call (below_regrown u dq osq)
  clear HT HSQ k3
  generalize grow (redrawn u dq) osq = u8 at *
  go_wp2_with (first | (refine ybox hS (h := ?_); clear hS; intro _ _ hS) | (refine yall hS (h := ?_); clear hS; intro _ _ hS) | refine yld hS (h := ?_) | (refine yst hS (h := ?_); clear hS; intro _ hS))
  first | go_end0 | ((try simp only [Exit.inBlock, Exit.then]); refine bodyPost_ret (results_none rfl _ _ _) rfl ?_)
  exact ⟨rfl, (unhide HS).back1 k (unhide HI) hS⟩

set_option maxHeartbeats 4000000 in
theorem jJudge_n (hS : Sx bs w0 w l e) (k : Nat) (hk : l[k]? = some (P, [.int .i64 sl, .int .i64 sd, .int .i64 b, .int .u64 (s : Nat), .int .u64 (sn : Nat), fn, .int .i64 rr])) (hs : Um.Word s) (hd0 : -1 ≤ sd) (hd1 : sd ≤ 2) (hh : Um.hasN s sd b = false) (h2 : Um.stN s ≠ 2) (ha : Um.anyN s (1 - sd) = false) :
    Calls Tryz.prog 159 #[.pointer (some ⟨P, 0, none⟩)] w fun r w' => r = .returned (.tuple #[]) ∧ Sx bs w0 w' (putL l [(k, P, [.int .i64 sl, .int .i64 sd, .int .i64 b, .int .u64 (s : Nat), .int .u64 (sn : Nat), .func (.func 170) #[] #[], .int .i64 rr])]) e := by
  have hq : Um.stN s = Um.part s 27 3 := rfl
  have g1 : ¬ ((Um.part s 27 3 : Nat) : Int) = 2 := by omega
  have g2 : (((Um.part s 27 3 : Nat) : Int) != 2) = true := by simpa using g1
  have HAN := hide ha
  clear h2 hq ha
  have HDD := hide (And.intro hd0 hd1)
  have HHS := hide hh
  have HW := hide hs
  clear hs hd0 hd1 hh
  have HS := hide hS
  have HI := hide hk
  have hL := hS.enter1 k hk
  clear hS hk
  have hS := hL
  clear hL
  go_enter Tryz.func159, Tryz.ntmps159
  go_wp2_with fail
  obtain ⟨u, rfl⟩ := nameW hS
  have k1 := cell_regrown ((hS.get 0 rfl).cell 1 _ rfl)
  have k2 := cell_regrown ((hS.get 0 rfl).cell 2 _ rfl)
  have k3 := cell_regrown ((hS.get 0 rfl).cell 3 _ rfl)
  have HH := hide (fun w => same_below (has_any s sd b w (unhide HW)))
  rw [unhide HHS] at HH
  have HSQ := hide hS
  clear hS
  refine wp_region_quiet_below (by kernel_rfl) (by kernel_rfl) ?_
  repeat (go_big_quiet_step (first | (go_at_call 167; exact Calls.regrown_of ((unhide HH) _))))
  refine wpQuiet_nil ?_
  intro _ hw'
  obtain ⟨⟨dq, osq⟩, hw''⟩ := hw'
  subst hw''
  have hS := (unhide HSQ).call (below_regrown u dq osq)
  clear HH HSQ k1 k2 k3
  generalize grow (redrawn u dq) osq = u9 at *
  go_wp2_with (first | (refine ybox hS (h := ?_); clear hS; intro _ _ hS) | (refine yall hS (h := ?_); clear hS; intro _ _ hS) | refine yld hS (h := ?_) | (refine yst hS (h := ?_); clear hS; intro _ hS))
  obtain ⟨u, rfl⟩ := nameW hS
  have k3 := cell_regrown ((hS.get 0 rfl).cell 3 _ rfl)
  have HT := hide (fun d os => Calls.regrown_of (jState_b ((hS.call (below_regrown u d os)).get 0 rfl) (unhide HW)))
  have HP := hide (fun d os => Calls.regrown_of (same_below (jOpp_b ((hS.call (below_regrown u d os)).get 0 rfl) (unhide HDD).1 (unhide HDD).2)))
  have HY := hide (fun w => drew_below (any_any s (1 - sd) w (unhide HW)))
  rw [unhide HAN] at HY
  have HSQ := hide hS
  clear hS
  refine wp_region_quiet_below (by kernel_rfl) (by kernel_rfl) ?_
  repeat (go_big_quiet_step (first | (go_at_call 157; exact (unhide HT) _ _) | (go_at_call 169; exact (unhide HP) _ _) | (go_at_call 168; exact Calls.regrown_of ((unhide HY) _))))
  refine wpQuiet_nil ?_
  intro _ hw'
  obtain ⟨⟨dq, osq⟩, hw''⟩ := hw'
  subst hw''
  have hS := (unhide HSQ).call (below_regrown u dq osq)
  clear HT HP HY HSQ k3
  generalize grow (redrawn u dq) osq = u8 at *
  go_wp2_with (first | (refine ybox hS (h := ?_); clear hS; intro _ _ hS) | (refine yall hS (h := ?_); clear hS; intro _ _ hS) | refine yld hS (h := ?_) | (refine yst hS (h := ?_); clear hS; intro _ hS))
  first | go_end0 | ((try simp only [Exit.inBlock, Exit.then]); refine bodyPost_ret (results_none rfl _ _ _) rfl ?_)
  exact ⟨rfl, (unhide HS).back1 k (unhide HI) hS⟩

set_option maxHeartbeats 4000000 in
theorem jJudge_f (hS : Sx bs w0 w l e) (k : Nat) (hk : l[k]? = some (P, [.int .i64 sl, .int .i64 sd, .int .i64 b, .int .u64 (s : Nat), .int .u64 (sn : Nat), fn, .int .i64 rr])) (hs : Um.Word s) (hd0 : -1 ≤ sd) (hd1 : sd ≤ 2) (hh : Um.hasN s sd b = false) (h2 : Um.stN s ≠ 2) (ha : Um.anyN s (1 - sd) = true) :
    Calls Tryz.prog 159 #[.pointer (some ⟨P, 0, none⟩)] w fun r w' => r = .returned (.tuple #[]) ∧ Sx bs w0 w' (putL l [(k, P, [.int .i64 sl, .int .i64 sd, .int .i64 b, .int .u64 (s : Nat), .int .u64 (sn : Nat), .nilFunc, .int .i64 3])]) e := by
  have hq : Um.stN s = Um.part s 27 3 := rfl
  have g1 : ¬ ((Um.part s 27 3 : Nat) : Int) = 2 := by omega
  have g2 : (((Um.part s 27 3 : Nat) : Int) != 2) = true := by simpa using g1
  have HAN := hide ha
  clear h2 hq ha
  have HDD := hide (And.intro hd0 hd1)
  have HHS := hide hh
  have HW := hide hs
  clear hs hd0 hd1 hh
  have HS := hide hS
  have HI := hide hk
  have hL := hS.enter1 k hk
  clear hS hk
  have hS := hL
  clear hL
  go_enter Tryz.func159, Tryz.ntmps159
  go_wp2_with fail
  obtain ⟨u, rfl⟩ := nameW hS
  have k1 := cell_regrown ((hS.get 0 rfl).cell 1 _ rfl)
  have k2 := cell_regrown ((hS.get 0 rfl).cell 2 _ rfl)
  have k3 := cell_regrown ((hS.get 0 rfl).cell 3 _ rfl)
  have HH := hide (fun w => same_below (has_any s sd b w (unhide HW)))
  rw [unhide HHS] at HH
  have HSQ := hide hS
  clear hS
  refine wp_region_quiet_below (by kernel_rfl) (by kernel_rfl) ?_
  repeat (go_big_quiet_step (first | (go_at_call 167; exact Calls.regrown_of ((unhide HH) _))))
  refine wpQuiet_nil ?_
  intro _ hw'
  obtain ⟨⟨dq, osq⟩, hw''⟩ := hw'
  subst hw''
  have hS := (unhide HSQ).call (below_regrown u dq osq)
  clear HH HSQ k1 k2 k3
  generalize grow (redrawn u dq) osq = u9 at *
  go_wp2_with (first | (refine ybox hS (h := ?_); clear hS; intro _ _ hS) | (refine yall hS (h := ?_); clear hS; intro _ _ hS) | refine yld hS (h := ?_) | (refine yst hS (h := ?_); clear hS; intro _ hS))
  obtain ⟨u, rfl⟩ := nameW hS
  have k3 := cell_regrown ((hS.get 0 rfl).cell 3 _ rfl)
  have HT := hide (fun d os => Calls.regrown_of (jState_b ((hS.call (below_regrown u d os)).get 0 rfl) (unhide HW)))
  have HP := hide (fun d os => Calls.regrown_of (same_below (jOpp_b ((hS.call (below_regrown u d os)).get 0 rfl) (unhide HDD).1 (unhide HDD).2)))
  have HY := hide (fun w => drew_below (any_any s (1 - sd) w (unhide HW)))
  rw [unhide HAN] at HY
  have HSQ := hide hS
  clear hS
  refine wp_region_quiet_below (by kernel_rfl) (by kernel_rfl) ?_
  repeat (go_big_quiet_step (first | (go_at_call 157; exact (unhide HT) _ _) | (go_at_call 169; exact (unhide HP) _ _) | (go_at_call 168; exact Calls.regrown_of ((unhide HY) _))))
  refine wpQuiet_nil ?_
  intro _ hw'
  obtain ⟨⟨dq, osq⟩, hw''⟩ := hw'
  subst hw''
  have hS := (unhide HSQ).call (below_regrown u dq osq)
  clear HT HP HY HSQ k3
  generalize grow (redrawn u dq) osq = u8 at *
  go_wp2_with (first | (refine ybox hS (h := ?_); clear hS; intro _ _ hS) | (refine yall hS (h := ?_); clear hS; intro _ _ hS) | refine yld hS (h := ?_) | (refine yst hS (h := ?_); clear hS; intro _ hS))
  refine (jSay_x hS 0 rfl 3).mono ?_
  rintro r u ⟨rfl, hSn⟩
  clear hS
  have hS := hSn
  clear hSn
  dsimp only [putL, List.set, List.cons_append, List.nil_append] at hS
  go_wp2_with (first | (refine ybox hS (h := ?_); clear hS; intro _ _ hS) | (refine yall hS (h := ?_); clear hS; intro _ _ hS) | refine yld hS (h := ?_) | (refine yst hS (h := ?_); clear hS; intro _ hS))
  first | go_end0 | ((try simp only [Exit.inBlock, Exit.then]); refine bodyPost_ret (results_none rfl _ _ _) rfl ?_)
  exact ⟨rfl, (unhide HS).back1 k (unhide HI) hS⟩

end

end Go.Proofs.YtapgghciieloaaaGreat

/-
  The walks of the program's join: what is judged, the steps of a join and of one's own end, new ones.
-/
namespace Go.Proofs.YtapgghciieloaaaGreat
set_option maxRecDepth 100000
open Go.RowKit Go.Sort
set_option linter.unusedVariables false
set_option linter.unusedSimpArgs false

/-- what comes next behind a judgement -/
def jgF (sd b : Int) (s : Nat) : Value := if Um.hasN s sd b = true then .nilFunc else if Um.stN s ≠ 2 ∧ Um.anyN s (1 - sd) = true then .nilFunc else .func (.func 170) #[] #[]

/-- what is said at a judgement -/
def jgR (sd b : Int) (s : Nat) (rr : Int) : Int := if Um.hasN s sd b = true then 2 else if Um.stN s ≠ 2 ∧ Um.anyN s (1 - sd) = true then 3 else rr

section
variable {bs : List Nat} {w0 w : World} {l e : List (Nat × List Value)} {B C P : Nat} {c : Um.Cf} {m : Um.Mm} {sl sd b rr : Int} {s sn : Nat} {fn : Value} {tl : List Value}

theorem jJudge_any (hS : Sx bs w0 w l e) (k : Nat) (hk : l[k]? = some (P, [.int .i64 sl, .int .i64 sd, .int .i64 b, .int .u64 (s : Nat), .int .u64 (sn : Nat), fn, .int .i64 rr])) (hs : Um.Word s) (hd0 : -1 ≤ sd) (hd1 : sd ≤ 2) :
    Calls Tryz.prog 159 #[.pointer (some ⟨P, 0, none⟩)] w fun r w' => r = .returned (.tuple #[]) ∧ Sx bs w0 w' (putL l [(k, P, [.int .i64 sl, .int .i64 sd, .int .i64 b, .int .u64 (s : Nat), .int .u64 (sn : Nat), jgF sd b s, .int .i64 (jgR sd b s rr)])]) e := by
  unfold jgF jgR
  cases hh : Um.hasN s sd b with
  | true =>
    rw [if_pos rfl, if_pos rfl]
    exact jJudge_l hS k hk hs hd0 hd1 hh
  | false =>
    have e1 : ¬ (false = true) := by decide
    rw [if_neg e1, if_neg e1]
    by_cases h2 : Um.stN s = 2
    · have e2 : ¬ (Um.stN s ≠ 2 ∧ Um.anyN s (1 - sd) = true) := fun q => q.1 h2
      rw [if_neg e2, if_neg e2]
      exact jJudge_2 hS k hk hs hd0 hd1 hh h2
    · by_cases ha : Um.anyN s (1 - sd) = true
      · have e3 : Um.stN s ≠ 2 ∧ Um.anyN s (1 - sd) = true := ⟨h2, ha⟩
        rw [if_pos e3, if_pos e3]
        exact jJudge_f hS k hk hs hd0 hd1 hh h2 ha
      · have e3 : ¬ (Um.stN s ≠ 2 ∧ Um.anyN s (1 - sd) = true) := fun q => ha q.2
        rw [if_neg e3, if_neg e3]
        exact jJudge_n hS k hk hs hd0 hd1 hh h2 (by simpa using ha)

set_option maxHeartbeats 4000000 in
theorem jAsk_4 (hS : Sx bs w0 w l e) (i j k : Nat) (hi : l[i]? = some (B, memL c C m)) (hj : l[j]? = some (C, rowW m.ws c.n)) (hk : l[k]? = some (P, [.int .i64 sl, .int .i64 sd, .int .i64 b, .int .u64 (s : Nat), .int .u64 (sn : Nat), fn, .int .i64 rr])) (hij : i ≠ j) (hik : i ≠ k) (hjk : j ≠ k) (hr : c.r = true) (hw : WordsOk c m) (hb0 : -9223372036854775808 ≤ sl) (hb1 : sl ≤ 9223372036854775807) (M : Um.Mm) (hM : M = Um.mtouch c m 1 4 sl 0 0) (hd0 : -1 ≤ sd) (hd1 : sd ≤ 2) (h2 : Um.stN M.l.old = 4) :
    Calls Tryz.prog 148 #[.pointer (some ⟨P, 0, none⟩), .pointer (some ⟨B, 0, none⟩)] w fun r w' => r = .returned (.tuple #[]) ∧ WordsOk c M ∧ Sx bs w0 w' (putL l [(i, B, memL c C M), (j, C, rowW M.ws c.n), (k, P, [.int .i64 sl, .int .i64 sd, .int .i64 b, .int .u64 (M.l.old : Nat), .int .u64 (sn : Nat), .func (.func 158) #[] #[], .int .i64 rr])]) e := by
  have HO := hide (show Um.Word (Um.mtouch c m 1 4 sl 0 0).l.old from Um.old_word hw)
  rw [← hM] at HO
  have hq : Um.stN M.l.old = Um.part M.l.old 27 3 := rfl
  have a0 : ((Um.part M.l.old 27 3 : Nat) : Int) = 4 := by omega
  have b0 : (((Um.part M.l.old 27 3 : Nat) : Int) == 4) = true := by simpa using a0
  clear hq h2
  have HS := hide hS
  have HI := hide (And.intro hi (And.intro hj hk))
  have hL := hS.enter3 i j k hi hj hk hij hik hjk
  have HR := hide hr
  have HW := hide hw
  have HM := hide hM
  have HBD := hide (And.intro hb0 hb1)
  have HDD := hide (And.intro hd0 hd1)
  clear hS hi hj hk hr hw hM hb0 hb1 hd0 hd1
  have hS := hL
  clear hL
  go_enter Tryz.func148, Tryz.ntmps148
  go_wp2_with (first | (refine ybox hS (h := ?_); clear hS; intro _ _ hS) | (refine yall hS (h := ?_); clear hS; intro _ _ hS) | refine yld hS (h := ?_) | (refine yst hS (h := ?_); clear hS; intro _ hS))
  refine (jLook_x hS 0 1 2 rfl rfl rfl (by decide) (by decide) (by decide) (unhide HR) (unhide HW) (unhide HBD).1 (unhide HBD).2 M (unhide HM)).mono ?_
  rintro r u ⟨rfl, hWn, hSn⟩
  clear hS
  have hS := hSn
  clear hSn
  dsimp only [putL, List.set, List.cons_append, List.nil_append] at hS
  have HW6 := hide hWn
  clear hWn
  go_wp2_with (first | (refine ybox hS (h := ?_); clear hS; intro _ _ hS) | (refine yall hS (h := ?_); clear hS; intro _ _ hS) | refine yld hS (h := ?_) | (refine yst hS (h := ?_); clear hS; intro _ hS))
  refine (jState_b (hS.get 2 rfl) (unhide HO)).mono ?_
  rintro r u ⟨rfl, hb⟩
  replace hS := hS.call hb
  clear hb
  go_wp2_with (first | (refine ybox hS (h := ?_); clear hS; intro _ _ hS) | (refine yall hS (h := ?_); clear hS; intro _ _ hS) | refine yld hS (h := ?_) | (refine yst hS (h := ?_); clear hS; intro _ hS))
  first | go_end0 | ((try simp only [Exit.inBlock, Exit.then]); refine bodyPost_ret (results_none rfl _ _ _) rfl ?_)
  exact ⟨rfl, unhide HW6, (unhide HS).back3 i j k (unhide HI).1 (unhide HI).2.1 (unhide HI).2.2 hS⟩

set_option maxHeartbeats 4000000 in
theorem jAsk_2 (hS : Sx bs w0 w l e) (i j k : Nat) (hi : l[i]? = some (B, memL c C m)) (hj : l[j]? = some (C, rowW m.ws c.n)) (hk : l[k]? = some (P, [.int .i64 sl, .int .i64 sd, .int .i64 b, .int .u64 (s : Nat), .int .u64 (sn : Nat), fn, .int .i64 rr])) (hij : i ≠ j) (hik : i ≠ k) (hjk : j ≠ k) (hr : c.r = true) (hw : WordsOk c m) (hb0 : -9223372036854775808 ≤ sl) (hb1 : sl ≤ 9223372036854775807) (M : Um.Mm) (hM : M = Um.mtouch c m 1 4 sl 0 0) (hd0 : -1 ≤ sd) (hd1 : sd ≤ 2) (h2 : Um.stN M.l.old = 2) :
    Calls Tryz.prog 148 #[.pointer (some ⟨P, 0, none⟩), .pointer (some ⟨B, 0, none⟩)] w fun r w' => r = .returned (.tuple #[]) ∧ WordsOk c M ∧ Sx bs w0 w' (putL l [(i, B, memL c C M), (j, C, rowW M.ws c.n), (k, P, [.int .i64 sl, .int .i64 sd, .int .i64 b, .int .u64 (M.l.old : Nat), .int .u64 (sn : Nat), jgF sd b M.l.old, .int .i64 (jgR sd b M.l.old rr)])]) e := by
  have HO := hide (show Um.Word (Um.mtouch c m 1 4 sl 0 0).l.old from Um.old_word hw)
  rw [← hM] at HO
  have hq : Um.stN M.l.old = Um.part M.l.old 27 3 := rfl
  have a0 : ¬ ((Um.part M.l.old 27 3 : Nat) : Int) = 4 := by omega
  have b0 : (((Um.part M.l.old 27 3 : Nat) : Int) == 4) = false := by simpa using a0
  have a1 : ((Um.part M.l.old 27 3 : Nat) : Int) = 2 := by omega
  have b1 : (((Um.part M.l.old 27 3 : Nat) : Int) == 2) = true := by simpa using a1
  clear hq h2
  have HS := hide hS
  have HI := hide (And.intro hi (And.intro hj hk))
  have hL := hS.enter3 i j k hi hj hk hij hik hjk
  have HR := hide hr
  have HW := hide hw
  have HM := hide hM
  have HBD := hide (And.intro hb0 hb1)
  have HDD := hide (And.intro hd0 hd1)
  clear hS hi hj hk hr hw hM hb0 hb1 hd0 hd1
  have hS := hL
  clear hL
  go_enter Tryz.func148, Tryz.ntmps148
  go_wp2_with (first | (refine ybox hS (h := ?_); clear hS; intro _ _ hS) | (refine yall hS (h := ?_); clear hS; intro _ _ hS) | refine yld hS (h := ?_) | (refine yst hS (h := ?_); clear hS; intro _ hS))
  refine (jLook_x hS 0 1 2 rfl rfl rfl (by decide) (by decide) (by decide) (unhide HR) (unhide HW) (unhide HBD).1 (unhide HBD).2 M (unhide HM)).mono ?_
  rintro r u ⟨rfl, hWn, hSn⟩
  clear hS
  have hS := hSn
  clear hSn
  dsimp only [putL, List.set, List.cons_append, List.nil_append] at hS
  have HW6 := hide hWn
  clear hWn
  go_wp2_with (first | (refine ybox hS (h := ?_); clear hS; intro _ _ hS) | (refine yall hS (h := ?_); clear hS; intro _ _ hS) | refine yld hS (h := ?_) | (refine yst hS (h := ?_); clear hS; intro _ hS))
  refine (jState_b (hS.get 2 rfl) (unhide HO)).mono ?_
  rintro r u ⟨rfl, hb⟩
  replace hS := hS.call hb
  clear hb
  go_wp2_with (first | (refine ybox hS (h := ?_); clear hS; intro _ _ hS) | (refine yall hS (h := ?_); clear hS; intro _ _ hS) | refine yld hS (h := ?_) | (refine yst hS (h := ?_); clear hS; intro _ hS))
  refine (jJudge_any hS 2 rfl (unhide HO) (unhide HDD).1 (unhide HDD).2).mono ?_
  rintro r u ⟨rfl, hSn⟩
  clear hS
  have hS := hSn
  clear hSn
  dsimp only [putL, List.set, List.cons_append, List.nil_append] at hS
  go_wp2_with (first | (refine ybox hS (h := ?_); clear hS; intro _ _ hS) | (refine yall hS (h := ?_); clear hS; intro _ _ hS) | refine yld hS (h := ?_) | (refine yst hS (h := ?_); clear hS; intro _ hS))
  first | go_end0 | ((try simp only [Exit.inBlock, Exit.then]); refine bodyPost_ret (results_none rfl _ _ _) rfl ?_)
  exact ⟨rfl, unhide HW6, (unhide HS).back3 i j k (unhide HI).1 (unhide HI).2.1 (unhide HI).2.2 hS⟩

set_option maxHeartbeats 4000000 in
theorem jAsk_3 (hS : Sx bs w0 w l e) (i j k : Nat) (hi : l[i]? = some (B, memL c C m)) (hj : l[j]? = some (C, rowW m.ws c.n)) (hk : l[k]? = some (P, [.int .i64 sl, .int .i64 sd, .int .i64 b, .int .u64 (s : Nat), .int .u64 (sn : Nat), fn, .int .i64 rr])) (hij : i ≠ j) (hik : i ≠ k) (hjk : j ≠ k) (hr : c.r = true) (hw : WordsOk c m) (hb0 : -9223372036854775808 ≤ sl) (hb1 : sl ≤ 9223372036854775807) (M : Um.Mm) (hM : M = Um.mtouch c m 1 4 sl 0 0) (hd0 : -1 ≤ sd) (hd1 : sd ≤ 2) (h2 : Um.stN M.l.old = 3) :
    Calls Tryz.prog 148 #[.pointer (some ⟨P, 0, none⟩), .pointer (some ⟨B, 0, none⟩)] w fun r w' => r = .returned (.tuple #[]) ∧ WordsOk c M ∧ Sx bs w0 w' (putL l [(i, B, memL c C M), (j, C, rowW M.ws c.n), (k, P, [.int .i64 sl, .int .i64 sd, .int .i64 b, .int .u64 (M.l.old : Nat), .int .u64 (sn : Nat), jgF sd b M.l.old, .int .i64 (jgR sd b M.l.old rr)])]) e := by
  have HO := hide (show Um.Word (Um.mtouch c m 1 4 sl 0 0).l.old from Um.old_word hw)
  rw [← hM] at HO
  have hq : Um.stN M.l.old = Um.part M.l.old 27 3 := rfl
  have a0 : ¬ ((Um.part M.l.old 27 3 : Nat) : Int) = 4 := by omega
  have b0 : (((Um.part M.l.old 27 3 : Nat) : Int) == 4) = false := by simpa using a0
  have a1 : ¬ ((Um.part M.l.old 27 3 : Nat) : Int) = 2 := by omega
  have b1 : (((Um.part M.l.old 27 3 : Nat) : Int) == 2) = false := by simpa using a1
  have a2 : ((Um.part M.l.old 27 3 : Nat) : Int) = 3 := by omega
  have b2 : (((Um.part M.l.old 27 3 : Nat) : Int) == 3) = true := by simpa using a2
  clear hq h2
  have HS := hide hS
  have HI := hide (And.intro hi (And.intro hj hk))
  have hL := hS.enter3 i j k hi hj hk hij hik hjk
  have HR := hide hr
  have HW := hide hw
  have HM := hide hM
  have HBD := hide (And.intro hb0 hb1)
  have HDD := hide (And.intro hd0 hd1)
  clear hS hi hj hk hr hw hM hb0 hb1 hd0 hd1
  have hS := hL
  clear hL
  go_enter Tryz.func148, Tryz.ntmps148
  go_wp2_with (first | (refine ybox hS (h := ?_); clear hS; intro _ _ hS) | (refine yall hS (h := ?_); clear hS; intro _ _ hS) | refine yld hS (h := ?_) | (refine yst hS (h := ?_); clear hS; intro _ hS))
  refine (jLook_x hS 0 1 2 rfl rfl rfl (by decide) (by decide) (by decide) (unhide HR) (unhide HW) (unhide HBD).1 (unhide HBD).2 M (unhide HM)).mono ?_
  rintro r u ⟨rfl, hWn, hSn⟩
  clear hS
  have hS := hSn
  clear hSn
  dsimp only [putL, List.set, List.cons_append, List.nil_append] at hS
  have HW6 := hide hWn
  clear hWn
  go_wp2_with (first | (refine ybox hS (h := ?_); clear hS; intro _ _ hS) | (refine yall hS (h := ?_); clear hS; intro _ _ hS) | refine yld hS (h := ?_) | (refine yst hS (h := ?_); clear hS; intro _ hS))
  refine (jState_b (hS.get 2 rfl) (unhide HO)).mono ?_
  rintro r u ⟨rfl, hb⟩
  replace hS := hS.call hb
  clear hb
  go_wp2_with (first | (refine ybox hS (h := ?_); clear hS; intro _ _ hS) | (refine yall hS (h := ?_); clear hS; intro _ _ hS) | refine yld hS (h := ?_) | (refine yst hS (h := ?_); clear hS; intro _ hS))
  refine (jJudge_any hS 2 rfl (unhide HO) (unhide HDD).1 (unhide HDD).2).mono ?_
  rintro r u ⟨rfl, hSn⟩
  clear hS
  have hS := hSn
  clear hSn
  dsimp only [putL, List.set, List.cons_append, List.nil_append] at hS
  go_wp2_with (first | (refine ybox hS (h := ?_); clear hS; intro _ _ hS) | (refine yall hS (h := ?_); clear hS; intro _ _ hS) | refine yld hS (h := ?_) | (refine yst hS (h := ?_); clear hS; intro _ hS))
  first | go_end0 | ((try simp only [Exit.inBlock, Exit.then]); refine bodyPost_ret (results_none rfl _ _ _) rfl ?_)
  exact ⟨rfl, unhide HW6, (unhide HS).back3 i j k (unhide HI).1 (unhide HI).2.1 (unhide HI).2.2 hS⟩

set_option maxHeartbeats 4000000 in
theorem jAsk_n (hS : Sx bs w0 w l e) (i j k : Nat) (hi : l[i]? = some (B, memL c C m)) (hj : l[j]? = some (C, rowW m.ws c.n)) (hk : l[k]? = some (P, [.int .i64 sl, .int .i64 sd, .int .i64 b, .int .u64 (s : Nat), .int .u64 (sn : Nat), fn, .int .i64 rr])) (hij : i ≠ j) (hik : i ≠ k) (hjk : j ≠ k) (hr : c.r = true) (hw : WordsOk c m) (hb0 : -9223372036854775808 ≤ sl) (hb1 : sl ≤ 9223372036854775807) (M : Um.Mm) (hM : M = Um.mtouch c m 1 4 sl 0 0) (hd0 : -1 ≤ sd) (hd1 : sd ≤ 2) (h2 : Um.stN M.l.old ≠ 2) (h3 : Um.stN M.l.old ≠ 3) (h4 : Um.stN M.l.old ≠ 4) :
    Calls Tryz.prog 148 #[.pointer (some ⟨P, 0, none⟩), .pointer (some ⟨B, 0, none⟩)] w fun r w' => r = .returned (.tuple #[]) ∧ WordsOk c M ∧ Sx bs w0 w' (putL l [(i, B, memL c C M), (j, C, rowW M.ws c.n), (k, P, [.int .i64 sl, .int .i64 sd, .int .i64 b, .int .u64 (M.l.old : Nat), .int .u64 (sn : Nat), .nilFunc, .int .i64 1])]) e := by
  have HO := hide (show Um.Word (Um.mtouch c m 1 4 sl 0 0).l.old from Um.old_word hw)
  rw [← hM] at HO
  have hq : Um.stN M.l.old = Um.part M.l.old 27 3 := rfl
  have a0 : ¬ ((Um.part M.l.old 27 3 : Nat) : Int) = 4 := by omega
  have b0 : (((Um.part M.l.old 27 3 : Nat) : Int) == 4) = false := by simpa using a0
  have a1 : ¬ ((Um.part M.l.old 27 3 : Nat) : Int) = 2 := by omega
  have b1 : (((Um.part M.l.old 27 3 : Nat) : Int) == 2) = false := by simpa using a1
  have a2 : ¬ ((Um.part M.l.old 27 3 : Nat) : Int) = 3 := by omega
  have b2 : (((Um.part M.l.old 27 3 : Nat) : Int) == 3) = false := by simpa using a2
  clear hq h2 h3 h4
  have HS := hide hS
  have HI := hide (And.intro hi (And.intro hj hk))
  have hL := hS.enter3 i j k hi hj hk hij hik hjk
  have HR := hide hr
  have HW := hide hw
  have HM := hide hM
  have HBD := hide (And.intro hb0 hb1)
  have HDD := hide (And.intro hd0 hd1)
  clear hS hi hj hk hr hw hM hb0 hb1 hd0 hd1
  have hS := hL
  clear hL
  go_enter Tryz.func148, Tryz.ntmps148
  go_wp2_with (first | (refine ybox hS (h := ?_); clear hS; intro _ _ hS) | (refine yall hS (h := ?_); clear hS; intro _ _ hS) | refine yld hS (h := ?_) | (refine yst hS (h := ?_); clear hS; intro _ hS))
  refine (jLook_x hS 0 1 2 rfl rfl rfl (by decide) (by decide) (by decide) (unhide HR) (unhide HW) (unhide HBD).1 (unhide HBD).2 M (unhide HM)).mono ?_
  rintro r u ⟨rfl, hWn, hSn⟩
  clear hS
  have hS := hSn
  clear hSn
  dsimp only [putL, List.set, List.cons_append, List.nil_append] at hS
  have HW6 := hide hWn
  clear hWn
  go_wp2_with (first | (refine ybox hS (h := ?_); clear hS; intro _ _ hS) | (refine yall hS (h := ?_); clear hS; intro _ _ hS) | refine yld hS (h := ?_) | (refine yst hS (h := ?_); clear hS; intro _ hS))
  refine (jState_b (hS.get 2 rfl) (unhide HO)).mono ?_
  rintro r u ⟨rfl, hb⟩
  replace hS := hS.call hb
  clear hb
  go_wp2_with (first | (refine ybox hS (h := ?_); clear hS; intro _ _ hS) | (refine yall hS (h := ?_); clear hS; intro _ _ hS) | refine yld hS (h := ?_) | (refine yst hS (h := ?_); clear hS; intro _ hS))
  refine (jSay_x hS 2 rfl 1).mono ?_
  rintro r u ⟨rfl, hSn⟩
  clear hS
  have hS := hSn
  clear hSn
  dsimp only [putL, List.set, List.cons_append, List.nil_append] at hS
  go_wp2_with (first | (refine ybox hS (h := ?_); clear hS; intro _ _ hS) | (refine yall hS (h := ?_); clear hS; intro _ _ hS) | refine yld hS (h := ?_) | (refine yst hS (h := ?_); clear hS; intro _ hS))
  first | go_end0 | ((try simp only [Exit.inBlock, Exit.then]); refine bodyPost_ret (results_none rfl _ _ _) rfl ?_)
  exact ⟨rfl, unhide HW6, (unhide HS).back3 i j k (unhide HI).1 (unhide HI).2.1 (unhide HI).2.2 hS⟩

set_option maxHeartbeats 4000000 in
theorem jNum_p (hS : Sx bs w0 w l e) (i j k : Nat) (hi : l[i]? = some (B, memL c C m)) (hj : l[j]? = some (C, rowW m.ws c.n)) (hk : l[k]? = some (P, [.int .i64 sl, .int .i64 sd, .int .i64 b, .int .u64 (s : Nat), .int .u64 (sn : Nat), fn, .int .i64 rr])) (hij : i ≠ j) (hik : i ≠ k) (hjk : j ≠ k) (hr : c.r = true) (hw : WordsOk c m) (hb0 : -9223372036854775808 ≤ sl) (hb1 : sl ≤ 9223372036854775807) (M : Um.Mm) (hM : M = Um.mtouch c m 1 6 sl 0 0) (hs : Um.Word s) (hd0 : -1 ≤ sd) (hd1 : sd ≤ 2) (hp : Um.past M.l.old sn = true) :
    Calls Tryz.prog 158 #[.pointer (some ⟨P, 0, none⟩), .pointer (some ⟨B, 0, none⟩)] w fun r w' => r = .returned (.tuple #[]) ∧ WordsOk c M ∧ Sx bs w0 w' (putL l [(i, B, memL c C M), (j, C, rowW M.ws c.n), (k, P, [.int .i64 sl, .int .i64 sd, .int .i64 b, .int .u64 (s : Nat), .int .u64 (sn : Nat), .nilFunc, .int .i64 1])]) e := by
  have HS := hide hS
  have HI := hide (And.intro hi (And.intro hj hk))
  have hL := hS.enter3 i j k hi hj hk hij hik hjk
  have HR := hide hr
  have HW := hide hw
  have HM := hide hM
  have HBD := hide (And.intro hb0 hb1)
  have HDD := hide (And.intro hd0 hd1)
  have HO := hide hs
  have HPA := hide hp
  clear hS hi hj hk hr hw hM hb0 hb1 hd0 hd1 hs hp
  have hS := hL
  clear hL
  have k4 := fun w' (hq : BlkAt w' P [.int .i64 sl, .int .i64 sd, .int .i64 b, .int .u64 (s : Nat), .int .u64 (sn : Nat), fn, .int .i64 rr]) => hq.cell 4 _ rfl
  have HP := hide (hS.get 2 rfl)
  go_enter Tryz.func158, Tryz.ntmps158
  go_wp2_with fail
  have HS3 := hide hS
  clear hS
  go_region_held3 (fun w' => BlkAt w' P [.int .i64 sl, .int .i64 sd, .int .i64 b, .int .u64 (s : Nat), .int .u64 (sn : Nat), fn, .int .i64 rr]) (first | exact (unhide HP).drew | exact BlkAt.below (by assumption) (by assumption) | assumption) (first | (go_at_call 165; refine (jSpot_b (by assumption) 6).mono ?_; rintro e u5 ⟨rfl, hb5⟩) | (go_at_call 35; refine (mLoad_x ((unhide HS3).undrew hb5) 0 1 rfl rfl (by decide) (unhide HR) (unhide HW) 6 sl (unhide HBD).1 (unhide HBD).2 M (unhide HM)).mono ?_; rintro e u7 ⟨rfl, hW6, hS6⟩; have hP6 := hS6.get 2 rfl) | (go_at_call 166; refine (tPast_any M.l.old sn _).mono ?_; rintro e u8 ⟨rfl, rfl⟩))
  have hS := hS6
  have HW6 := hide hW6
  clear hS6 hP6 hW6 k4 HS3 HP
  dsimp only [putL, List.set] at hS
  simp only [unhide HPA]
  go_wp2_with (first | (refine ybox hS (h := ?_); clear hS; intro _ _ hS) | (refine yall hS (h := ?_); clear hS; intro _ _ hS) | refine yld hS (h := ?_) | (refine yst hS (h := ?_); clear hS; intro _ hS))
  refine (jSay_x hS 2 rfl 1).mono ?_
  rintro r u ⟨rfl, hSn⟩
  clear hS
  have hS := hSn
  clear hSn
  dsimp only [putL, List.set, List.cons_append, List.nil_append] at hS
  go_wp2_with (first | (refine ybox hS (h := ?_); clear hS; intro _ _ hS) | (refine yall hS (h := ?_); clear hS; intro _ _ hS) | refine yld hS (h := ?_) | (refine yst hS (h := ?_); clear hS; intro _ hS))
  first | go_end0 | ((try simp only [Exit.inBlock, Exit.then]); refine bodyPost_ret (results_none rfl _ _ _) rfl ?_)
  exact ⟨rfl, unhide HW6, (unhide HS).back3 i j k (unhide HI).1 (unhide HI).2.1 (unhide HI).2.2 hS⟩

set_option maxHeartbeats 4000000 in
theorem jNum_j (hS : Sx bs w0 w l e) (i j k : Nat) (hi : l[i]? = some (B, memL c C m)) (hj : l[j]? = some (C, rowW m.ws c.n)) (hk : l[k]? = some (P, [.int .i64 sl, .int .i64 sd, .int .i64 b, .int .u64 (s : Nat), .int .u64 (sn : Nat), fn, .int .i64 rr])) (hij : i ≠ j) (hik : i ≠ k) (hjk : j ≠ k) (hr : c.r = true) (hw : WordsOk c m) (hb0 : -9223372036854775808 ≤ sl) (hb1 : sl ≤ 9223372036854775807) (M : Um.Mm) (hM : M = Um.mtouch c m 1 6 sl 0 0) (hs : Um.Word s) (hd0 : -1 ≤ sd) (hd1 : sd ≤ 2) (hp : Um.past M.l.old sn = false) :
    Calls Tryz.prog 158 #[.pointer (some ⟨P, 0, none⟩), .pointer (some ⟨B, 0, none⟩)] w fun r w' => r = .returned (.tuple #[]) ∧ WordsOk c M ∧ Sx bs w0 w' (putL l [(i, B, memL c C M), (j, C, rowW M.ws c.n), (k, P, [.int .i64 sl, .int .i64 sd, .int .i64 b, .int .u64 (s : Nat), .int .u64 (sn : Nat), jgF sd b s, .int .i64 (jgR sd b s rr)])]) e := by
  have HS := hide hS
  have HI := hide (And.intro hi (And.intro hj hk))
  have hL := hS.enter3 i j k hi hj hk hij hik hjk
  have HR := hide hr
  have HW := hide hw
  have HM := hide hM
  have HBD := hide (And.intro hb0 hb1)
  have HDD := hide (And.intro hd0 hd1)
  have HO := hide hs
  have HPA := hide hp
  clear hS hi hj hk hr hw hM hb0 hb1 hd0 hd1 hs hp
  have hS := hL
  clear hL
  have k4 := fun w' (hq : BlkAt w' P [.int .i64 sl, .int .i64 sd, .int .i64 b, .int .u64 (s : Nat), .int .u64 (sn : Nat), fn, .int .i64 rr]) => hq.cell 4 _ rfl
  have HP := hide (hS.get 2 rfl)
  go_enter Tryz.func158, Tryz.ntmps158
  go_wp2_with fail
  have HS3 := hide hS
  clear hS
  go_region_held3 (fun w' => BlkAt w' P [.int .i64 sl, .int .i64 sd, .int .i64 b, .int .u64 (s : Nat), .int .u64 (sn : Nat), fn, .int .i64 rr]) (first | exact (unhide HP).drew | exact BlkAt.below (by assumption) (by assumption) | assumption) (first | (go_at_call 165; refine (jSpot_b (by assumption) 6).mono ?_; rintro e u5 ⟨rfl, hb5⟩) | (go_at_call 35; refine (mLoad_x ((unhide HS3).undrew hb5) 0 1 rfl rfl (by decide) (unhide HR) (unhide HW) 6 sl (unhide HBD).1 (unhide HBD).2 M (unhide HM)).mono ?_; rintro e u7 ⟨rfl, hW6, hS6⟩; have hP6 := hS6.get 2 rfl) | (go_at_call 166; refine (tPast_any M.l.old sn _).mono ?_; rintro e u8 ⟨rfl, rfl⟩))
  have hS := hS6
  have HW6 := hide hW6
  clear hS6 hP6 hW6 k4 HS3 HP
  dsimp only [putL, List.set] at hS
  simp only [unhide HPA]
  go_wp2_with (first | (refine ybox hS (h := ?_); clear hS; intro _ _ hS) | (refine yall hS (h := ?_); clear hS; intro _ _ hS) | refine yld hS (h := ?_) | (refine yst hS (h := ?_); clear hS; intro _ hS))
  refine (jJudge_any hS 2 rfl (unhide HO) (unhide HDD).1 (unhide HDD).2).mono ?_
  rintro r u ⟨rfl, hSn⟩
  clear hS
  have hS := hSn
  clear hSn
  dsimp only [putL, List.set, List.cons_append, List.nil_append] at hS
  go_wp2_with (first | (refine ybox hS (h := ?_); clear hS; intro _ _ hS) | (refine yall hS (h := ?_); clear hS; intro _ _ hS) | refine yld hS (h := ?_) | (refine yst hS (h := ?_); clear hS; intro _ hS))
  first | go_end0 | ((try simp only [Exit.inBlock, Exit.then]); refine bodyPost_ret (results_none rfl _ _ _) rfl ?_)
  exact ⟨rfl, unhide HW6, (unhide HS).back3 i j k (unhide HI).1 (unhide HI).2.1 (unhide HI).2.2 hS⟩

set_option maxHeartbeats 4000000 in
theorem jLay_t (hS : Sx bs w0 w l e) (i j k : Nat) (hi : l[i]? = some (B, memL c C m)) (hj : l[j]? = some (C, rowW m.ws c.n)) (hk : l[k]? = some (P, [.int .i64 sl, .int .i64 sd, .int .i64 b, .int .u64 (s : Nat), .int .u64 (sn : Nat), fn, .int .i64 rr])) (hij : i ≠ j) (hik : i ≠ k) (hjk : j ≠ k) (hr : c.r = true) (hw : WordsOk c m) (hb0 : -9223372036854775808 ≤ sl) (hb1 : sl ≤ 9223372036854775807) (M : Um.Mm) (hM : M = Um.mtouch c m 3 4 sl s (Um.withN s sd b)) (hs : Um.Word s) (hd : M.l.done = true) :
    Calls Tryz.prog 170 #[.pointer (some ⟨P, 0, none⟩), .pointer (some ⟨B, 0, none⟩)] w fun r w' => r = .returned (.tuple #[]) ∧ WordsOk c M ∧ Sx bs w0 w' (putL l [(i, B, memL c C M), (j, C, rowW M.ws c.n), (k, P, [.int .i64 sl, .int .i64 sd, .int .i64 b, .int .u64 (s : Nat), .int .u64 (sn : Nat), .nilFunc, .int .i64 2])]) e := by
  have HS := hide hS
  have HI := hide (And.intro hi (And.intro hj hk))
  have hL := hS.enter3 i j k hi hj hk hij hik hjk
  have HR := hide hr
  have HW := hide hw
  have HM := hide hM
  have HBD := hide (And.intro hb0 hb1)
  have HV := hide hs
  have HD := hide hd
  clear hS hi hj hk hr hw hM hb0 hb1 hs hd
  have hS := hL
  clear hL
  go_enter Tryz.func170, Tryz.ntmps170
  go_wp2_with (first | (refine ybox hS (h := ?_); clear hS; intro _ _ hS) | (refine yall hS (h := ?_); clear hS; intro _ _ hS) | refine yld hS (h := ?_) | (refine yst hS (h := ?_); clear hS; intro _ hS))
  refine (jSwap_x hS 0 1 2 rfl rfl rfl (by decide) (by decide) (by decide) (unhide HR) (unhide HW) (unhide HBD).1 (unhide HBD).2 M (unhide HM) (unhide HV)).mono ?_
  rintro r u ⟨rfl, hWn, hSn⟩
  clear hS
  have hS := hSn
  clear hSn
  dsimp only [putL, List.set, List.cons_append, List.nil_append] at hS
  have HW6 := hide hWn
  clear hWn
  rw [unhide HD]
  go_wp2_with (first | (refine ybox hS (h := ?_); clear hS; intro _ _ hS) | (refine yall hS (h := ?_); clear hS; intro _ _ hS) | refine yld hS (h := ?_) | (refine yst hS (h := ?_); clear hS; intro _ hS))
  refine (jSay_x hS 2 rfl 2).mono ?_
  rintro r u ⟨rfl, hSn⟩
  clear hS
  have hS := hSn
  clear hSn
  dsimp only [putL, List.set, List.cons_append, List.nil_append] at hS
  go_wp2_with (first | (refine ybox hS (h := ?_); clear hS; intro _ _ hS) | (refine yall hS (h := ?_); clear hS; intro _ _ hS) | refine yld hS (h := ?_) | (refine yst hS (h := ?_); clear hS; intro _ hS))
  first | go_end0 | ((try simp only [Exit.inBlock, Exit.then]); refine bodyPost_ret (results_none rfl _ _ _) rfl ?_)
  exact ⟨rfl, unhide HW6, (unhide HS).back3 i j k (unhide HI).1 (unhide HI).2.1 (unhide HI).2.2 hS⟩

set_option maxHeartbeats 4000000 in
theorem jLay_f (hS : Sx bs w0 w l e) (i j k : Nat) (hi : l[i]? = some (B, memL c C m)) (hj : l[j]? = some (C, rowW m.ws c.n)) (hk : l[k]? = some (P, [.int .i64 sl, .int .i64 sd, .int .i64 b, .int .u64 (s : Nat), .int .u64 (sn : Nat), fn, .int .i64 rr])) (hij : i ≠ j) (hik : i ≠ k) (hjk : j ≠ k) (hr : c.r = true) (hw : WordsOk c m) (hb0 : -9223372036854775808 ≤ sl) (hb1 : sl ≤ 9223372036854775807) (M : Um.Mm) (hM : M = Um.mtouch c m 3 4 sl s (Um.withN s sd b)) (hs : Um.Word s) (hd : M.l.done = false) :
    Calls Tryz.prog 170 #[.pointer (some ⟨P, 0, none⟩), .pointer (some ⟨B, 0, none⟩)] w fun r w' => r = .returned (.tuple #[]) ∧ WordsOk c M ∧ Sx bs w0 w' (putL l [(i, B, memL c C M), (j, C, rowW M.ws c.n), (k, P, [.int .i64 sl, .int .i64 sd, .int .i64 b, .int .u64 (s : Nat), .int .u64 (sn : Nat), .func (.func 148) #[] #[], .int .i64 rr])]) e := by
  have HS := hide hS
  have HI := hide (And.intro hi (And.intro hj hk))
  have hL := hS.enter3 i j k hi hj hk hij hik hjk
  have HR := hide hr
  have HW := hide hw
  have HM := hide hM
  have HBD := hide (And.intro hb0 hb1)
  have HV := hide hs
  have HD := hide hd
  clear hS hi hj hk hr hw hM hb0 hb1 hs hd
  have hS := hL
  clear hL
  go_enter Tryz.func170, Tryz.ntmps170
  go_wp2_with (first | (refine ybox hS (h := ?_); clear hS; intro _ _ hS) | (refine yall hS (h := ?_); clear hS; intro _ _ hS) | refine yld hS (h := ?_) | (refine yst hS (h := ?_); clear hS; intro _ hS))
  refine (jSwap_x hS 0 1 2 rfl rfl rfl (by decide) (by decide) (by decide) (unhide HR) (unhide HW) (unhide HBD).1 (unhide HBD).2 M (unhide HM) (unhide HV)).mono ?_
  rintro r u ⟨rfl, hWn, hSn⟩
  clear hS
  have hS := hSn
  clear hSn
  dsimp only [putL, List.set, List.cons_append, List.nil_append] at hS
  have HW6 := hide hWn
  clear hWn
  rw [unhide HD]
  go_wp2_with (first | (refine ybox hS (h := ?_); clear hS; intro _ _ hS) | (refine yall hS (h := ?_); clear hS; intro _ _ hS) | refine yld hS (h := ?_) | (refine yst hS (h := ?_); clear hS; intro _ hS))
  first | go_end0 | ((try simp only [Exit.inBlock, Exit.then]); refine bodyPost_ret (results_none rfl _ _ _) rfl ?_)
  exact ⟨rfl, unhide HW6, (unhide HS).back3 i j k (unhide HI).1 (unhide HI).2.1 (unhide HI).2.2 hS⟩

set_option maxHeartbeats 4000000 in
theorem oLay_t (hS : Sx bs w0 w l e) (i j k : Nat) (hi : l[i]? = some (B, memL c C m)) (hj : l[j]? = some (C, rowW m.ws c.n)) (hk : l[k]? = some (P, [.int .i64 sl, .int .i64 sd, .int .i64 b, .int .u64 (s : Nat), fn])) (hij : i ≠ j) (hik : i ≠ k) (hjk : j ≠ k) (hr : c.r = true) (hw : WordsOk c m) (hb0 : -9223372036854775808 ≤ sl) (hb1 : sl ≤ 9223372036854775807) (M : Um.Mm) (hM : M = Um.mtouch c m 3 4 sl s (Um.withN s sd b)) (hs : Um.Word s) (hd : M.l.done = true) :
    Calls Tryz.prog 172 #[.pointer (some ⟨P, 0, none⟩), .pointer (some ⟨B, 0, none⟩)] w fun r w' => r = .returned (.tuple #[]) ∧ WordsOk c M ∧ Sx bs w0 w' (putL l [(i, B, memL c C M), (j, C, rowW M.ws c.n), (k, P, [.int .i64 sl, .int .i64 sd, .int .i64 b, .int .u64 (s : Nat), .nilFunc])]) e := by
  have HS := hide hS
  have HI := hide (And.intro hi (And.intro hj hk))
  have hL := hS.enter3 i j k hi hj hk hij hik hjk
  have HR := hide hr
  have HW := hide hw
  have HM := hide hM
  have HBD := hide (And.intro hb0 hb1)
  have HV := hide hs
  have HD := hide hd
  clear hS hi hj hk hr hw hM hb0 hb1 hs hd
  have hS := hL
  clear hL
  go_enter Tryz.func172, Tryz.ntmps172
  go_wp2_with (first | (refine ybox hS (h := ?_); clear hS; intro _ _ hS) | (refine yall hS (h := ?_); clear hS; intro _ _ hS) | refine yld hS (h := ?_) | (refine yst hS (h := ?_); clear hS; intro _ hS))
  refine (jSwap_x hS 0 1 2 rfl rfl rfl (by decide) (by decide) (by decide) (unhide HR) (unhide HW) (unhide HBD).1 (unhide HBD).2 M (unhide HM) (unhide HV)).mono ?_
  rintro r u ⟨rfl, hWn, hSn⟩
  clear hS
  have hS := hSn
  clear hSn
  dsimp only [putL, List.set, List.cons_append, List.nil_append] at hS
  have HW6 := hide hWn
  clear hWn
  rw [unhide HD]
  go_wp2_with (first | (refine ybox hS (h := ?_); clear hS; intro _ _ hS) | (refine yall hS (h := ?_); clear hS; intro _ _ hS) | refine yld hS (h := ?_) | (refine yst hS (h := ?_); clear hS; intro _ hS))
  first | go_end0 | ((try simp only [Exit.inBlock, Exit.then]); refine bodyPost_ret (results_none rfl _ _ _) rfl ?_)
  exact ⟨rfl, unhide HW6, (unhide HS).back3 i j k (unhide HI).1 (unhide HI).2.1 (unhide HI).2.2 hS⟩

set_option maxHeartbeats 4000000 in
theorem oLay_f (hS : Sx bs w0 w l e) (i j k : Nat) (hi : l[i]? = some (B, memL c C m)) (hj : l[j]? = some (C, rowW m.ws c.n)) (hk : l[k]? = some (P, [.int .i64 sl, .int .i64 sd, .int .i64 b, .int .u64 (s : Nat), fn])) (hij : i ≠ j) (hik : i ≠ k) (hjk : j ≠ k) (hr : c.r = true) (hw : WordsOk c m) (hb0 : -9223372036854775808 ≤ sl) (hb1 : sl ≤ 9223372036854775807) (M : Um.Mm) (hM : M = Um.mtouch c m 3 4 sl s (Um.withN s sd b)) (hs : Um.Word s) (hd : M.l.done = false) :
    Calls Tryz.prog 172 #[.pointer (some ⟨P, 0, none⟩), .pointer (some ⟨B, 0, none⟩)] w fun r w' => r = .returned (.tuple #[]) ∧ WordsOk c M ∧ Sx bs w0 w' (putL l [(i, B, memL c C M), (j, C, rowW M.ws c.n), (k, P, [.int .i64 sl, .int .i64 sd, .int .i64 b, .int .u64 (s : Nat), .func (.func 161) #[] #[]])]) e := by
  have HS := hide hS
  have HI := hide (And.intro hi (And.intro hj hk))
  have hL := hS.enter3 i j k hi hj hk hij hik hjk
  have HR := hide hr
  have HW := hide hw
  have HM := hide hM
  have HBD := hide (And.intro hb0 hb1)
  have HV := hide hs
  have HD := hide hd
  clear hS hi hj hk hr hw hM hb0 hb1 hs hd
  have hS := hL
  clear hL
  go_enter Tryz.func172, Tryz.ntmps172
  go_wp2_with (first | (refine ybox hS (h := ?_); clear hS; intro _ _ hS) | (refine yall hS (h := ?_); clear hS; intro _ _ hS) | refine yld hS (h := ?_) | (refine yst hS (h := ?_); clear hS; intro _ hS))
  refine (jSwap_x hS 0 1 2 rfl rfl rfl (by decide) (by decide) (by decide) (unhide HR) (unhide HW) (unhide HBD).1 (unhide HBD).2 M (unhide HM) (unhide HV)).mono ?_
  rintro r u ⟨rfl, hWn, hSn⟩
  clear hS
  have hS := hSn
  clear hSn
  dsimp only [putL, List.set, List.cons_append, List.nil_append] at hS
  have HW6 := hide hWn
  clear hWn
  rw [unhide HD]
  go_wp2_with (first | (refine ybox hS (h := ?_); clear hS; intro _ _ hS) | (refine yall hS (h := ?_); clear hS; intro _ _ hS) | refine yld hS (h := ?_) | (refine yst hS (h := ?_); clear hS; intro _ hS))
  first | go_end0 | ((try simp only [Exit.inBlock, Exit.then]); refine bodyPost_ret (results_none rfl _ _ _) rfl ?_)
  exact ⟨rfl, unhide HW6, (unhide HS).back3 i j k (unhide HI).1 (unhide HI).2.1 (unhide HI).2.2 hS⟩

set_option maxHeartbeats 4000000 in
theorem oAsk_t (hS : Sx bs w0 w l e) (i j k : Nat) (hi : l[i]? = some (B, memL c C m)) (hj : l[j]? = some (C, rowW m.ws c.n)) (hk : l[k]? = some (P, [.int .i64 sl, .int .i64 sd, .int .i64 b, .int .u64 (s : Nat), fn])) (hij : i ≠ j) (hik : i ≠ k) (hjk : j ≠ k) (hr : c.r = true) (hw : WordsOk c m) (hb0 : -9223372036854775808 ≤ sl) (hb1 : sl ≤ 9223372036854775807) (M : Um.Mm) (hM : M = Um.mtouch c m 1 4 sl 0 0) (hd : Um.withN M.l.old sd b = M.l.old) :
    Calls Tryz.prog 161 #[.pointer (some ⟨P, 0, none⟩), .pointer (some ⟨B, 0, none⟩)] w fun r w' => r = .returned (.tuple #[]) ∧ WordsOk c M ∧ Sx bs w0 w' (putL l [(i, B, memL c C M), (j, C, rowW M.ws c.n), (k, P, [.int .i64 sl, .int .i64 sd, .int .i64 b, .int .u64 (M.l.old : Nat), .nilFunc])]) e := by
  have HO := hide (show Um.Word (Um.mtouch c m 1 4 sl 0 0).l.old from Um.old_word hw)
  rw [← hM] at HO
  have e1 : ((Um.withN M.l.old sd b : Nat) : Int) = ((M.l.old : Nat) : Int) := by omega
  have e2 : (((Um.withN M.l.old sd b : Nat) : Int) == ((M.l.old : Nat) : Int)) = true := by simpa using e1
  clear hd
  have HS := hide hS
  have HI := hide (And.intro hi (And.intro hj hk))
  have hL := hS.enter3 i j k hi hj hk hij hik hjk
  have HR := hide hr
  have HW := hide hw
  have HM := hide hM
  have HBD := hide (And.intro hb0 hb1)
  clear hS hi hj hk hr hw hM hb0 hb1 
  have hS := hL
  clear hL
  go_enter Tryz.func161, Tryz.ntmps161
  go_wp2_with (first | (refine ybox hS (h := ?_); clear hS; intro _ _ hS) | (refine yall hS (h := ?_); clear hS; intro _ _ hS) | refine yld hS (h := ?_) | (refine yst hS (h := ?_); clear hS; intro _ hS))
  refine (jLook_x hS 0 1 2 rfl rfl rfl (by decide) (by decide) (by decide) (unhide HR) (unhide HW) (unhide HBD).1 (unhide HBD).2 M (unhide HM)).mono ?_
  rintro r u ⟨rfl, hWn, hSn⟩
  clear hS
  have hS := hSn
  clear hSn
  dsimp only [putL, List.set, List.cons_append, List.nil_append] at hS
  have HW6 := hide hWn
  clear hWn
  go_wp2_with fail
  obtain ⟨u, rfl⟩ := nameW hS
  have k3 := cell_regrown ((hS.get 2 rfl).cell 3 _ rfl)
  have HLD := hide (fun d os => Calls.regrown_of (jLaid_b ((hS.call (below_regrown u d os)).get 2 rfl) (unhide HO)))
  have HSQ := hide hS
  clear hS
  refine wp_region_quiet_below (by kernel_rfl) (by kernel_rfl) ?_
  repeat (go_big_quiet_step (first | (go_at_call 171; exact (unhide HLD) _ _)))
  refine wpQuiet_nil ?_
  intro _ hw'
  obtain ⟨⟨dq, osq⟩, hw''⟩ := hw'
  subst hw''
  have hS := (unhide HSQ).call (below_regrown u dq osq)
  clear HLD HSQ k3
  generalize grow (redrawn u dq) osq = u9 at *
  go_wp2_with (first | (refine ybox hS (h := ?_); clear hS; intro _ _ hS) | (refine yall hS (h := ?_); clear hS; intro _ _ hS) | refine yld hS (h := ?_) | (refine yst hS (h := ?_); clear hS; intro _ hS))
  first | go_end0 | ((try simp only [Exit.inBlock, Exit.then]); refine bodyPost_ret (results_none rfl _ _ _) rfl ?_)
  exact ⟨rfl, unhide HW6, (unhide HS).back3 i j k (unhide HI).1 (unhide HI).2.1 (unhide HI).2.2 hS⟩

set_option maxHeartbeats 4000000 in
theorem oAsk_f (hS : Sx bs w0 w l e) (i j k : Nat) (hi : l[i]? = some (B, memL c C m)) (hj : l[j]? = some (C, rowW m.ws c.n)) (hk : l[k]? = some (P, [.int .i64 sl, .int .i64 sd, .int .i64 b, .int .u64 (s : Nat), fn])) (hij : i ≠ j) (hik : i ≠ k) (hjk : j ≠ k) (hr : c.r = true) (hw : WordsOk c m) (hb0 : -9223372036854775808 ≤ sl) (hb1 : sl ≤ 9223372036854775807) (M : Um.Mm) (hM : M = Um.mtouch c m 1 4 sl 0 0) (hd : Um.withN M.l.old sd b ≠ M.l.old) :
    Calls Tryz.prog 161 #[.pointer (some ⟨P, 0, none⟩), .pointer (some ⟨B, 0, none⟩)] w fun r w' => r = .returned (.tuple #[]) ∧ WordsOk c M ∧ Sx bs w0 w' (putL l [(i, B, memL c C M), (j, C, rowW M.ws c.n), (k, P, [.int .i64 sl, .int .i64 sd, .int .i64 b, .int .u64 (M.l.old : Nat), .func (.func 172) #[] #[]])]) e := by
  have HO := hide (show Um.Word (Um.mtouch c m 1 4 sl 0 0).l.old from Um.old_word hw)
  rw [← hM] at HO
  have e1 : ¬ ((Um.withN M.l.old sd b : Nat) : Int) = ((M.l.old : Nat) : Int) := by omega
  have e2 : (((Um.withN M.l.old sd b : Nat) : Int) == ((M.l.old : Nat) : Int)) = false := by simpa using e1
  clear hd
  have HS := hide hS
  have HI := hide (And.intro hi (And.intro hj hk))
  have hL := hS.enter3 i j k hi hj hk hij hik hjk
  have HR := hide hr
  have HW := hide hw
  have HM := hide hM
  have HBD := hide (And.intro hb0 hb1)
  clear hS hi hj hk hr hw hM hb0 hb1 
  have hS := hL
  clear hL
  go_enter Tryz.func161, Tryz.ntmps161
  go_wp2_with (first | (refine ybox hS (h := ?_); clear hS; intro _ _ hS) | (refine yall hS (h := ?_); clear hS; intro _ _ hS) | refine yld hS (h := ?_) | (refine yst hS (h := ?_); clear hS; intro _ hS))
  refine (jLook_x hS 0 1 2 rfl rfl rfl (by decide) (by decide) (by decide) (unhide HR) (unhide HW) (unhide HBD).1 (unhide HBD).2 M (unhide HM)).mono ?_
  rintro r u ⟨rfl, hWn, hSn⟩
  clear hS
  have hS := hSn
  clear hSn
  dsimp only [putL, List.set, List.cons_append, List.nil_append] at hS
  have HW6 := hide hWn
  clear hWn
  go_wp2_with fail
  obtain ⟨u, rfl⟩ := nameW hS
  have k3 := cell_regrown ((hS.get 2 rfl).cell 3 _ rfl)
  have HLD := hide (fun d os => Calls.regrown_of (jLaid_b ((hS.call (below_regrown u d os)).get 2 rfl) (unhide HO)))
  have HSQ := hide hS
  clear hS
  refine wp_region_quiet_below (by kernel_rfl) (by kernel_rfl) ?_
  repeat (go_big_quiet_step (first | (go_at_call 171; exact (unhide HLD) _ _)))
  refine wpQuiet_nil ?_
  intro _ hw'
  obtain ⟨⟨dq, osq⟩, hw''⟩ := hw'
  subst hw''
  have hS := (unhide HSQ).call (below_regrown u dq osq)
  clear HLD HSQ k3
  generalize grow (redrawn u dq) osq = u9 at *
  go_wp2_with (first | (refine ybox hS (h := ?_); clear hS; intro _ _ hS) | (refine yall hS (h := ?_); clear hS; intro _ _ hS) | refine yld hS (h := ?_) | (refine yst hS (h := ?_); clear hS; intro _ hS))
  first | go_end0 | ((try simp only [Exit.inBlock, Exit.then]); refine bodyPost_ret (results_none rfl _ _ _) rfl ?_)
  exact ⟨rfl, unhide HW6, (unhide HS).back3 i j k (unhide HI).1 (unhide HI).2.1 (unhide HI).2.2 hS⟩

set_option maxHeartbeats 2000000 in
theorem jStep_ask {Q : World → Prop} (hB : BlkAt w P [.int .i64 sl, .int .i64 sd, .int .i64 b, .int .u64 (s : Nat), .int .u64 (sn : Nat), .func (.func 148) #[] #[], .int .i64 rr]) (hC : Calls Tryz.prog 148 #[.pointer (some ⟨P, 0, none⟩), .pointer (some ⟨B, 0, none⟩)] w fun r w' => r = .returned (.tuple #[]) ∧ Q w') :
    Calls Tryz.prog 149 #[.pointer (some ⟨P, 0, none⟩), .pointer (some ⟨B, 0, none⟩)] w fun r w' => r = .returned (.tuple #[]) ∧ Q w' := by
  have h2 := hB.cell 5 _ rfl
  have hE := eqJF
  have HC := hide hC
  clear hB hC
  go_enter Tryz.func149, Tryz.ntmps149
  go_wp2_with fail
  refine (unhide HC).mono ?_
  rintro r u ⟨rfl, hQ⟩
  have H2 := hide hQ
  clear hQ h2 HC
  go_wp2
  go_end0
  exact ⟨rfl, unhide H2⟩

set_option maxHeartbeats 2000000 in
theorem jStep_num {Q : World → Prop} (hB : BlkAt w P [.int .i64 sl, .int .i64 sd, .int .i64 b, .int .u64 (s : Nat), .int .u64 (sn : Nat), .func (.func 158) #[] #[], .int .i64 rr]) (hC : Calls Tryz.prog 158 #[.pointer (some ⟨P, 0, none⟩), .pointer (some ⟨B, 0, none⟩)] w fun r w' => r = .returned (.tuple #[]) ∧ Q w') :
    Calls Tryz.prog 149 #[.pointer (some ⟨P, 0, none⟩), .pointer (some ⟨B, 0, none⟩)] w fun r w' => r = .returned (.tuple #[]) ∧ Q w' := by
  have h2 := hB.cell 5 _ rfl
  have hE := eqJF
  have HC := hide hC
  clear hB hC
  go_enter Tryz.func149, Tryz.ntmps149
  go_wp2_with fail
  refine (unhide HC).mono ?_
  rintro r u ⟨rfl, hQ⟩
  have H2 := hide hQ
  clear hQ h2 HC
  go_wp2
  go_end0
  exact ⟨rfl, unhide H2⟩

set_option maxHeartbeats 2000000 in
theorem jStep_lay {Q : World → Prop} (hB : BlkAt w P [.int .i64 sl, .int .i64 sd, .int .i64 b, .int .u64 (s : Nat), .int .u64 (sn : Nat), .func (.func 170) #[] #[], .int .i64 rr]) (hC : Calls Tryz.prog 170 #[.pointer (some ⟨P, 0, none⟩), .pointer (some ⟨B, 0, none⟩)] w fun r w' => r = .returned (.tuple #[]) ∧ Q w') :
    Calls Tryz.prog 149 #[.pointer (some ⟨P, 0, none⟩), .pointer (some ⟨B, 0, none⟩)] w fun r w' => r = .returned (.tuple #[]) ∧ Q w' := by
  have h2 := hB.cell 5 _ rfl
  have hE := eqJF
  have HC := hide hC
  clear hB hC
  go_enter Tryz.func149, Tryz.ntmps149
  go_wp2_with fail
  refine (unhide HC).mono ?_
  rintro r u ⟨rfl, hQ⟩
  have H2 := hide hQ
  clear hQ h2 HC
  go_wp2
  go_end0
  exact ⟨rfl, unhide H2⟩

set_option maxHeartbeats 1000000 in
theorem jStep_done (hB : BlkAt w P [.int .i64 sl, .int .i64 sd, .int .i64 b, .int .u64 (s : Nat), .int .u64 (sn : Nat), .nilFunc, .int .i64 rr]) (b : Value) : Calls Tryz.prog 149 #[.pointer (some ⟨P, 0, none⟩), b] w fun r w' => r = .returned (.tuple #[]) ∧ w' = w := by
  have h2 := hB.cell 5 _ rfl
  have hE := eqJN
  clear hB
  go_enter Tryz.func149, Tryz.ntmps149
  go_wp2
  go_end0
  exact ⟨rfl, rfl⟩

set_option maxHeartbeats 1000000 in
theorem jResult_b (hB : BlkAt w P [.int .i64 sl, .int .i64 sd, .int .i64 b, .int .u64 (s : Nat), .int .u64 (sn : Nat), fn, .int .i64 rr]) : Calls Tryz.prog 150 #[.pointer (some ⟨P, 0, none⟩)] w fun r w' => r = .returned (.int .i64 rr) ∧ w' = w := by
  have h2 := hB.cell 6 _ rfl
  clear hB
  go_enter Tryz.func150, Tryz.ntmps150
  go_wp2
  go_ret
  exact ⟨rfl, rfl⟩

set_option maxHeartbeats 1000000 in
theorem jNew_x (hS : Sx bs w0 w l e) (sl sd b : Int) (sn : Nat) :
    Calls Tryz.prog 143 #[.int .i64 sl, .int .i64 sd, .int .i64 b, .int .u64 (sn : Nat)] w fun r w' => ∃ P, r = .returned (.pointer (some ⟨P, 0, none⟩)) ∧ Sx bs w0 w' (l ++ [(P, [.int .i64 sl, .int .i64 sd, .int .i64 b, .int .u64 (0 : Nat), .int .u64 (sn : Nat), .func (.func 148) #[] #[], .int .i64 0])]) e := by
  have HS := hide hS
  clear hS
  have hS := Sx.new w
  go_enter Tryz.func143, Tryz.ntmps143
  go_wp2_with (first | (refine ybox hS (h := ?_); clear hS; intro _ _ hS) | (refine yall hS (h := ?_); clear hS; intro _ _ hS) | refine yld hS (h := ?_) | (refine yst hS (h := ?_); clear hS; intro _ hS))
  go_ret
  obtain ⟨P, rfl⟩ := nameB hS 0 rfl
  exact ⟨P, rfl, (unhide HS).add hS.bel (hS.get 0 rfl) ((hS.low _ (List.mem_of_getElem? (i := 0) rfl)).resolve_left (by simp))⟩

set_option maxHeartbeats 1000000 in
theorem oNew_x (hS : Sx bs w0 w l e) (sl sd b : Int) :
    Calls Tryz.prog 151 #[.int .i64 sl, .int .i64 sd, .int .i64 b] w fun r w' => ∃ P, r = .returned (.pointer (some ⟨P, 0, none⟩)) ∧ Sx bs w0 w' (l ++ [(P, [.int .i64 sl, .int .i64 sd, .int .i64 b, .int .u64 (0 : Nat), .func (.func 161) #[] #[]])]) e := by
  have HS := hide hS
  clear hS
  have hS := Sx.new w
  go_enter Tryz.func151, Tryz.ntmps151
  go_wp2_with (first | (refine ybox hS (h := ?_); clear hS; intro _ _ hS) | (refine yall hS (h := ?_); clear hS; intro _ _ hS) | refine yld hS (h := ?_) | (refine yst hS (h := ?_); clear hS; intro _ hS))
  go_ret
  obtain ⟨P, rfl⟩ := nameB hS 0 rfl
  exact ⟨P, rfl, (unhide HS).add hS.bel (hS.get 0 rfl) ((hS.low _ (List.mem_of_getElem? (i := 0) rfl)).resolve_left (by simp))⟩

set_option maxHeartbeats 1000000 in
theorem oDone_f (f : Fn) (a1 a2 : Array Value) (hB : BlkAt w P [.int .i64 sl, .int .i64 sd, .int .i64 b, .int .u64 (s : Nat), .func f a1 a2]) : Calls Tryz.prog 163 #[.pointer (some ⟨P, 0, none⟩)] w fun r w' => r = .returned (.bool false) ∧ w' = w := by
  have h2 := hB.cell 4 _ rfl
  have hE := eqOF
  have hE0 := eqON
  clear hB
  go_enter Tryz.func163, Tryz.ntmps163
  go_wp2
  go_ret
  exact ⟨rfl, rfl⟩

set_option maxHeartbeats 1000000 in
theorem oDone_n (hB : BlkAt w P [.int .i64 sl, .int .i64 sd, .int .i64 b, .int .u64 (s : Nat), .nilFunc]) : Calls Tryz.prog 163 #[.pointer (some ⟨P, 0, none⟩)] w fun r w' => r = .returned (.bool true) ∧ w' = w := by
  have h2 := hB.cell 4 _ rfl
  have hE := eqOF
  have hE0 := eqON
  clear hB
  go_enter Tryz.func163, Tryz.ntmps163
  go_wp2
  go_ret
  exact ⟨rfl, rfl⟩

set_option maxHeartbeats 2000000 in
theorem oStep_ask {Q : World → Prop} (hB : BlkAt w P [.int .i64 sl, .int .i64 sd, .int .i64 b, .int .u64 (s : Nat), .func (.func 161) #[] #[]]) (hC : Calls Tryz.prog 161 #[.pointer (some ⟨P, 0, none⟩), .pointer (some ⟨B, 0, none⟩)] w fun r w' => r = .returned (.tuple #[]) ∧ Q w') :
    Calls Tryz.prog 162 #[.pointer (some ⟨P, 0, none⟩), .pointer (some ⟨B, 0, none⟩)] w fun r w' => r = .returned (.tuple #[]) ∧ Q w' := by
  have HD := hide (oDone_f _ _ _ hB)
  have HC := hide hC
  have h2 := hB.cell 4 _ rfl
  clear hB hC
  go_enter Tryz.func162, Tryz.ntmps162
  go_wp2_with fail
  refine (unhide HD).mono ?_
  rintro r u ⟨rfl, rfl⟩
  go_wp2_with fail
  refine (unhide HC).mono ?_
  rintro r u2 ⟨rfl, hQ⟩
  have H2 := hide hQ
  clear hQ h2
  go_wp2
  go_end0
  exact ⟨rfl, unhide H2⟩

set_option maxHeartbeats 2000000 in
theorem oStep_lay {Q : World → Prop} (hB : BlkAt w P [.int .i64 sl, .int .i64 sd, .int .i64 b, .int .u64 (s : Nat), .func (.func 172) #[] #[]]) (hC : Calls Tryz.prog 172 #[.pointer (some ⟨P, 0, none⟩), .pointer (some ⟨B, 0, none⟩)] w fun r w' => r = .returned (.tuple #[]) ∧ Q w') :
    Calls Tryz.prog 162 #[.pointer (some ⟨P, 0, none⟩), .pointer (some ⟨B, 0, none⟩)] w fun r w' => r = .returned (.tuple #[]) ∧ Q w' := by
  have HD := hide (oDone_f _ _ _ hB)
  have HC := hide hC
  have h2 := hB.cell 4 _ rfl
  clear hB hC
  go_enter Tryz.func162, Tryz.ntmps162
  go_wp2_with fail
  refine (unhide HD).mono ?_
  rintro r u ⟨rfl, rfl⟩
  go_wp2_with fail
  refine (unhide HC).mono ?_
  rintro r u2 ⟨rfl, hQ⟩
  have H2 := hide hQ
  clear hQ h2
  go_wp2
  go_end0
  exact ⟨rfl, unhide H2⟩

set_option maxHeartbeats 1000000 in
theorem oStep_done (hB : BlkAt w P [.int .i64 sl, .int .i64 sd, .int .i64 b, .int .u64 (s : Nat), .nilFunc]) (b : Value) :
    Calls Tryz.prog 162 #[.pointer (some ⟨P, 0, none⟩), b] w fun r w' => r = .returned (.tuple #[]) ∧ w' = w := by
  have HD := hide (oDone_n hB)
  clear hB
  go_enter Tryz.func162, Tryz.ntmps162
  go_wp2_with fail
  refine (unhide HD).mono ?_
  rintro r u ⟨rfl, rfl⟩
  go_wp2
  go_end0
  exact ⟨rfl, rfl⟩

end

end Go.Proofs.YtapgghciieloaaaGreat

/-
  A step of a join, of one's own end, of whatever step; to their ends; what a law reads.
-/
namespace Go.Proofs.YtapgghciieloaaaGreat
set_option maxRecDepth 100000
open Go.RowKit Go.Sort
set_option linter.unusedVariables false
set_option linter.unusedSimpArgs false

/-- what comes next -/
def jnF (o : Um.Js) : Value := if o.r ≠ 0 then .nilFunc else if o.nx = 0 then .func (.func 148) #[] #[] else if o.nx = 1 then .func (.func 158) #[] #[] else .func (.func 170) #[] #[]

/-- a join's cells -/
def jnL (sl sd b : Int) (sn : Nat) (o : Um.Js) : List Value := [.int .i64 sl, .int .i64 sd, .int .i64 b, .int .u64 (o.s : Nat), .int .u64 (sn : Nat), jnF o, .int .i64 ((o.r : Nat) : Int)]

def owF (o : Um.Ls) : Value := if o.dn = true then .nilFunc else if o.lk = true then .func (.func 172) #[] #[] else .func (.func 161) #[] #[]

/-- the cells of one's own end -/
def owL (sl sd b : Int) (o : Um.Ls) : List Value := [.int .i64 sl, .int .i64 sd, .int .i64 b, .int .u64 (o.s : Nat), owF o]

theorem put_same3j {l : List (Nat × List Value)} {i j k : Nat} {a b d : Nat × List Value} (hi : l[i]? = some a) (hj : l[j]? = some b) (hk : l[k]? = some d) : putL l [(i, a), (j, b), (k, d)] = l := by
  show ((l.set i a).set j b).set k d = l
  rw [set_same hi, set_same hj, set_same hk]

theorem jjd_F (sd b : Int) (M : Um.Mm) (nx s : Nat) : jnF (Um.jjd sd b M nx s) = jgF sd b s := by
  unfold jnF jgF Um.jjd
  by_cases h1 : Um.hasN s sd b = true
  · simp only [if_pos h1]
    rfl
  · simp only [if_neg h1]
    by_cases h2 : Um.stN s ≠ 2 ∧ Um.anyN s (1 - sd) = true
    · simp only [if_pos h2]
      rfl
    · simp only [if_neg h2]
      rfl

theorem jjd_R (sd b : Int) (M : Um.Mm) (nx s : Nat) : (((Um.jjd sd b M nx s).r : Nat) : Int) = jgR sd b s 0 := by
  unfold jgR Um.jjd
  by_cases h1 : Um.hasN s sd b = true
  · simp only [if_pos h1]
    rfl
  · simp only [if_neg h1]
    by_cases h2 : Um.stN s ≠ 2 ∧ Um.anyN s (1 - sd) = true
    · simp only [if_pos h2]
      rfl
    · simp only [if_neg h2]
      rfl

theorem jjd_L (sl sd b : Int) (sn : Nat) (M : Um.Mm) (nx s : Nat) : jnL sl sd b sn (Um.jjd sd b M nx s) = [.int .i64 sl, .int .i64 sd, .int .i64 b, .int .u64 (s : Nat), .int .u64 (sn : Nat), jgF sd b s, .int .i64 (jgR sd b s 0)] := by
  unfold jnL
  rw [jjd_F, jjd_R, (Um.jjd_r sd b M nx s).2.2.1]

section
variable {bs : List Nat} {w0 w : World} {l e : List (Nat × List Value)} {B C P : Nat} {c : Um.Cf} {sl sd b : Int} {sn : Nat}

theorem jRes_any {o : Um.Js} (hB : BlkAt w P (jnL sl sd b sn o)) : Calls Tryz.prog 150 #[.pointer (some ⟨P, 0, none⟩)] w fun r w' => r = .returned (.int .i64 ((o.r : Nat) : Int)) ∧ w' = w := jResult_b hB

theorem jnew_any (hS : Sx bs w0 w l e) (sl sd b : Int) (sn : Nat) (m : Um.Mm) :
    Calls Tryz.prog 143 #[.int .i64 sl, .int .i64 sd, .int .i64 b, .int .u64 (sn : Nat)] w fun r w' => ∃ P, r = .returned (.pointer (some ⟨P, 0, none⟩)) ∧ Sx bs w0 w' (l ++ [(P, jnL sl sd b sn (Um.jnew m))]) e := jNew_x hS sl sd b sn

theorem onew_any (hS : Sx bs w0 w l e) (sl sd b : Int) (m : Um.Mm) :
    Calls Tryz.prog 151 #[.int .i64 sl, .int .i64 sd, .int .i64 b] w fun r w' => ∃ P, r = .returned (.pointer (some ⟨P, 0, none⟩)) ∧ Sx bs w0 w' (l ++ [(P, owL sl sd b (Um.lnew m))]) e := oNew_x hS sl sd b

theorem jStep_any (hS : Sx bs w0 w l e) (i j k : Nat) (o O : Um.Js) (hO : O = Um.jstep c sl sd b sn o) (hi : l[i]? = some (B, memL c C o.m)) (hj : l[j]? = some (C, rowW o.m.ws c.n)) (hk : l[k]? = some (P, jnL sl sd b sn o)) (hij : i ≠ j) (hik : i ≠ k) (hjk : j ≠ k) (hr : c.r = true) (ho : Um.Jok c o) (h0 : -9223372036854775808 ≤ sl) (h1 : sl ≤ 9223372036854775807) (hd0 : -1 ≤ sd) (hd1 : sd ≤ 2) :
    Calls Tryz.prog 149 #[.pointer (some ⟨P, 0, none⟩), .pointer (some ⟨B, 0, none⟩)] w fun r w' => r = .returned (.tuple #[]) ∧ Um.Jok c O ∧ Sx bs w0 w' (putL l [(i, B, memL c C O.m), (j, C, rowW O.m.ws c.n), (k, P, jnL sl sd b sn O)]) e := by
  have hO' : Um.Jok c O := hO ▸ Um.jstep_ok ho
  by_cases hz : o.r = 0
  · obtain ⟨m, nx, s, r⟩ := o
    obtain ⟨i1, i2, i3, i4⟩ := ho
    dsimp only at *
    subst hz
    rcases (by omega : nx = 0 ∨ nx = 1 ∨ nx = 2) with rfl | rfl | rfl
    · obtain ⟨M, hM⟩ : ∃ M, M = Um.mtouch c m 1 4 sl 0 0 := ⟨_, rfl⟩
      have eO : O = (if Um.stN M.l.old = 4 then ⟨M, 1, M.l.old, 0⟩ else if Um.stN M.l.old = 2 ∨ Um.stN M.l.old = 3 then Um.jjd sd b M 0 M.l.old else ⟨M, 0, M.l.old, 1⟩) := by rw [hO, hM]; rfl
      by_cases g4 : Um.stN M.l.old = 4
      · rw [if_pos g4] at eO
        subst eO
        refine (jStep_ask (Q := fun w' => WordsOk c M ∧ Sx bs w0 w' (putL l [(i, B, memL c C M), (j, C, rowW M.ws c.n), (k, P, jnL sl sd b sn ⟨M, 1, M.l.old, 0⟩)]) e) (hS.get k hk) (jAsk_4 hS i j k hi hj hk hij hik hjk hr i1 h0 h1 M hM hd0 hd1 g4)).mono ?_
        rintro r w' ⟨rfl, _, hSn⟩
        exact ⟨rfl, hO', hSn⟩
      rw [if_neg g4] at eO
      by_cases g23 : Um.stN M.l.old = 2 ∨ Um.stN M.l.old = 3
      · rw [if_pos g23] at eO
        subst eO
        have hm := (Um.jjd_r sd b M 0 M.l.old).2.1
        rw [hm, jjd_L]
        rcases g23 with g2 | g3
        · refine (jStep_ask (Q := fun w' => WordsOk c M ∧ Sx bs w0 w' (putL l [(i, B, memL c C M), (j, C, rowW M.ws c.n), (k, P, [.int .i64 sl, .int .i64 sd, .int .i64 b, .int .u64 (M.l.old : Nat), .int .u64 (sn : Nat), jgF sd b M.l.old, .int .i64 (jgR sd b M.l.old 0)])]) e) (hS.get k hk) (jAsk_2 hS i j k hi hj hk hij hik hjk hr i1 h0 h1 M hM hd0 hd1 g2)).mono ?_
          rintro r w' ⟨rfl, _, hSn⟩
          exact ⟨rfl, hO', hSn⟩
        · refine (jStep_ask (Q := fun w' => WordsOk c M ∧ Sx bs w0 w' (putL l [(i, B, memL c C M), (j, C, rowW M.ws c.n), (k, P, [.int .i64 sl, .int .i64 sd, .int .i64 b, .int .u64 (M.l.old : Nat), .int .u64 (sn : Nat), jgF sd b M.l.old, .int .i64 (jgR sd b M.l.old 0)])]) e) (hS.get k hk) (jAsk_3 hS i j k hi hj hk hij hik hjk hr i1 h0 h1 M hM hd0 hd1 g3)).mono ?_
          rintro r w' ⟨rfl, _, hSn⟩
          exact ⟨rfl, hO', hSn⟩
      · rw [if_neg g23] at eO
        subst eO
        refine (jStep_ask (Q := fun w' => WordsOk c M ∧ Sx bs w0 w' (putL l [(i, B, memL c C M), (j, C, rowW M.ws c.n), (k, P, jnL sl sd b sn ⟨M, 0, M.l.old, 1⟩)]) e) (hS.get k hk) (jAsk_n hS i j k hi hj hk hij hik hjk hr i1 h0 h1 M hM hd0 hd1 (fun q => g23 (.inl q)) (fun q => g23 (.inr q)) g4)).mono ?_
        rintro r w' ⟨rfl, _, hSn⟩
        exact ⟨rfl, hO', hSn⟩
    · obtain ⟨M, hM⟩ : ∃ M, M = Um.mtouch c m 1 6 sl 0 0 := ⟨_, rfl⟩
      have eO : O = (if Um.past M.l.old sn = true then ⟨M, 1, s, 1⟩ else Um.jjd sd b M 1 s) := by rw [hO, hM]; rfl
      cases hp : Um.past M.l.old sn with
      | true =>
        rw [if_pos hp] at eO
        subst eO
        refine (jStep_num (Q := fun w' => WordsOk c M ∧ Sx bs w0 w' (putL l [(i, B, memL c C M), (j, C, rowW M.ws c.n), (k, P, jnL sl sd b sn ⟨M, 1, s, 1⟩)]) e) (hS.get k hk) (jNum_p hS i j k hi hj hk hij hik hjk hr i1 h0 h1 M hM i2 hd0 hd1 hp)).mono ?_
        rintro r w' ⟨rfl, _, hSn⟩
        exact ⟨rfl, hO', hSn⟩
      | false =>
        rw [if_neg (by rw [hp]; decide)] at eO
        subst eO
        have hm := (Um.jjd_r sd b M 1 s).2.1
        rw [hm, jjd_L]
        refine (jStep_num (Q := fun w' => WordsOk c M ∧ Sx bs w0 w' (putL l [(i, B, memL c C M), (j, C, rowW M.ws c.n), (k, P, [.int .i64 sl, .int .i64 sd, .int .i64 b, .int .u64 (s : Nat), .int .u64 (sn : Nat), jgF sd b s, .int .i64 (jgR sd b s 0)])]) e) (hS.get k hk) (jNum_j hS i j k hi hj hk hij hik hjk hr i1 h0 h1 M hM i2 hd0 hd1 hp)).mono ?_
        rintro r w' ⟨rfl, _, hSn⟩
        exact ⟨rfl, hO', hSn⟩
    · obtain ⟨M, hM⟩ : ∃ M, M = Um.mtouch c m 3 4 sl s (Um.withN s sd b) := ⟨_, rfl⟩
      have eO : O = ⟨M, 0, s, if M.l.done then 2 else 0⟩ := by rw [hO, hM]; rfl
      cases hdn : M.l.done with
      | true =>
        rw [hdn, if_pos rfl] at eO
        subst eO
        refine (jStep_lay (Q := fun w' => WordsOk c M ∧ Sx bs w0 w' (putL l [(i, B, memL c C M), (j, C, rowW M.ws c.n), (k, P, jnL sl sd b sn ⟨M, 0, s, 2⟩)]) e) (hS.get k hk) (jLay_t hS i j k hi hj hk hij hik hjk hr i1 h0 h1 M hM i2 hdn)).mono ?_
        rintro r w' ⟨rfl, _, hSn⟩
        exact ⟨rfl, hO', hSn⟩
      | false =>
        rw [hdn, if_neg (by decide)] at eO
        subst eO
        refine (jStep_lay (Q := fun w' => WordsOk c M ∧ Sx bs w0 w' (putL l [(i, B, memL c C M), (j, C, rowW M.ws c.n), (k, P, jnL sl sd b sn ⟨M, 0, s, 0⟩)]) e) (hS.get k hk) (jLay_f hS i j k hi hj hk hij hik hjk hr i1 h0 h1 M hM i2 hdn)).mono ?_
        rintro r w' ⟨rfl, _, hSn⟩
        exact ⟨rfl, hO', hSn⟩
  · have eO : O = o := by rw [hO]; exact Um.jstep_end hz
    subst eO
    have hF : jnF O = .nilFunc := by unfold jnF; rw [if_pos hz]
    have hk' := hk
    unfold jnL at hk'
    rw [hF] at hk'
    refine (jStep_done (hS.get k hk') _).mono ?_
    rintro r w' ⟨rfl, rfl⟩
    exact ⟨rfl, hO', by rw [put_same3j hi hj hk]; exact hS⟩

theorem oDone_any {o : Um.Ls} (hB : BlkAt w P (owL sl sd b o)) : Calls Tryz.prog 163 #[.pointer (some ⟨P, 0, none⟩)] w fun r w' => r = .returned (.bool o.dn) ∧ w' = w := by
  obtain ⟨m, lk, s, dn⟩ := o
  cases dn with
  | true => exact oDone_n hB
  | false =>
    cases lk with
    | true => exact oDone_f _ _ _ hB
    | false => exact oDone_f _ _ _ hB

theorem oStep_any (hS : Sx bs w0 w l e) (i j k : Nat) (o O : Um.Ls) (hO : O = Um.wstep c sl sd b o) (hi : l[i]? = some (B, memL c C o.m)) (hj : l[j]? = some (C, rowW o.m.ws c.n)) (hk : l[k]? = some (P, owL sl sd b o)) (hij : i ≠ j) (hik : i ≠ k) (hjk : j ≠ k) (hr : c.r = true) (ho : Um.Lok c o) (h0 : -9223372036854775808 ≤ sl) (h1 : sl ≤ 9223372036854775807) :
    Calls Tryz.prog 162 #[.pointer (some ⟨P, 0, none⟩), .pointer (some ⟨B, 0, none⟩)] w fun r w' => r = .returned (.tuple #[]) ∧ Um.Lok c O ∧ Sx bs w0 w' (putL l [(i, B, memL c C O.m), (j, C, rowW O.m.ws c.n), (k, P, owL sl sd b O)]) e := by
  have hO' : Um.Lok c O := hO ▸ Um.wstep_ok ho
  obtain ⟨m, lk, s, dn⟩ := o
  obtain ⟨i1, i2⟩ := ho
  dsimp only at *
  cases dn with
  | true =>
    have eO : O = ⟨m, lk, s, true⟩ := by rw [hO]; exact Um.wstep_done rfl
    subst eO
    refine (oStep_done (hS.get k hk) _).mono ?_
    rintro r w' ⟨rfl, rfl⟩
    exact ⟨rfl, hO', by rw [put_same3j hi hj hk]; exact hS⟩
  | false =>
    cases lk with
    | false =>
      obtain ⟨M, hM⟩ : ∃ M, M = Um.mtouch c m 1 4 sl 0 0 := ⟨_, rfl⟩
      have eO : O = ⟨M, true, M.l.old, decide (Um.withN M.l.old sd b = M.l.old)⟩ := by rw [hO, hM]; rfl
      by_cases he : Um.withN M.l.old sd b = M.l.old
      · rw [decide_eq_true he] at eO
        subst eO
        refine (oStep_ask (Q := fun w' => WordsOk c M ∧ Sx bs w0 w' (putL l [(i, B, memL c C M), (j, C, rowW M.ws c.n), (k, P, owL sl sd b ⟨M, true, M.l.old, true⟩)]) e) (hS.get k hk) (oAsk_t hS i j k hi hj hk hij hik hjk hr i1 h0 h1 M hM he)).mono ?_
        rintro r w' ⟨rfl, _, hSn⟩
        exact ⟨rfl, hO', hSn⟩
      · rw [decide_eq_false he] at eO
        subst eO
        refine (oStep_ask (Q := fun w' => WordsOk c M ∧ Sx bs w0 w' (putL l [(i, B, memL c C M), (j, C, rowW M.ws c.n), (k, P, owL sl sd b ⟨M, true, M.l.old, false⟩)]) e) (hS.get k hk) (oAsk_f hS i j k hi hj hk hij hik hjk hr i1 h0 h1 M hM he)).mono ?_
        rintro r w' ⟨rfl, _, hSn⟩
        exact ⟨rfl, hO', hSn⟩
    | true =>
      obtain ⟨M, hM⟩ : ∃ M, M = Um.mtouch c m 3 4 sl s (Um.withN s sd b) := ⟨_, rfl⟩
      have eO : O = ⟨M, false, s, M.l.done⟩ := by rw [hM]; exact hO
      cases hdn : M.l.done with
      | true =>
        rw [hdn] at eO
        subst eO
        refine (oStep_lay (Q := fun w' => WordsOk c M ∧ Sx bs w0 w' (putL l [(i, B, memL c C M), (j, C, rowW M.ws c.n), (k, P, owL sl sd b ⟨M, false, s, true⟩)]) e) (hS.get k hk) (oLay_t hS i j k hi hj hk hij hik hjk hr i1 h0 h1 M hM i2 hdn)).mono ?_
        rintro r w' ⟨rfl, _, hSn⟩
        exact ⟨rfl, hO', hSn⟩
      | false =>
        rw [hdn] at eO
        subst eO
        refine (oStep_lay (Q := fun w' => WordsOk c M ∧ Sx bs w0 w' (putL l [(i, B, memL c C M), (j, C, rowW M.ws c.n), (k, P, owL sl sd b ⟨M, false, s, false⟩)]) e) (hS.get k hk) (oLay_f hS i j k hi hj hk hij hik hjk hr i1 h0 h1 M hM i2 hdn)).mono ?_
        rintro r w' ⟨rfl, _, hSn⟩
        exact ⟨rfl, hO', hSn⟩

end

end Go.Proofs.YtapgghciieloaaaGreat

/-
  Plain arithmetic of layer 2's words: a key's word, its slots of a kind. No Go in sight.
-/
namespace Um
set_option maxRecDepth 100000

/-- the slots of a kind, below k, rising -/
def slotsTo (x : Nat) (a : Int) (k : Nat) : List Int := ((List.range k).filter (fun j : Nat => hasN x a (j : Int))).map (fun j : Nat => (j : Int))

/-- the slots of a kind -/
def slotsN (x : Nat) (a : Int) : List Int := slotsTo x a 12

/-- those but s -/
def othersN (x : Nat) (a s : Int) : List Int := (slotsN x a).filter (fun y => y != s)
theorem slotsTo_hit {x : Nat} {a : Int} {k : Nat} (h : hasN x a (k : Int) = true) : slotsTo x a (k + 1) = slotsTo x a k ++ [(k : Int)] := by
  simp [slotsTo, List.range_succ, List.filter_append, h]

theorem slotsTo_miss {x : Nat} {a : Int} {k : Nat} (h : hasN x a (k : Int) = false) : slotsTo x a (k + 1) = slotsTo x a k := by
  simp [slotsTo, List.range_succ, List.filter_append, h]

theorem slotsTo_length (x : Nat) (a : Int) (k : Nat) : (slotsTo x a k).length ≤ k := by
  unfold slotsTo
  rw [List.length_map]
  exact Nat.le_trans (List.length_filter_le _ _) (by simp)

end Um

/-
  The walks of layer 2's functions on words, and of the document's answers for them; the world stays.
-/
namespace Go.Proofs.YtapgghciieloaaaGreat
set_option maxRecDepth 100000
open Go.RowKit

set_option maxHeartbeats 400000 in
theorem mBit_any (a b : Int) (w : World) :
    Calls Tryz.prog 133 #[.int .i64 a, .int .i64 b] w fun e w' => e = .returned (.int .u64 (Um.slotN a b : Int)) ∧ w' = w := by
  by_cases ho : (a = 0 ∨ a = 1) ∧ 0 ≤ b ∧ b < 12
  · have e : Um.slotN a b = 2 ^ (12 * a + b).toNat := by unfold Um.slotN Um.bitAt; rw [if_pos (Um.okS_iff.2 ho)]
    have E : Hid (Um.slotN a b = 2 ^ (12 * a + b).toNat) := e
    clear e
    obtain ⟨ha, hb0, hb1⟩ := ho
    rcases ha with rfl | rfl
    all_goals
      go_enter Tryz.func133, Tryz.ntmps133
      go_wp2
      all_goals go_ret
      all_goals refine ⟨ret_u64 ?_, rfl⟩
      all_goals rw [E.out]
      all_goals rw [wrap_pow _ (by omega)]
      all_goals first | rfl | (congr 3; omega)
  · have e : Um.slotN a b = 0 := by unfold Um.slotN; rw [if_neg (fun h => ho (Um.okS_iff.1 h))]
    rw [e]
    go_enter Tryz.func133, Tryz.ntmps133
    go_wp2
    all_goals go_ret
    all_goals first | exact ⟨rfl, rfl⟩ | omega

set_option maxHeartbeats 400000 in
theorem mHas_any (x : Nat) (a b : Int) (w : World) (hx : Um.Word x) :
    Calls Tryz.prog 125 #[.int .u64 x, .int .i64 a, .int .i64 b] w fun e w' => e = .returned (.bool (Um.hasN x a b)) ∧ w' = w := by
  go_enter Tryz.func125, Tryz.ntmps125
  go_wp2_with (go_at_call 133; refine (mBit_any _ _ _).mono ?_; rintro e w' ⟨rfl, rfl⟩)
  go_ret
  refine ⟨ret_bool ?_, rfl⟩
  rw [u64_and_nat _ _ hx (Um.slot_word a b), ne0, Um.and_slot]

set_option maxHeartbeats 400000 in
theorem mWith_any (x : Nat) (a b : Int) (w : World) (hx : Um.Word x) :
    Calls Tryz.prog 137 #[.int .u64 x, .int .i64 a, .int .i64 b] w fun e w' => e = .returned (.int .u64 (Um.withN x a b)) ∧ w' = w := by
  go_enter Tryz.func137, Tryz.ntmps137
  go_wp2_with (go_at_call 133; refine (mBit_any _ _ _).mono ?_; rintro e w' ⟨rfl, rfl⟩)
  go_ret
  refine ⟨ret_u64 ?_, rfl⟩
  rw [u64_or_nat _ _ hx (Um.slot_word a b), Um.or_slot]

end Go.Proofs.YtapgghciieloaaaGreat

/-
  The walks of layer 2's lists of slots: a range over a function, and what it collects.
-/
namespace Go.Proofs.YtapgghciieloaaaGreat
set_option maxRecDepth 100000
open Go.RowKit Go.Shelf

attribute [local go_sem] Oper.semAt_some

/-- what lies in the boxes of a word and a kind stays there -/
def KeepsTwo (Bw Bk : Nat) (A B : World) : Prop :=
  (∀ v, A.cell? ⟨Bw, 0, none⟩ = some v → B.cell? ⟨Bw, 0, none⟩ = some v) ∧ (∀ v, A.cell? ⟨Bk, 0, none⟩ = some v → B.cell? ⟨Bk, 0, none⟩ = some v)

theorem keepsTwo_t {Bw Bk : Nat} {A B C : World} (h : KeepsTwo Bw Bk A B) (k : KeepsTwo Bw Bk B C) : KeepsTwo Bw Bk A C :=
  ⟨fun v e => k.1 v (h.1 v e), fun v e => k.2 v (h.2 v e)⟩

theorem keepsTwo_b {Bw Bk : Nat} {w : World} (W : World) (l : Nat) (o o' : Obj) (_ : w.heap.size ≤ l) (h : W.heap[l]? = some o) (hc : o.isCells = false) (_ : o.isWalk = false) : KeepsTwo Bw Bk W (W.putObj l o') :=
  ⟨fun v e => cell_kept e (grownBy_putObj' W l o') (fun r er => by cases er; exact ⟨o, h, hc⟩), fun v e => cell_kept e (grownBy_putObj' W l o') (fun r er => by cases er; exact ⟨o, h, hc⟩)⟩

theorem keepsTwo_boxed {Bw Bk : Nat} {A B : World} {t u : TypeId} {x y : Value} (h1 : Boxed A Bw t x) (h2 : Boxed A Bk u y) (k1 : Boxed B Bw t x) (k2 : Boxed B Bk u y) : KeepsTwo Bw Bk A B := by
  refine ⟨fun v e => ?_, fun v e => ?_⟩
  · rw [h1.cell] at e; cases e; exact k1.cell
  · rw [h2.cell] at e; cases e; exact k2.cell

/-- behind an append to a boxed slice whose row lies behind all boxes -/
theorem appended2 {W w1 : World} {n₀ base B : Nat} {t e : TypeId} {size : Nat} {v v' : Value} {k m : Nat} {xs ys : List Value} {tmp : Obj}
    (hv : Boxed W B t v) (hrow : W.ownsRow base e size v k xs) (hbs : base ≤ W.heap.size) (hB : n₀ ≤ B) (hB2 : B < base)
    (hown' : w1.ownsRow base e size v' m ys) (hgrow : (W.alloc tmp).grownBy w1 v.ownBlock) :
    Boxed w1 B t v ∧ Boxed (w1.setCell ⟨B, 0, none⟩ v') B t v' ∧ (w1.setCell ⟨B, 0, none⟩ v').ownsRow base e size v' m ys ∧ KeepsOthers W (w1.setCell ⟨B, 0, none⟩ v') ∧ Below n₀ W (w1.setCell ⟨B, 0, none⟩ v')
      ∧ ∀ C t' u, C < base → C ≠ B → Boxed W C t' u → Boxed (w1.setCell ⟨B, 0, none⟩ v') C t' u := by
  have nr : ∀ C, C < base → some C ≠ v.ownBlock := by
    intro C hC
    rcases hrow.2 with ⟨rfl, _⟩ | ⟨g, cap, cur, rfl, hg, _, _⟩
    · simp [Value.ownBlock]
    · intro e'
      obtain rfl : C = g := by simpa [Value.ownBlock] using e'
      omega
  have nr' : some B ≠ v'.ownBlock := by
    rcases hown'.2 with ⟨rfl, _⟩ | ⟨g, cap, cur, rfl, hg, _, _⟩
    · simp [Value.ownBlock]
    · intro e'
      obtain rfl : B = g := by simpa [Value.ownBlock] using e'
      omega
  have hv1 : Boxed w1 B t v := (hv.alloc tmp).kept hgrow (nr B hB2)
  refine ⟨hv1, hv1.set v', hown'.kept (grownBy_setCell' w1 B v') (.inr nr'.symm), ?_, ?_, ?_⟩
  · refine ((KeepsOthers.alloc W tmp).trans (KeepsOthers.of_grownBy hgrow fun j o ej hj => ?_)).trans (KeepsOthers.setCell _ _ _)
    rcases (hrow.alloc tmp).2 with ⟨rfl, _⟩ | ⟨g, cap, cur, rfl, _, hgb, _⟩
    · simp [Value.ownBlock] at ej
    · obtain rfl : g = j := by simpa [Value.ownBlock] using ej
      rw [hgb] at hj; cases hj; rfl
  · refine (((Below.refl n₀ W).alloc (by omega) tmp).grown hgrow (by simp; omega) fun j ej => ?_).setCell (p := ⟨B, 0, none⟩) hB v'
    rcases hrow.2 with ⟨rfl, _⟩ | ⟨g, cap, cur, rfl, hb, _, _⟩
    · simp [Value.ownBlock] at ej
    · obtain rfl : g = j := by simpa [Value.ownBlock] using ej
      omega
  · intro C t' u hC hne hb
    exact ((hb.alloc tmp).kept hgrow (nr C hC)).kept (grownBy_setCell' w1 B v') (by simpa using hne)

set_option maxRecDepth 100000 in
set_option maxHeartbeats 2000000 in
theorem marked1_in (n : Nat) (hn : 1 ≤ n) (l Bw Bk x : Nat) (hx : Um.Word x) (a : Int) (J Jx : List Int → World → Prop)
    (hY : ∀ pre y W, J pre W → pre.length < 12 → YieldAt Fence.wide (n - 1) Tryz.prog l #[.int .i64 y] W fun e W' =>
      (e = .returned (.bool true) ∧ J (pre ++ [y]) W' ∧ KeepsTwo Bw Bk W W') ∨ (e = .returned (.bool false) ∧ Jx (pre ++ [y]) W'))
    (W : World) (hBw : W.cell? ⟨Bw, 0, none⟩ = some (.int .u64 x)) (hBk : W.cell? ⟨Bk, 0, none⟩ = some (.int .i64 a)) (h0 : J [] W) :
    CallsIn Fence.wide n Tryz.prog 145 #[.func (.yield l) #[] #[], .pointer (some ⟨Bw, 0, none⟩), .pointer (some ⟨Bk, 0, none⟩)] W fun e W' => (∃ v, e = .returned v) ∧
      ((∃ ys, ys = Um.slotsN x a ∧ J ys W') ∨ (∃ pre, True ∧ Jx pre W')) := by
  refine callsIn_of_wp Tryz.func145 rfl trivial ?_ rfl
  simp only [Tryz.ntmps145, List.size_toArray, List.length_cons, List.length_nil, Nat.reduceAdd, Nat.reduceSub, Array.replicate_succ, Array.replicate_zero, List.push_toArray, List.append_toArray, List.nil_append, List.cons_append]
  gi_wp2
  gi_loopw [5] (fun i wr => ∃ k : Nat, k ≤ 12 ∧ i = .int .i64 k ∧ J (Um.slotsTo x a k) wr ∧ wr.cell? ⟨Bw, 0, none⟩ = some (.int .u64 x) ∧ wr.cell? ⟨Bk, 0, none⟩ = some (.int .i64 a))
    (fun i _ => 12 - (intOf i).toNat)
  case atStart => exact ⟨0, Nat.zero_le _, rfl, h0, hBw, hBk⟩
  case round =>
    obtain ⟨k, hk, rfl, hJs, hcw, hck⟩ := hrel
    by_cases hlt : k < 12
    · cases hh : Um.hasN x a (k : Int)
      · have hs := hide (Um.slotsTo_miss hh)
        gi_wp2_with (refine ⟨trivial, ?_⟩; gi_at_call 125; refine (callsIn_wide.2 (mHas_any _ _ _ _ hx)).mono ?_; rintro e w' ⟨rfl, rfl⟩)
        refine ⟨fun _ h => (by cases h), ?_⟩
        gi_wp2
        go_roundw
        case rel => exact ⟨k + 1, by omega, by simp, by rw [unhide hs]; exact hJs, hcw, hck⟩
        case measure => simp [intOf]; omega
      · have hs := hide (Um.slotsTo_hit hh)
        obtain ⟨fn, tmps, assign, body, hy, hR⟩ := hY _ (k : Int) wr hJs (by have := Um.slotsTo_length x a k; omega)
        gi_wp2_with (refine ⟨trivial, ?_⟩; gi_at_call 125; refine (callsIn_wide.2 (mHas_any _ _ _ _ hx)).mono ?_; rintro e w' ⟨rfl, rfl⟩)
        refine hR.mono ?_
        rintro e W3 (⟨rfl, hJ3, hk3⟩ | ⟨rfl, hJx3⟩)
        · gi_wp2
          go_roundw
          case rel => exact ⟨k + 1, by omega, by simp, by rw [unhide hs]; exact hJ3, hk3.1 _ hcw, hk3.2 _ hck⟩
          case measure => simp [intOf]; omega
        · gi_wp2
          refine bodyPost_ret (results_none rfl _ _ _) rfl ?_
          exact ⟨⟨_, rfl⟩, .inr ⟨_, trivial, hJx3⟩⟩
    · obtain rfl : k = 12 := by omega
      gi_wp2
      go_end0
      exact ⟨⟨_, rfl⟩, .inl ⟨_, rfl, hJs⟩⟩

set_option maxHeartbeats 1000000 in
theorem marked_in (n : Nat) (x : Nat) (a : Int) (w : World) :
    CallsIn Fence.wide n Tryz.prog 141 #[.int .u64 x, .int .i64 a] w fun e w' => e = .returned (.func (.func 145) #[] #[.pointer (some ⟨w.heap.size, 0, none⟩), .pointer (some ⟨w.heap.size + 1, 0, none⟩)]) ∧ w' = (w.alloc (.cells #[.int .u64 x] 22)).alloc (.cells #[.int .i64 a] 3) := by
  refine callsIn_of_wp Tryz.func141 rfl trivial ?_ rfl
  simp only [Tryz.ntmps141, List.size_toArray, List.length_cons, List.length_nil, Nat.reduceAdd, Nat.reduceSub, Array.replicate_succ, Array.replicate_zero, List.push_toArray, List.append_toArray, List.nil_append, List.cons_append]
  gi_wp2
  go_ret
  exact ⟨rfl, rfl⟩

theorem marked_stops (n : Nat) (hn : 1 ≤ n) (Bw Bk x : Nat) (hx : Um.Word x) (a : Int) (w : World) (hw : Bw < w.heap.size) (hk : Bk < w.heap.size)
    (hcw : w.cell? ⟨Bw, 0, none⟩ = some (.int .u64 x)) (hck : w.cell? ⟨Bk, 0, none⟩ = some (.int .i64 a)) :
    SeqStopsK Fence.wide n Tryz.prog 145 #[.pointer (some ⟨Bw, 0, none⟩), .pointer (some ⟨Bk, 0, none⟩)] (fun y : Int => #[Value.int .i64 y]) (KeepsTwo Bw Bk) (fun ys => ys = Um.slotsN x a) (fun _ => True) 12 w := fun l J Jx W hW _ _ hY h0 =>
  marked1_in n hn l Bw Bk x hx a J Jx hY W ((hW.cell (p := ⟨Bw, 0, none⟩) hw).trans hcw) ((hW.cell (p := ⟨Bk, 0, none⟩) hk).trans hck) h0

end Go.Proofs.YtapgghciieloaaaGreat

/-
  The walks of Slots and Others: what the range over a function has collected.
-/
namespace Go.Proofs.YtapgghciieloaaaGreat
set_option maxRecDepth 100000
open Go.RowKit Go.Shelf

attribute [local go_sem] Oper.semAt_some

theorem infoInt : (Tryz.prog.info? 3).map (fun i => (i.zero, i.size, i.bytes)) = some (some (.int .i64 0), 1, 8) := by kernel_rfl

theorem ownsRow_base {W : World} {base base' : Nat} {e : TypeId} {size : Nat} {v : Value} {k : Nat} {xs : List Value} (h : W.ownsRow base e size v k xs) (hb : base' ≤ base) : W.ownsRow base' e size v k xs := by
  refine ⟨h.1, ?_⟩
  rcases h.2 with h | ⟨g, cap, cur, rfl, hg, h1, h2, h3, h4, h5⟩
  · exact .inl h
  · exact .inr ⟨g, cap, cur, rfl, by omega, h1, h2, h3, h4, h5⟩

/-- a list but for s -/
def butN (s : Int) (l : List Int) : List Int := l.filter (fun y => y != s)
theorem butN_same {s y : Int} {l : List Int} (h : y = s) : butN s (l ++ [y]) = butN s l := by simp [butN, h]
theorem butN_hit {s y : Int} {l : List Int} (h : ¬ y = s) : butN s (l ++ [y]) = butN s l ++ [y] := by simp [butN, h]

set_option maxRecDepth 100000 in
set_option maxHeartbeats 2000000 in
theorem mOthers_any (x : Nat) (a s : Int) (w : World) (hx : Um.Word x) :
    Calls Tryz.prog 135 #[.int .u64 x, .int .i64 a, .int .i64 s] w fun e W' => ∃ v, e = .returned v ∧ W'.ownsRow w.heap.size 3 1 v (Um.othersN x a s).length ((Um.othersN x a s).map (Value.int .i64)) ∧ Below w.heap.size w W' := by
  refine (callsIn_wide (n := 3)).1 ?_
  obtain ⟨i0, hi, hz0, hz1, hz2⟩ := info_parts infoInt
  refine callsIn_of_wp_marks Tryz.func135 rfl trivial ?_ rfl
  simp only [Tryz.ntmps135, List.size_toArray, List.length_cons, List.length_nil, Nat.reduceAdd, Nat.reduceSub, Array.replicate_succ, Array.replicate_zero, List.push_toArray, List.append_toArray, List.nil_append, List.cons_append]
  gi_wp2_with (refine ⟨trivial, ?_⟩; gi_at_call 141; refine (marked_in _ _ _ _).mono ?_; rintro e w' ⟨rfl, rfl⟩)
  have bS := Boxed.new w 3 (.int .i64 s)
  have bO := Boxed.new (w.alloc (.cells #[.int .i64 s] 3)) 41 (.slice none 0 0)
  have bW := Boxed.new ((w.alloc (.cells #[.int .i64 s] 3)).alloc (.cells #[.slice none 0 0] 41)) 22 (.int .u64 x)
  have bK := Boxed.new (((w.alloc (.cells #[.int .i64 s] 3)).alloc (.cells #[.slice none 0 0] 41)).alloc (.cells #[.int .u64 x] 22)) 3 (.int .i64 a)
  simp only [World.size_alloc] at bO bW bK
  have hB0 : Below w.heap.size w ((((w.alloc (.cells #[.int .i64 s] 3)).alloc (.cells #[.slice none 0 0] 41)).alloc (.cells #[.int .u64 x] 22)).alloc (.cells #[.int .i64 a] 3)) := ((((Below.refl _ w).alloc (Nat.le_refl _) _).alloc (by simp) _).alloc (by simp; omega) _).alloc (by simp; omega) _
  refine wpIn_rangeFunc_ownG rfl (by omega) (gf := 145) (lb := #[.pointer (some ⟨w.heap.size + 1 + 1, 0, none⟩), .pointer (some ⟨w.heap.size + 1 + 1 + 1, 0, none⟩)]) rfl trivial (enters_of Tryz.func145 (by kernel_rfl) rfl)
    (marked_stops (3 - 1) (by omega) (w.heap.size + 1 + 1) (w.heap.size + 1 + 1 + 1) x hx a _ (by simp) (by simp) (bW.alloc _).cell bK.cell) keepsTwo_t keepsTwo_b (Below.refl _ _) (fun _ => rfl)
    (fun pre W => (∃ v, Boxed W (w.heap.size + 1) 41 v ∧ W.ownsRow (w.heap.size + 4) 3 1 v (butN s pre).length ((butN s pre).map (Value.int .i64)) ∧ True) ∧ (Boxed W w.heap.size 3 (.int .i64 s) ∧ Boxed W (w.heap.size + 1 + 1) 22 (.int .u64 x) ∧ Boxed W (w.heap.size + 1 + 1 + 1) 3 (.int .i64 a)) ∧ Below w.heap.size w W ∧ w.heap.size + 4 ≤ W.heap.size)
    (fun _ _ _ => False)
    ?hI
    (fun _ _ _ _ _ hs _ _ => hs)
    ⟨⟨_, (bO.alloc _).alloc _, World.ownsRow_nil _ _ _ _, trivial⟩, ⟨((bS.alloc _).alloc _).alloc _, bW.alloc _, bK⟩, hB0, by simp⟩
    (fun y => { tmps := #[.int .u64 x, .int .i64 a, .int .i64 s, undef, undef, .pointer (some ⟨w.heap.size, 0, none⟩), .slice none 0 0, .pointer (some ⟨w.heap.size + 1, 0, none⟩), .int .i64 y, .int .u64 x, .int .i64 a, .func (.func 145) #[] #[.pointer (some ⟨w.heap.size + 1 + 1, 0, none⟩), .pointer (some ⟨w.heap.size + 1 + 1 + 1, 0, none⟩)], .int .i64 y, undef, undef, undef, undef, undef, undef, undef, undef], defers := [] }) ?assign ?body ?done ?stop
  case hI =>
    exact OwnFrom.and (Own.from (holdsRow_own (w.heap.size + 4) (w.heap.size + 1) 41 3 1 (fun pre : List Int => (butN s pre).length) (fun pre : List Int => (butN s pre).map (Value.int .i64)) (fun _ _ => True)) _)
      (OwnFrom.and (OwnFrom.and (Own.from (boxed_own _ _ _) _) (OwnFrom.and (Own.from (boxed_own _ _ _) _) (Own.from (boxed_own _ _ _) _))) (OwnFrom.and (ownFrom_below (Nat.le_refl _) (by simp; omega)) (fun _ _ _ _ hs hg _ => Nat.le_trans hs hg.size)))
  case assign =>
    intro l x W K hK
    gi_wp2
    exact hK
  case body =>
    rintro l pre y W ⟨⟨v, hv, hrow, _⟩, ⟨hs, hw, hk⟩, hB, hs3⟩ hlt
    have hc := hv.cell
    have hcs := hs.cell
    have hpl : (butN s pre).length ≤ pre.length := List.length_filter_le _ _
    by_cases hys : y = s
    · have hbn : butN s (pre ++ [y]) = butN s pre := butN_same hys
      have HBN := hide hbn
      clear hbn
      gi_wp2
      exact ⟨KeepsFrom.refl _ _, keepsTwo_boxed hw hk hw hk, ⟨v, hv, by rw [unhide HBN]; exact hrow, trivial⟩, ⟨hs, hw, hk⟩, hB, hs3⟩
    · have hbn : butN s (pre ++ [y]) = butN s pre ++ [y] := butN_hit hys
      have HBN := hide hbn
      clear hbn
      gi_wp2_with (gi_at_builtin; refine wpListIn_append_own _ rfl _ _ 41 rfl (w.heap.size + 4) 3 i0 (.int .i64 0) 1 8 Tryz.underlying41 hi hz0 hz1 hz2 rfl (by decide) _ _ _ rfl (hrow.alloc _) ⟨W.heap.size, 0, none⟩ 1 1 [.int .i64 y] rfl rfl (cell_one_new _ _ _) (by simp [Value.oneCell']) (by unfold maxLen; omega) (by omega) (by simp; omega) ?_; intro v' w1 hown' hgrow _; obtain ⟨g', cap', rfl⟩ := ownsRow_succ hown'; obtain ⟨hv1, hv2, hr2, hk2, hb2, hb3⟩ := appended2 (n₀ := w.heap.size) hv hrow hs3 (by omega) (by omega) hown' hgrow; have hc1 := hv1.cell; have hf1 := hv1.frozen)
      have hw2 := hb3 _ _ _ (by omega) (by omega) hw
      have hk3 := hb3 _ _ _ (by omega) (by omega) hk
      have hs2 := hb3 _ _ _ (by omega) (by omega) hs
      exact ⟨hk2.from _, keepsTwo_boxed hw hk hw2 hk3, ⟨_, hv2, by rw [unhide HBN]; simpa using hr2, trivial⟩, ⟨hs2, hw2, hk3⟩, hB.trans hb2, Nat.le_trans hs3 hb2.size⟩
  case done =>
    rintro D ys W hD rfl ⟨⟨v, hv, hrow, _⟩, ⟨hs, hw, hk⟩, hB, hs3⟩ hK
    have hc := hv.cell
    gi_wp2
    refine ⟨by simp, .inl ⟨_, _, rfl, run_takeDeferred hK, ?_⟩⟩
    exact ⟨_, results_tmp rfl _ _ _, v, rfl, ownsRow_base (ownsRow_putObj hrow _ hK rfl) (by omega), hB.trans (belowK_b (w := w) (Nat.le_refl _) W D _ _ (by simp at hD; omega) hK rfl rfl)⟩
  case stop =>
    rintro D c pre W _ _ h _
    exact h.elim

end Go.Proofs.YtapgghciieloaaaGreat

/-
  The walks of the document's own list of slots, and of what holds two rows of numbers against one another.
-/
namespace Go.Proofs.YtapgghciieloaaaGreat
set_option maxRecDepth 100000
open Go.RowKit Go.Shelf Go.Sort

/-- the slice v holds the numbers xs -/
def IsRow (W : World) (v : Value) (xs : List Int) : Prop :=
  (v = .slice none 0 0 ∧ xs = []) ∨ ∃ b off cap, v = .slice (some ⟨b, off, none⟩) xs.length cap ∧ xs.length ≤ cap ∧ cap ≤ maxLen ∧ b < W.heap.size ∧ ∀ j, j < xs.length → W.cell? ⟨b, off + j, none⟩ = some (.int .i64 (xs[j]?.getD 0))

theorem IsRow.below {n₀ : Nat} {A B : World} {v : Value} {xs : List Int} (h : IsRow A v xs) (k : Below n₀ A B) (hn : A.heap.size ≤ n₀) : IsRow B v xs := by
  rcases h with h | ⟨b, off, cap, rfl, h1, h2, h3, h4⟩
  · exact .inl h
  · exact .inr ⟨b, off, cap, rfl, h1, h2, Nat.lt_of_lt_of_le h3 k.size, fun j hj => (k.cell (p := ⟨b, off + j, none⟩) (by show b < n₀; omega)).trans (h4 j hj)⟩

end Go.Proofs.YtapgghciieloaaaGreat
