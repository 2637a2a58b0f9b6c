/-
  For every world's size, words, play, and whatever is written meanwhile, the law ReadSteps answers true: each step of a read is the access that the document's own answer says, and so is how it ends. Conditions: none.
-/
import Derived.Test.YtapgghciieloaaaGreatRows
import Derived.Test.YtapgghciieloaaaGreatQ18
import Derived.Test.YtapgghciieloaaaGreatQ1
import Derived.Test.YtapgghciieloaaaGreatQ2
import Derived.Test.YtapgghciieloaaaGreatQ5
import Derived.Test.YtapgghciieloaaaGreatQ9
import Derived.Test.YtapgghciieloaaaGreatQ23
import Derived.Test.YtapgghciieloaaaGreatQ4
import Derived.WalkKit
import Derived.ProofKit
import Derived.OpenShut
import Derived.ShutString
import Derived.LoopTactic
import Derived.Lib.QuietBelow
namespace Go.Proofs.YtapgghciieloaaaGreat.readSteps
set_option maxRecDepth 100000
open Go.ChangeShapes Go.WideShapes Go.ChangeAt Go.RowKit Go.Sort
set_option linter.unusedVariables false
set_option linter.unusedSimpArgs false

theorem own : ownKnob Tryz.prog.godebug = none := by kernel_rfl
theorem laidOut : laidOutB Tryz.prog = true := by kernel_rfl

set_option maxHeartbeats 2000000 in
theorem walk_wrong (w : World) (c : Um.Cf) (a : Option Addr) (n cap : Nat) (x : Nat) (ky st : Int) (la : Option Addr) (nl cl : Nat) (hx : Um.Word x) (h : c.r = false) :
    Calls Tryz.prog 3 #[(.agg #[.int .i64 (c.t), .int .i64 (c.s), .int .i64 (c.k), .int .i64 (c.g), .int .u64 (c.q : Int)]), .slice a n cap, .agg #[.int .u64 (x : Nat), .int .i64 ky, .int .i64 st, .slice la nl cl]] w fun e w' => e = .returned (.bool true) ∧ Below w.heap.size w w' := by
  have HL := hide (fun w => lOf_wrong c a n cap w h)
  clear h
  have HXX := hide hx
  clear hx
  have hS := Sx.new w
  go_enter Tryz.func3, Tryz.ntmps3
  go_wp2_with (first | (refine ybox hS (h := ?_); clear hS; intro _ _ hS) | (refine yall hS (h := ?_); clear hS; intro _ _ hS) | refine yld hS (h := ?_) | (refine yst hS (h := ?_); clear hS; intro _ hS))
  refine ((unhide HL) _).mono ?_
  rintro r u ⟨rfl, hb⟩
  replace hS := hS.call hb
  clear hb HL
  go_wp2_with (first | (refine ybox hS (h := ?_); clear hS; intro _ _ hS) | (refine yall hS (h := ?_); clear hS; intro _ _ hS) | refine yld hS (h := ?_) | (refine yst hS (h := ?_); clear hS; intro _ hS))
  refine (rdNew_p hS c x ky (unhide HXX) (⟨fun _ => 0, 0, Um.noT⟩ : Um.Mm)).mono ?_
  rintro r u ⟨P, cs0, hb0, sb0, rfl, hA0, hSn⟩
  clear hS
  have hS := hSn
  clear hSn
  dsimp only [putL, List.set, List.cons_append, List.nil_append] at hS
  go_wp2_with fail
  refine (rAlive_any _).mono ?_
  rintro r u ⟨rfl, hb⟩
  replace hS := hS.call hb
  have hB := hS.bel
  clear hb hS
  go_wp2
  go_ret
  exact ⟨rfl, hB⟩

set_option maxHeartbeats 2000000 in
theorem walk_short (w : World) (c : Um.Cf) (a : Option Addr) (n cap : Nat) (x : Nat) (ky st : Int) (la : Option Addr) (nl cl : Nat) (hx : Um.Word x) (h : c.r = true) (hn : n ≠ c.n) :
    Calls Tryz.prog 3 #[(.agg #[.int .i64 (c.t), .int .i64 (c.s), .int .i64 (c.k), .int .i64 (c.g), .int .u64 (c.q : Int)]), .slice a n cap, .agg #[.int .u64 (x : Nat), .int .i64 ky, .int .i64 st, .slice la nl cl]] w fun e w' => e = .returned (.bool true) ∧ Below w.heap.size w w' := by
  have HL := hide (fun w => lOf_short c a n cap w h hn)
  clear h hn
  have HXX := hide hx
  clear hx
  have hS := Sx.new w
  go_enter Tryz.func3, Tryz.ntmps3
  go_wp2_with (first | (refine ybox hS (h := ?_); clear hS; intro _ _ hS) | (refine yall hS (h := ?_); clear hS; intro _ _ hS) | refine yld hS (h := ?_) | (refine yst hS (h := ?_); clear hS; intro _ hS))
  refine ((unhide HL) _).mono ?_
  rintro r u ⟨rfl, hb⟩
  replace hS := hS.call hb
  clear hb HL
  go_wp2_with (first | (refine ybox hS (h := ?_); clear hS; intro _ _ hS) | (refine yall hS (h := ?_); clear hS; intro _ _ hS) | refine yld hS (h := ?_) | (refine yst hS (h := ?_); clear hS; intro _ hS))
  refine (rdNew_p hS c x ky (unhide HXX) (⟨fun _ => 0, 0, Um.noT⟩ : Um.Mm)).mono ?_
  rintro r u ⟨P, cs0, hb0, sb0, rfl, hA0, hSn⟩
  clear hS
  have hS := hSn
  clear hSn
  dsimp only [putL, List.set, List.cons_append, List.nil_append] at hS
  go_wp2_with fail
  refine (rAlive_any _).mono ?_
  rintro r u ⟨rfl, hb⟩
  replace hS := hS.call hb
  have hB := hS.bel
  clear hb hS
  go_wp2
  go_ret
  exact ⟨rfl, hB⟩

set_option maxHeartbeats 2000000 in
theorem walk_big1 (w : World) (c : Um.Cf) (v : Value) (ws : Nat → Nat) (x : Nat) (ky st : Int) (la : Option Addr) (nl cl : Nat) (h : c.r = true) (hv : IsWords w v c.n ws) (hx : Um.Word x) (hkb : -9223372036854775808 ≤ ky ∧ ky ≤ 9223372036854775807) (hb1 : 200 < st) :
    Calls Tryz.prog 3 #[(.agg #[.int .i64 (c.t), .int .i64 (c.s), .int .i64 (c.k), .int .i64 (c.g), .int .u64 (c.q : Int)]), v, .agg #[.int .u64 (x : Nat), .int .i64 ky, .int .i64 st, .slice la nl cl]] w fun e w' => e = .returned (.bool true) ∧ Below w.heap.size w w' := by
  have d1 : decide (200 < st) = true := decide_eq_true hb1
  have HR := hide h
  have HV := hide hv
  have HXX := hide hx
  obtain ⟨sv, scap, rfl⟩ := words_len hv
  clear hv h hx
  have hS := Sx.new w
  go_enter Tryz.func3, Tryz.ntmps3
  go_wp2_with (first | (refine ybox hS (h := ?_); clear hS; intro _ _ hS) | (refine yall hS (h := ?_); clear hS; intro _ _ hS) | refine yld hS (h := ?_) | (refine yst hS (h := ?_); clear hS; intro _ hS))
  refine (lOf_x hS c _ ws (unhide HR) (((unhide HV).low.below hS.bel).is hS.bel.size)).mono ?_
  rintro r u ⟨B, C, g, cg, rfl, hc1, hc2, hWn, hSn⟩
  clear hS
  have hS := hSn
  clear hSn
  dsimp only [putL, List.set, List.cons_append, List.nil_append] at hS
  have HW0 := hide hWn
  clear hWn
  go_wp2_with (first | (refine ybox hS (h := ?_); clear hS; intro _ _ hS) | (refine yall hS (h := ?_); clear hS; intro _ _ hS) | refine yld hS (h := ?_) | (refine yst hS (h := ?_); clear hS; intro _ hS))
  refine (rdNew_p hS c x ky (unhide HXX) (⟨ws, 0, Um.noT⟩ : Um.Mm)).mono ?_
  rintro r u ⟨P, cs0, hb0, sb0, rfl, hA0, hSn⟩
  clear hS
  have hS := hSn
  clear hSn
  dsimp only [putL, List.set, List.cons_append, List.nil_append] at hS
  go_wp2_with (first | (refine ybox hS (h := ?_); clear hS; intro _ _ hS) | (refine yall hS (h := ?_); clear hS; intro _ _ hS) | refine yld hS (h := ?_) | (refine yst hS (h := ?_); clear hS; intro _ hS))
  refine (rAlive_any _).mono ?_
  rintro r u ⟨rfl, hb⟩
  replace hS := hS.call hb
  have hB := hS.bel
  clear hb hS
  go_wp2
  go_ret
  exact ⟨rfl, hB⟩

set_option maxHeartbeats 2000000 in
theorem walk_big2 (w : World) (c : Um.Cf) (v : Value) (ws : Nat → Nat) (x : Nat) (ky st : Int) (la : Option Addr) (nl cl : Nat) (h : c.r = true) (hv : IsWords w v c.n ws) (hx : Um.Word x) (hkb : -9223372036854775808 ≤ ky ∧ ky ≤ 9223372036854775807) (hb1 : ¬ 200 < st) (hb2 : 30 < nl) :
    Calls Tryz.prog 3 #[(.agg #[.int .i64 (c.t), .int .i64 (c.s), .int .i64 (c.k), .int .i64 (c.g), .int .u64 (c.q : Int)]), v, .agg #[.int .u64 (x : Nat), .int .i64 ky, .int .i64 st, .slice la nl cl]] w fun e w' => e = .returned (.bool true) ∧ Below w.heap.size w w' := by
  have d1 : decide (200 < st) = false := decide_eq_false hb1
  have hb3 : (30 : Int) < (nl : Int) := by omega
  have d2 : decide ((30 : Int) < (nl : Int)) = true := decide_eq_true hb3
  have HR := hide h
  have HV := hide hv
  have HXX := hide hx
  obtain ⟨sv, scap, rfl⟩ := words_len hv
  clear hv h hx
  have hS := Sx.new w
  go_enter Tryz.func3, Tryz.ntmps3
  go_wp2_with (first | (refine ybox hS (h := ?_); clear hS; intro _ _ hS) | (refine yall hS (h := ?_); clear hS; intro _ _ hS) | refine yld hS (h := ?_) | (refine yst hS (h := ?_); clear hS; intro _ hS))
  refine (lOf_x hS c _ ws (unhide HR) (((unhide HV).low.below hS.bel).is hS.bel.size)).mono ?_
  rintro r u ⟨B, C, g, cg, rfl, hc1, hc2, hWn, hSn⟩
  clear hS
  have hS := hSn
  clear hSn
  dsimp only [putL, List.set, List.cons_append, List.nil_append] at hS
  have HW0 := hide hWn
  clear hWn
  go_wp2_with (first | (refine ybox hS (h := ?_); clear hS; intro _ _ hS) | (refine yall hS (h := ?_); clear hS; intro _ _ hS) | refine yld hS (h := ?_) | (refine yst hS (h := ?_); clear hS; intro _ hS))
  refine (rdNew_p hS c x ky (unhide HXX) (⟨ws, 0, Um.noT⟩ : Um.Mm)).mono ?_
  rintro r u ⟨P, cs0, hb0, sb0, rfl, hA0, hSn⟩
  clear hS
  have hS := hSn
  clear hSn
  dsimp only [putL, List.set, List.cons_append, List.nil_append] at hS
  go_wp2_with (first | (refine ybox hS (h := ?_); clear hS; intro _ _ hS) | (refine yall hS (h := ?_); clear hS; intro _ _ hS) | refine yld hS (h := ?_) | (refine yst hS (h := ?_); clear hS; intro _ hS))
  refine (rAlive_any _).mono ?_
  rintro r u ⟨rfl, hb⟩
  replace hS := hS.call hb
  have hB := hS.bel
  clear hb hS
  go_wp2
  go_ret
  exact ⟨rfl, hB⟩

set_option maxRecDepth 100000 in
set_option maxHeartbeats 8000000 in
theorem walk_none (w : World) (c : Um.Cf) (v : Value) (ws : Nat → Nat) (x : Nat) (ky st : Int) (la : Option Addr) (nl cl : Nat) (h : c.r = true) (hv : IsWords w v c.n ws) (hx : Um.Word x) (hkb : -9223372036854775808 ≤ ky ∧ ky ≤ 9223372036854775807) (Z : Nat → Pok) (hp : ¬ 0 < st) (hb2 : ¬ 30 < nl) (hcl : nl ≤ cl) (hP : PokesAt w la nl Z) :
    Calls Tryz.prog 3 #[(.agg #[.int .i64 (c.t), .int .i64 (c.s), .int .i64 (c.k), .int .i64 (c.g), .int .u64 (c.q : Int)]), v, .agg #[.int .u64 (x : Nat), .int .i64 ky, .int .i64 st, .slice la nl cl]] w fun e w' => e = .returned (.bool true) ∧ Below w.heap.size w w' := by
  have hb1 : ¬ 200 < st := by omega
  have d1 : decide (200 < st) = false := decide_eq_false hb1
  have hb3 : ¬ (30 : Int) < (nl : Int) := by omega
  have d2 : decide ((30 : Int) < (nl : Int)) = false := decide_eq_false hb3
  have hp1 : st ≤ 0 := by omega
  have hsv := Um.sv_range x
  have HSB := hide (show -9223372036854775808 ≤ Um.svN x ∧ Um.svN x ≤ 9223372036854775807 by omega)
  have HKB := hide hkb
  have HP := hide hP
  have HNL := hide (And.intro (show nl ≤ 30 by omega) hcl)
  clear hP hcl hsv hkb
  have HR := hide h
  have HV := hide hv
  have HXX := hide hx
  obtain ⟨sv, scap, rfl⟩ := words_len hv
  clear hv h hx
  have hS := Sx.new w
  go_enter Tryz.func3, Tryz.ntmps3
  go_wp2_with (first | (refine ybox hS (h := ?_); clear hS; intro _ _ hS) | (refine yall hS (h := ?_); clear hS; intro _ _ hS) | refine yld hS (h := ?_) | (refine yst hS (h := ?_); clear hS; intro _ hS))
  refine (lOf_x hS c _ ws (unhide HR) (((unhide HV).low.below hS.bel).is hS.bel.size)).mono ?_
  rintro r u ⟨B, C, g, cg, rfl, hc1, hc2, hWn, hSn⟩
  clear hS
  have hS := hSn
  clear hSn
  dsimp only [putL, List.set, List.cons_append, List.nil_append] at hS
  have HW0 := hide hWn
  clear hWn
  go_wp2_with (first | (refine ybox hS (h := ?_); clear hS; intro _ _ hS) | (refine yall hS (h := ?_); clear hS; intro _ _ hS) | refine yld hS (h := ?_) | (refine yst hS (h := ?_); clear hS; intro _ hS))
  refine (rdNew_p hS c x ky (unhide HXX) (⟨ws, 0, Um.noT⟩ : Um.Mm)).mono ?_
  rintro r u ⟨P, cs0, hb0, sb0, rfl, hA0, hSn⟩
  clear hS
  have hS := hSn
  clear hSn
  dsimp only [putL, List.set, List.cons_append, List.nil_append] at hS
  go_wp2_with (first | (refine ybox hS (h := ?_); clear hS; intro _ _ hS) | (refine yall hS (h := ?_); clear hS; intro _ _ hS) | refine yld hS (h := ?_) | (refine yst hS (h := ?_); clear hS; intro _ hS))
  obtain ⟨CF, rfl⟩ := nameB hS 0 rfl
  obtain ⟨PL, rfl⟩ := nameB hS 1 rfl
  obtain ⟨R, rfl⟩ := nameB hS 4 rfl
  clear d1 d2 hb1 hb3
  have HH0 := hide (show Sx [] w _ ([(CF, [.int .i64 c.t, .int .i64 c.s, .int .i64 c.k, .int .i64 c.g, .int .u64 c.q]), (PL, [.int .u64 (x : Nat), .int .i64 ky, .int .i64 st, .slice la nl cl]), (B, memL c C (⟨ws, 0, Um.noT⟩ : Um.Mm)), (C, rowW ws c.n), (R, [.int .i64 c.t, .int .i64 c.s, .int .i64 c.k, .int .i64 c.g, .int .u64 c.q, (.slice (some ⟨g, 0, none⟩) c.n cg), .int .i64 (⟨ws, 0, Um.noT⟩ : Um.Mm).cnt, .int .i64 (⟨ws, 0, Um.noT⟩ : Um.Mm).l.kind, .int .i64 (⟨ws, 0, Um.noT⟩ : Um.Mm).l.a, .int .i64 (⟨ws, 0, Um.noT⟩ : Um.Mm).l.b, .int .u64 ((⟨ws, 0, Um.noT⟩ : Um.Mm).l.old : Nat), .int .u64 ((⟨ws, 0, Um.noT⟩ : Um.Mm).l.new : Nat), .bool (⟨ws, 0, Um.noT⟩ : Um.Mm).l.done]), (P, cs0)] ++ hb0) ((g, rowW ws c.n) :: sb0) from hS)
  have hS2 := (unhide HH0).park
  clear hS
  have hS := hS2
  clear hS2
  dsimp only [List.cons_append, List.nil_append] at hS
  refine (rNew12_any _ c x ky (unhide HXX) (⟨ws, 0, Um.noT⟩ : Um.Mm)).mono ?_
  rintro r u ⟨G0, sb1, rfl, hsb1, hG0, hb⟩
  have HLT := hide (fun (p : Nat × List Value) (hp : p ∈ sb1) (q : Nat × List Value) (hq : q ∈ hb0) => show p.1 ≠ q.1 from by
    have y1 := (hsb1 p hp).2
    have y2 := (hS.eb q (List.mem_cons_of_mem _ (List.mem_append_right _ hq))).lt
    omega)
  replace hS := hS.addEs hb hsb1
  clear hb hsb1
  dsimp only [List.cons_append, List.nil_append] at hS
  unfold R12.V
  go_wp2_with (first | (refine ybox hS (h := ?_); clear hS; intro _ _ hS) | (refine yall hS (h := ?_); clear hS; intro _ _ hS) | refine yld hS (h := ?_) | (refine yst hS (h := ?_); clear hS; intro _ hS))
  obtain ⟨A, rfl⟩ := nameB hS 6 rfl
  obtain ⟨H, hH0⟩ : ∃ H, H = Um.rdbeg c x ky (⟨ws, 0, Um.noT⟩ : Um.Mm) := ⟨_, rfl⟩
  have hHm : H.m = (⟨ws, 0, Um.noT⟩ : Um.Mm) := by rw [hH0, Um.rdbeg_m]
  have hk0 : Um.Rok c H := by rw [hH0]; exact Um.rok_beg (unhide HW0)
  have HN0 := hide (show H.dn = false → Um.ook x c.s = true from fun q => rdbeg_ook (h := x) (ky := ky) (by rw [← hH0]; exact q))
  rw [← hH0] at hA0 hG0
  have HA2 := hide (hA0.mono (e' := (g, rowW ws c.n) :: (sb0 ++ sb1)) (fun p hp => List.mem_cons_of_mem _ (List.mem_append_left _ hp)))
  have HG2 := hide (hG0.mono (e' := (g, rowW ws c.n) :: (sb0 ++ sb1)) (fun p hp => List.mem_cons_of_mem _ (List.mem_append_right _ hp)))
  have HO2 := hide hk0
  clear hA0 hG0 hk0 hH0
  obtain ⟨u, rfl⟩ := nameW hS
  have HDN := hide (fun d os => Calls.regrown_of (same_below (rdDone_any (unhide HA2) ((hS.call (below_regrown u d os)).get 5 rfl))))
  have HER := hide (fun d os => Calls.regrown_of (same_below (rdError_any (unhide HA2) (unhide HO2).k.e0 ((hS.call (below_regrown u d os)).get 5 rfl))))
  have q33 := cell_regrown ((hS.get 6 rfl).cell 33 _ rfl)
  have q32 := cell_regrown ((hS.get 6 rfl).cell 32 _ rfl)
  rw [(unhide HG2).dn] at q33
  rw [(unhide HG2).er] at q32
  have HS7 := hide hS
  clear hS
  generalize hbq : H.dn = bq at HDN q33
  generalize hbe : H.e = be at HER q32
  have hbb : (bq != bq) = false := by simp
  have hbc : (be != be) = false := by simp
  refine wp_region_quiet_below (by kernel_rfl) (by kernel_rfl) ?_
  repeat (go_big_quiet_step (first | (go_at_call 14; exact (unhide HDN) _ _) | (go_at_call 15; exact (unhide HER) _ _)))
  refine wpQuiet_nil ?_
  intro _ hw'
  obtain ⟨⟨dq, osq⟩, hw''⟩ := hw'
  subst hw''
  clear  q33 q32 HDN HER hbb hbc hbq hbe
  have HS8 := hide ((unhide HS7).call (below_regrown u dq osq))
  clear HS7
  generalize grow (redrawn u dq) osq = u9 at *
  have hS3 := (unhide HH0).unpark (l := [(CF, [.int .i64 c.t, .int .i64 c.s, .int .i64 c.k, .int .i64 c.g, .int .u64 c.q]), (PL, [.int .u64 (x : Nat), .int .i64 ky, .int .i64 st, .slice la nl cl]), (B, memL c C (⟨ws, 0, Um.noT⟩ : Um.Mm)), (C, rowW (⟨ws, 0, Um.noT⟩ : Um.Mm).ws c.n), (R, [.int .i64 c.t, .int .i64 c.s, .int .i64 c.k, .int .i64 c.g, .int .u64 c.q, (.slice (some ⟨g, 0, none⟩) c.n cg), .int .i64 (⟨ws, 0, Um.noT⟩ : Um.Mm).cnt, .int .i64 (⟨ws, 0, Um.noT⟩ : Um.Mm).l.kind, .int .i64 (⟨ws, 0, Um.noT⟩ : Um.Mm).l.a, .int .i64 (⟨ws, 0, Um.noT⟩ : Um.Mm).l.b, .int .u64 ((⟨ws, 0, Um.noT⟩ : Um.Mm).l.old : Nat), .int .u64 ((⟨ws, 0, Um.noT⟩ : Um.Mm).l.new : Nat), .bool (⟨ws, 0, Um.noT⟩ : Um.Mm).l.done]), (P, cs0), (A, [.int .i64 G0.key, .int .i64 G0.slot, .int .i64 G0.nx, .int .u64 (G0.n : Nat), .int .u64 (G0.w : Nat), .slice G0.oa G0.on G0.oc, .int .u64 (G0.gh : Nat), .slice G0.va G0.vn G0.vc, .bool G0.gt, .int .u64 (G0.gs : Nat), .int .u64 (G0.gw : Nat), .int .i64 G0.ge, .bool G0.gn, .int .i64 G0.jl, .int .i64 G0.jd, .int .i64 G0.jb, .int .u64 (G0.jn : Nat), .int .i64 G0.jx, .int .u64 (G0.js : Nat), .int .i64 G0.jr, .int .i64 G0.ol, .int .i64 G0.od, .int .i64 G0.ob, .bool G0.ok, .int .u64 (G0.oS : Nat), .bool G0.oD, .int .i64 G0.ll, .int .i64 G0.lt, .bool G0.lk, .int .u64 (G0.ls : Nat), .bool G0.ld, .int .i64 G0.td, .int .i64 G0.e, .bool G0.dn])]) (e := (g, rowW ws c.n) :: sb0) (sb := sb1) (unhide HS8) (unhide HLT)
  have HS9 := hide (show Sx [] w u9 ([(CF, [.int .i64 c.t, .int .i64 c.s, .int .i64 c.k, .int .i64 c.g, .int .u64 c.q]), (PL, [.int .u64 (x : Nat), .int .i64 ky, .int .i64 st, .slice la nl cl]), (B, memL c C H.m), (C, rowW H.m.ws c.n), (R, [.int .i64 c.t, .int .i64 c.s, .int .i64 c.k, .int .i64 c.g, .int .u64 c.q, (.slice (some ⟨g, 0, none⟩) c.n cg), .int .i64 H.m.cnt, .int .i64 H.m.l.kind, .int .i64 H.m.l.a, .int .i64 H.m.l.b, .int .u64 (H.m.l.old : Nat), .int .u64 (H.m.l.new : Nat), .bool H.m.l.done]), (P, cs0), (A, [.int .i64 G0.key, .int .i64 G0.slot, .int .i64 G0.nx, .int .u64 (G0.n : Nat), .int .u64 (G0.w : Nat), .slice G0.oa G0.on G0.oc, .int .u64 (G0.gh : Nat), .slice G0.va G0.vn G0.vc, .bool G0.gt, .int .u64 (G0.gs : Nat), .int .u64 (G0.gw : Nat), .int .i64 G0.ge, .bool G0.gn, .int .i64 G0.jl, .int .i64 G0.jd, .int .i64 G0.jb, .int .u64 (G0.jn : Nat), .int .i64 G0.jx, .int .u64 (G0.js : Nat), .int .i64 G0.jr, .int .i64 G0.ol, .int .i64 G0.od, .int .i64 G0.ob, .bool G0.ok, .int .u64 (G0.oS : Nat), .bool G0.oD, .int .i64 G0.ll, .int .i64 G0.lt, .bool G0.lk, .int .u64 (G0.ls : Nat), .bool G0.ld, .int .i64 G0.td, .int .i64 G0.e, .bool G0.dn])] ++ hb0) ((g, rowW H.m.ws c.n) :: (sb0 ++ sb1)) from by rw [hHm]; exact hS3)
  have HA3 := hide (show RdAt P x ky (Um.svN x) ((g, rowW H.m.ws c.n) :: (sb0 ++ sb1)) H cs0 hb0 from by rw [hHm]; exact unhide HA2)
  have HG3 := hide (show Ref12 x ky (Um.svN x) ((g, rowW H.m.ws c.n) :: (sb0 ++ sb1)) H G0 from by rw [hHm]; exact unhide HG2)
  clear hS3 HS8 HH0 HLT HA2 HG2 hHm HW0
  have hS := unhide HS9
  clear HS9
  dsimp only [List.cons_append, List.nil_append] at hS
  go_wp2_with (first | (refine ybox hS (h := ?_); clear hS; intro _ _ hS) | (refine yall hS (h := ?_); clear hS; intro _ _ hS) | refine yld hS (h := ?_) | (refine yst hS (h := ?_); clear hS; intro _ hS))
  go_loopw [69] (fun i wr => ∃ (j : Nat) (o : Um.Rd) (g cg : Nat) (G : R12) (cs : List Value) (hb e : List (Nat × List Value)), j ≤ 0 ∧ i = .int .i64 j ∧ c.n ≤ cg ∧ cg ≤ maxLen ∧ Hid (Um.Rok c o) ∧ Hid (o.dn = false → Um.ook x c.s = true) ∧ Hid (RdAt P x ky (Um.svN x) ((g, rowW o.m.ws c.n) :: e) o cs hb) ∧ Hid (Ref12 x ky (Um.svN x) ((g, rowW o.m.ws c.n) :: e) o G) ∧ Hid (Sx [] w wr ([(CF, [.int .i64 c.t, .int .i64 c.s, .int .i64 c.k, .int .i64 c.g, .int .u64 c.q]), (PL, [.int .u64 (x : Nat), .int .i64 ky, .int .i64 st, .slice la nl cl]), (B, memL c C o.m), (C, rowW o.m.ws c.n), (R, [.int .i64 c.t, .int .i64 c.s, .int .i64 c.k, .int .i64 c.g, .int .u64 c.q, (.slice (some ⟨g, 0, none⟩) c.n cg), .int .i64 o.m.cnt, .int .i64 o.m.l.kind, .int .i64 o.m.l.a, .int .i64 o.m.l.b, .int .u64 (o.m.l.old : Nat), .int .u64 (o.m.l.new : Nat), .bool o.m.l.done]), (P, cs), (A, [.int .i64 G.key, .int .i64 G.slot, .int .i64 G.nx, .int .u64 (G.n : Nat), .int .u64 (G.w : Nat), .slice G.oa G.on G.oc, .int .u64 (G.gh : Nat), .slice G.va G.vn G.vc, .bool G.gt, .int .u64 (G.gs : Nat), .int .u64 (G.gw : Nat), .int .i64 G.ge, .bool G.gn, .int .i64 G.jl, .int .i64 G.jd, .int .i64 G.jb, .int .u64 (G.jn : Nat), .int .i64 G.jx, .int .u64 (G.js : Nat), .int .i64 G.jr, .int .i64 G.ol, .int .i64 G.od, .int .i64 G.ob, .bool G.ok, .int .u64 (G.oS : Nat), .bool G.oD, .int .i64 G.ll, .int .i64 G.lt, .bool G.lk, .int .u64 (G.ls : Nat), .bool G.ld, .int .i64 G.td, .int .i64 G.e, .bool G.dn])] ++ hb) ((g, rowW o.m.ws c.n) :: e))) (fun i _ => 0 - (intOf i).toNat)
  case atStart => exact ⟨0, H, g, cg, G0, cs0, hb0, _, Nat.zero_le _, rfl, hc1, hc2, HO2, HN0, HA3, HG3, hide hS⟩
  case round =>
    clear hc1 hc2 HO2 HN0 HA3 HG3 hS
    rename_i wr
    obtain ⟨j, o, g, cg, G, cs, hb, e, hj, rfl, hc1, hc2, HO, HN, HA, HG, HS⟩ := hrel
    have hS := (unhide HS).dup0
    clear HS
    dsimp only [List.cons_append, List.nil_append] at hS
    by_cases hlt : j < 0
    · exact absurd hlt (by omega)
    · obtain rfl : j = 0 := by omega
      go_wp2_with fail
      refine (rAlive_any _).mono ?_
      rintro r u ⟨rfl, hb⟩
      replace hS := hS.call hb
      have hB := hS.bel
      clear hb hS
      go_wp2
      go_ret
      exact ⟨rfl, hB⟩

set_option maxRecDepth 100000 in
set_option maxHeartbeats 8000000 in
theorem walk_right (w : World) (c : Um.Cf) (v : Value) (ws : Nat → Nat) (x : Nat) (ky : Int) (N : Nat) (la : Option Addr) (nl cl : Nat) (h : c.r = true) (hv : IsWords w v c.n ws) (hx : Um.Word x) (hkb : -9223372036854775808 ≤ ky ∧ ky ≤ 9223372036854775807) (Z : Nat → Pok) (hp : 0 < N) (hNb : N ≤ 200) (hb2 : ¬ 30 < nl) (hcl : nl ≤ cl) (hP : PokesAt w la nl Z) :
    Calls Tryz.prog 3 #[(.agg #[.int .i64 (c.t), .int .i64 (c.s), .int .i64 (c.k), .int .i64 (c.g), .int .u64 (c.q : Int)]), v, .agg #[.int .u64 (x : Nat), .int .i64 ky, .int .i64 (N : Int), .slice la nl cl]] w fun e w' => e = .returned (.bool true) ∧ Below w.heap.size w w' := by
  have hb1 : ¬ 200 < (N : Int) := by omega
  have d1 : decide (200 < (N : Int)) = false := decide_eq_false hb1
  have hb3 : ¬ (30 : Int) < (nl : Int) := by omega
  have d2 : decide ((30 : Int) < (nl : Int)) = false := decide_eq_false hb3
  have hp1 : (0 : Int) < (N : Int) := by omega
  have hsv := Um.sv_range x
  have HSB := hide (show -9223372036854775808 ≤ Um.svN x ∧ Um.svN x ≤ 9223372036854775807 by omega)
  have HKB := hide hkb
  have HP := hide hP
  have HNL := hide (And.intro (show nl ≤ 30 by omega) hcl)
  clear hP hcl hsv hkb
  have HR := hide h
  have HV := hide hv
  have HXX := hide hx
  obtain ⟨sv, scap, rfl⟩ := words_len hv
  clear hv h hx
  have hS := Sx.new w
  go_enter Tryz.func3, Tryz.ntmps3
  go_wp2_with (first | (refine ybox hS (h := ?_); clear hS; intro _ _ hS) | (refine yall hS (h := ?_); clear hS; intro _ _ hS) | refine yld hS (h := ?_) | (refine yst hS (h := ?_); clear hS; intro _ hS))
  refine (lOf_x hS c _ ws (unhide HR) (((unhide HV).low.below hS.bel).is hS.bel.size)).mono ?_
  rintro r u ⟨B, C, g, cg, rfl, hc1, hc2, hWn, hSn⟩
  clear hS
  have hS := hSn
  clear hSn
  dsimp only [putL, List.set, List.cons_append, List.nil_append] at hS
  have HW0 := hide hWn
  clear hWn
  go_wp2_with (first | (refine ybox hS (h := ?_); clear hS; intro _ _ hS) | (refine yall hS (h := ?_); clear hS; intro _ _ hS) | refine yld hS (h := ?_) | (refine yst hS (h := ?_); clear hS; intro _ hS))
  refine (rdNew_p hS c x ky (unhide HXX) (⟨ws, 0, Um.noT⟩ : Um.Mm)).mono ?_
  rintro r u ⟨P, cs0, hb0, sb0, rfl, hA0, hSn⟩
  clear hS
  have hS := hSn
  clear hSn
  dsimp only [putL, List.set, List.cons_append, List.nil_append] at hS
  go_wp2_with (first | (refine ybox hS (h := ?_); clear hS; intro _ _ hS) | (refine yall hS (h := ?_); clear hS; intro _ _ hS) | refine yld hS (h := ?_) | (refine yst hS (h := ?_); clear hS; intro _ hS))
  obtain ⟨CF, rfl⟩ := nameB hS 0 rfl
  obtain ⟨PL, rfl⟩ := nameB hS 1 rfl
  obtain ⟨R, rfl⟩ := nameB hS 4 rfl
  clear d1 d2 hb1 hb3
  have HH0 := hide (show Sx [] w _ ([(CF, [.int .i64 c.t, .int .i64 c.s, .int .i64 c.k, .int .i64 c.g, .int .u64 c.q]), (PL, [.int .u64 (x : Nat), .int .i64 ky, .int .i64 (N : Int), .slice la nl cl]), (B, memL c C (⟨ws, 0, Um.noT⟩ : Um.Mm)), (C, rowW ws c.n), (R, [.int .i64 c.t, .int .i64 c.s, .int .i64 c.k, .int .i64 c.g, .int .u64 c.q, (.slice (some ⟨g, 0, none⟩) c.n cg), .int .i64 (⟨ws, 0, Um.noT⟩ : Um.Mm).cnt, .int .i64 (⟨ws, 0, Um.noT⟩ : Um.Mm).l.kind, .int .i64 (⟨ws, 0, Um.noT⟩ : Um.Mm).l.a, .int .i64 (⟨ws, 0, Um.noT⟩ : Um.Mm).l.b, .int .u64 ((⟨ws, 0, Um.noT⟩ : Um.Mm).l.old : Nat), .int .u64 ((⟨ws, 0, Um.noT⟩ : Um.Mm).l.new : Nat), .bool (⟨ws, 0, Um.noT⟩ : Um.Mm).l.done]), (P, cs0)] ++ hb0) ((g, rowW ws c.n) :: sb0) from hS)
  have hS2 := (unhide HH0).park
  clear hS
  have hS := hS2
  clear hS2
  dsimp only [List.cons_append, List.nil_append] at hS
  refine (rNew12_any _ c x ky (unhide HXX) (⟨ws, 0, Um.noT⟩ : Um.Mm)).mono ?_
  rintro r u ⟨G0, sb1, rfl, hsb1, hG0, hb⟩
  have HLT := hide (fun (p : Nat × List Value) (hp : p ∈ sb1) (q : Nat × List Value) (hq : q ∈ hb0) => show p.1 ≠ q.1 from by
    have y1 := (hsb1 p hp).2
    have y2 := (hS.eb q (List.mem_cons_of_mem _ (List.mem_append_right _ hq))).lt
    omega)
  replace hS := hS.addEs hb hsb1
  clear hb hsb1
  dsimp only [List.cons_append, List.nil_append] at hS
  unfold R12.V
  go_wp2_with (first | (refine ybox hS (h := ?_); clear hS; intro _ _ hS) | (refine yall hS (h := ?_); clear hS; intro _ _ hS) | refine yld hS (h := ?_) | (refine yst hS (h := ?_); clear hS; intro _ hS))
  obtain ⟨A, rfl⟩ := nameB hS 6 rfl
  obtain ⟨H, hH0⟩ : ∃ H, H = Um.rdbeg c x ky (⟨ws, 0, Um.noT⟩ : Um.Mm) := ⟨_, rfl⟩
  have hHm : H.m = (⟨ws, 0, Um.noT⟩ : Um.Mm) := by rw [hH0, Um.rdbeg_m]
  have hk0 : Um.Rok c H := by rw [hH0]; exact Um.rok_beg (unhide HW0)
  have HN0 := hide (show H.dn = false → Um.ook x c.s = true from fun q => rdbeg_ook (h := x) (ky := ky) (by rw [← hH0]; exact q))
  rw [← hH0] at hA0 hG0
  have HA2 := hide (hA0.mono (e' := (g, rowW ws c.n) :: (sb0 ++ sb1)) (fun p hp => List.mem_cons_of_mem _ (List.mem_append_left _ hp)))
  have HG2 := hide (hG0.mono (e' := (g, rowW ws c.n) :: (sb0 ++ sb1)) (fun p hp => List.mem_cons_of_mem _ (List.mem_append_right _ hp)))
  have HO2 := hide hk0
  clear hA0 hG0 hk0 hH0
  obtain ⟨u, rfl⟩ := nameW hS
  have HDN := hide (fun d os => Calls.regrown_of (same_below (rdDone_any (unhide HA2) ((hS.call (below_regrown u d os)).get 5 rfl))))
  have HER := hide (fun d os => Calls.regrown_of (same_below (rdError_any (unhide HA2) (unhide HO2).k.e0 ((hS.call (below_regrown u d os)).get 5 rfl))))
  have q33 := cell_regrown ((hS.get 6 rfl).cell 33 _ rfl)
  have q32 := cell_regrown ((hS.get 6 rfl).cell 32 _ rfl)
  rw [(unhide HG2).dn] at q33
  rw [(unhide HG2).er] at q32
  have HS7 := hide hS
  clear hS
  generalize hbq : H.dn = bq at HDN q33
  generalize hbe : H.e = be at HER q32
  have hbb : (bq != bq) = false := by simp
  have hbc : (be != be) = false := by simp
  refine wp_region_quiet_below (by kernel_rfl) (by kernel_rfl) ?_
  repeat (go_big_quiet_step (first | (go_at_call 14; exact (unhide HDN) _ _) | (go_at_call 15; exact (unhide HER) _ _)))
  refine wpQuiet_nil ?_
  intro _ hw'
  obtain ⟨⟨dq, osq⟩, hw''⟩ := hw'
  subst hw''
  clear  q33 q32 HDN HER hbb hbc hbq hbe
  have HS8 := hide ((unhide HS7).call (below_regrown u dq osq))
  clear HS7
  generalize grow (redrawn u dq) osq = u9 at *
  have hS3 := (unhide HH0).unpark (l := [(CF, [.int .i64 c.t, .int .i64 c.s, .int .i64 c.k, .int .i64 c.g, .int .u64 c.q]), (PL, [.int .u64 (x : Nat), .int .i64 ky, .int .i64 (N : Int), .slice la nl cl]), (B, memL c C (⟨ws, 0, Um.noT⟩ : Um.Mm)), (C, rowW (⟨ws, 0, Um.noT⟩ : Um.Mm).ws c.n), (R, [.int .i64 c.t, .int .i64 c.s, .int .i64 c.k, .int .i64 c.g, .int .u64 c.q, (.slice (some ⟨g, 0, none⟩) c.n cg), .int .i64 (⟨ws, 0, Um.noT⟩ : Um.Mm).cnt, .int .i64 (⟨ws, 0, Um.noT⟩ : Um.Mm).l.kind, .int .i64 (⟨ws, 0, Um.noT⟩ : Um.Mm).l.a, .int .i64 (⟨ws, 0, Um.noT⟩ : Um.Mm).l.b, .int .u64 ((⟨ws, 0, Um.noT⟩ : Um.Mm).l.old : Nat), .int .u64 ((⟨ws, 0, Um.noT⟩ : Um.Mm).l.new : Nat), .bool (⟨ws, 0, Um.noT⟩ : Um.Mm).l.done]), (P, cs0), (A, [.int .i64 G0.key, .int .i64 G0.slot, .int .i64 G0.nx, .int .u64 (G0.n : Nat), .int .u64 (G0.w : Nat), .slice G0.oa G0.on G0.oc, .int .u64 (G0.gh : Nat), .slice G0.va G0.vn G0.vc, .bool G0.gt, .int .u64 (G0.gs : Nat), .int .u64 (G0.gw : Nat), .int .i64 G0.ge, .bool G0.gn, .int .i64 G0.jl, .int .i64 G0.jd, .int .i64 G0.jb, .int .u64 (G0.jn : Nat), .int .i64 G0.jx, .int .u64 (G0.js : Nat), .int .i64 G0.jr, .int .i64 G0.ol, .int .i64 G0.od, .int .i64 G0.ob, .bool G0.ok, .int .u64 (G0.oS : Nat), .bool G0.oD, .int .i64 G0.ll, .int .i64 G0.lt, .bool G0.lk, .int .u64 (G0.ls : Nat), .bool G0.ld, .int .i64 G0.td, .int .i64 G0.e, .bool G0.dn])]) (e := (g, rowW ws c.n) :: sb0) (sb := sb1) (unhide HS8) (unhide HLT)
  have HS9 := hide (show Sx [] w u9 ([(CF, [.int .i64 c.t, .int .i64 c.s, .int .i64 c.k, .int .i64 c.g, .int .u64 c.q]), (PL, [.int .u64 (x : Nat), .int .i64 ky, .int .i64 (N : Int), .slice la nl cl]), (B, memL c C H.m), (C, rowW H.m.ws c.n), (R, [.int .i64 c.t, .int .i64 c.s, .int .i64 c.k, .int .i64 c.g, .int .u64 c.q, (.slice (some ⟨g, 0, none⟩) c.n cg), .int .i64 H.m.cnt, .int .i64 H.m.l.kind, .int .i64 H.m.l.a, .int .i64 H.m.l.b, .int .u64 (H.m.l.old : Nat), .int .u64 (H.m.l.new : Nat), .bool H.m.l.done]), (P, cs0), (A, [.int .i64 G0.key, .int .i64 G0.slot, .int .i64 G0.nx, .int .u64 (G0.n : Nat), .int .u64 (G0.w : Nat), .slice G0.oa G0.on G0.oc, .int .u64 (G0.gh : Nat), .slice G0.va G0.vn G0.vc, .bool G0.gt, .int .u64 (G0.gs : Nat), .int .u64 (G0.gw : Nat), .int .i64 G0.ge, .bool G0.gn, .int .i64 G0.jl, .int .i64 G0.jd, .int .i64 G0.jb, .int .u64 (G0.jn : Nat), .int .i64 G0.jx, .int .u64 (G0.js : Nat), .int .i64 G0.jr, .int .i64 G0.ol, .int .i64 G0.od, .int .i64 G0.ob, .bool G0.ok, .int .u64 (G0.oS : Nat), .bool G0.oD, .int .i64 G0.ll, .int .i64 G0.lt, .bool G0.lk, .int .u64 (G0.ls : Nat), .bool G0.ld, .int .i64 G0.td, .int .i64 G0.e, .bool G0.dn])] ++ hb0) ((g, rowW H.m.ws c.n) :: (sb0 ++ sb1)) from by rw [hHm]; exact hS3)
  have HA3 := hide (show RdAt P x ky (Um.svN x) ((g, rowW H.m.ws c.n) :: (sb0 ++ sb1)) H cs0 hb0 from by rw [hHm]; exact unhide HA2)
  have HG3 := hide (show Ref12 x ky (Um.svN x) ((g, rowW H.m.ws c.n) :: (sb0 ++ sb1)) H G0 from by rw [hHm]; exact unhide HG2)
  clear hS3 HS8 HH0 HLT HA2 HG2 hHm HW0
  have hS := unhide HS9
  clear HS9
  dsimp only [List.cons_append, List.nil_append] at hS
  go_wp2_with (first | (refine ybox hS (h := ?_); clear hS; intro _ _ hS) | (refine yall hS (h := ?_); clear hS; intro _ _ hS) | refine yld hS (h := ?_) | (refine yst hS (h := ?_); clear hS; intro _ hS))
  go_loopw [69] (fun i wr => ∃ (j : Nat) (o : Um.Rd) (g cg : Nat) (G : R12) (cs : List Value) (hb e : List (Nat × List Value)), j ≤ N ∧ i = .int .i64 j ∧ c.n ≤ cg ∧ cg ≤ maxLen ∧ Hid (Um.Rok c o) ∧ Hid (o.dn = false → Um.ook x c.s = true) ∧ Hid (RdAt P x ky (Um.svN x) ((g, rowW o.m.ws c.n) :: e) o cs hb) ∧ Hid (Ref12 x ky (Um.svN x) ((g, rowW o.m.ws c.n) :: e) o G) ∧ Hid (Sx [] w wr ([(CF, [.int .i64 c.t, .int .i64 c.s, .int .i64 c.k, .int .i64 c.g, .int .u64 c.q]), (PL, [.int .u64 (x : Nat), .int .i64 ky, .int .i64 (N : Int), .slice la nl cl]), (B, memL c C o.m), (C, rowW o.m.ws c.n), (R, [.int .i64 c.t, .int .i64 c.s, .int .i64 c.k, .int .i64 c.g, .int .u64 c.q, (.slice (some ⟨g, 0, none⟩) c.n cg), .int .i64 o.m.cnt, .int .i64 o.m.l.kind, .int .i64 o.m.l.a, .int .i64 o.m.l.b, .int .u64 (o.m.l.old : Nat), .int .u64 (o.m.l.new : Nat), .bool o.m.l.done]), (P, cs), (A, [.int .i64 G.key, .int .i64 G.slot, .int .i64 G.nx, .int .u64 (G.n : Nat), .int .u64 (G.w : Nat), .slice G.oa G.on G.oc, .int .u64 (G.gh : Nat), .slice G.va G.vn G.vc, .bool G.gt, .int .u64 (G.gs : Nat), .int .u64 (G.gw : Nat), .int .i64 G.ge, .bool G.gn, .int .i64 G.jl, .int .i64 G.jd, .int .i64 G.jb, .int .u64 (G.jn : Nat), .int .i64 G.jx, .int .u64 (G.js : Nat), .int .i64 G.jr, .int .i64 G.ol, .int .i64 G.od, .int .i64 G.ob, .bool G.ok, .int .u64 (G.oS : Nat), .bool G.oD, .int .i64 G.ll, .int .i64 G.lt, .bool G.lk, .int .u64 (G.ls : Nat), .bool G.ld, .int .i64 G.td, .int .i64 G.e, .bool G.dn])] ++ hb) ((g, rowW o.m.ws c.n) :: e))) (fun i _ => N - (intOf i).toNat)
  case atStart => exact ⟨0, H, g, cg, G0, cs0, hb0, _, Nat.zero_le _, rfl, hc1, hc2, HO2, HN0, HA3, HG3, hide hS⟩
  case round =>
    clear hc1 hc2 HO2 HN0 HA3 HG3 hS
    rename_i wr
    obtain ⟨j, o, g, cg, G, cs, hb, e, hj, rfl, hc1, hc2, HO, HN, HA, HG, HS⟩ := hrel
    have hS := (unhide HS).dup0
    clear HS
    dsimp only [List.cons_append, List.nil_append] at hS
    by_cases hlt : j < N
    · have hlti : (j : Int) < (N : Int) := by omega
      obtain ⟨M, hMe⟩ : ∃ M, M = poked c Z j o.m nl := ⟨_, rfl⟩
      have HMe := hide hMe
      clear hMe
      go_wp2_with (first | (refine ybox hS (h := ?_); clear hS; intro _ _ hS) | (refine yall hS (h := ?_); clear hS; intro _ _ hS) | refine yld hS (h := ?_) | (refine yst hS (h := ?_); clear hS; intro _ hS))
      refine (poked_x hS 2 3 0 rfl rfl (by decide) rfl (unhide HR) (unhide HO).wd hc1 hc2 la nl cl Z (unhide HNL).1 (unhide HNL).2 ((unhide HP).turn hS.off (by simp)) ((unhide HP).apart hS 2 3 rfl rfl) j M (unhide HMe)).mono ?_
      rintro r u ⟨g1, cg1, rfl, q1, q2, hWn, hSn⟩
      clear hS
      have hS := hSn
      clear hSn
      dsimp only [putL, List.set, List.cons_append, List.nil_append] at hS
      have HW1 := hide hWn
      clear hWn
      clear HMe
      go_wp2_with (refine yst hS (h := ?_); clear hS; intro _ hS)
      obtain ⟨H, hH⟩ : ∃ H, H = Um.rdstep c x inn12 ky (Um.svN x) (Um.setR M o) := ⟨_, rfl⟩
      have HH := hide hH
      have HO1 := hide (show Um.Rok c (Um.setR M o) from Um.Rok.of (unhide HO).k (unhide HW1))
      have HN2 := hide (show H.dn = false → Um.ook x c.s = true from fun q => (unhide HN) (by
        cases hd : o.dn with
        | false => rfl
        | true => rw [hH, Um.rdstep_done (show (Um.setR M o).dn = true from hd)] at q; exact absurd (show o.dn = false from q) (by rw [hd]; decide)))
      have HA1 := hide (((unhide HA).setR M).mono (e' := (g1, rowW M.ws c.n) :: (g, rowW o.m.ws c.n) :: e) (fun p hp => List.mem_cons_of_mem _ hp))
      have HG1 := hide (((unhide HG).setR M).mono (e' := (g1, rowW M.ws c.n) :: (g, rowW o.m.ws c.n) :: e) (fun p hp => List.mem_cons_of_mem _ hp))
      have HN1 := hide (show (Um.setR M o).dn = false → Um.ook x c.s = true from unhide HN)
      clear hH HO HN HA HG HW1
      refine (rdStep_any (l := [(CF, [.int .i64 c.t, .int .i64 c.s, .int .i64 c.k, .int .i64 c.g, .int .u64 c.q]), (PL, [.int .u64 (x : Nat), .int .i64 ky, .int .i64 (N : Int), .slice la nl cl]), (B, memL c C M), (C, rowW M.ws c.n), (R, [.int .i64 c.t, .int .i64 c.s, .int .i64 c.k, .int .i64 c.g, .int .u64 c.q, (.slice (some ⟨g1, 0, none⟩) c.n cg1), .int .i64 M.cnt, .int .i64 M.l.kind, .int .i64 M.l.a, .int .i64 M.l.b, .int .u64 (M.l.old : Nat), .int .u64 (M.l.new : Nat), .bool M.l.done]), (P, cs), (A, [.int .i64 G.key, .int .i64 G.slot, .int .i64 G.nx, .int .u64 (G.n : Nat), .int .u64 (G.w : Nat), .slice G.oa G.on G.oc, .int .u64 (G.gh : Nat), .slice G.va G.vn G.vc, .bool G.gt, .int .u64 (G.gs : Nat), .int .u64 (G.gw : Nat), .int .i64 G.ge, .bool G.gn, .int .i64 G.jl, .int .i64 G.jd, .int .i64 G.jb, .int .u64 (G.jn : Nat), .int .i64 G.jx, .int .u64 (G.js : Nat), .int .i64 G.jr, .int .i64 G.ol, .int .i64 G.od, .int .i64 G.ob, .bool G.ok, .int .u64 (G.oS : Nat), .bool G.oD, .int .i64 G.ll, .int .i64 G.lt, .bool G.lk, .int .u64 (G.ls : Nat), .bool G.ld, .int .i64 G.td, .int .i64 G.e, .bool G.dn])]) (hb := hb) hS 2 3 5 (Um.setR M o) H (unhide HH) (unhide HA1) rfl rfl rfl (by decide) (by decide) (by decide) (unhide HR) (unhide HXX) (unhide HO1) (unhide HN1) (unhide HSB) (unhide HKB)).mono ?_
      rintro r u ⟨rfl, hOn, cs2, hb2, sb2, hA2, hSn⟩
      clear hS
      have hS := hSn
      clear hSn HA1 HN1
      have HO2 := hide hOn
      have HG1b := hide ((unhide HG1).mono (e' := ((g1, rowW M.ws c.n) :: (g, rowW o.m.ws c.n) :: e) ++ sb2) (fun p hp => List.mem_append_left _ hp))
      clear hOn HG1
      dsimp only [putL, List.set, List.cons_append, List.nil_append] at hS
      go_wp2_with (first | (refine ybox hS (h := ?_); clear hS; intro _ _ hS) | (refine yall hS (h := ?_); clear hS; intro _ _ hS) | refine yld hS (h := ?_) | (refine yst hS (h := ?_); clear hS; intro _ hS))
      refine (rStep12_any _ c x ky (Um.svN x) _ (Um.setR M o) H (unhide HH) G (unhide HG1b) hS.eb g1 cg1 (unhide HO1) (unhide HXX) (hS.getE 0 rfl) (unhide HR) q1 q2).mono ?_
      rintro r u ⟨gr, cgr, G2, sb3, rfl, p1, p2, hFr, hGb, hsb3, hG2, hb3⟩
      replace hS := hS.addR hb3 hFr hGb hsb3
      have HA2 := hide (hA2.mono (e' := (gr, rowW H.m.ws c.n) :: ((((g1, rowW M.ws c.n) :: (g, rowW o.m.ws c.n) :: e) ++ sb2) ++ sb3)) (fun p hp => List.mem_cons_of_mem _ (List.mem_append_left _ hp)))
      have HG2 := hide (hG2.mono (e' := (gr, rowW H.m.ws c.n) :: ((((g1, rowW M.ws c.n) :: (g, rowW o.m.ws c.n) :: e) ++ sb2) ++ sb3)) (fun p hp => List.mem_cons_of_mem _ hp))
      clear hGb hb3 hFr hsb3 hA2 hG2 HG1b HO1 HH q1 q2
      unfold R12.V
      go_wp2_with (refine yst hS (h := ?_); clear hS; intro _ hS)
      obtain ⟨u, rfl⟩ := nameW hS
      have HAL := hide (fun d os => Calls.regrown_of (lAlike_x (hS.call (below_regrown u d os)) 2 3 rfl rfl (by decide) 0 rfl (unhide HR) (unhide HO2).wd p1 p2))
      have HDN := hide (fun d os => Calls.regrown_of (same_below (rdDone_any (unhide HA2) ((hS.call (below_regrown u d os)).get 5 rfl))))
      have HER := hide (fun d os => Calls.regrown_of (same_below (rdError_any (unhide HA2) (unhide HO2).k.e0 ((hS.call (below_regrown u d os)).get 5 rfl))))
      have k0 := cell_regrown ((hS.get 4 rfl).cell 0 _ rfl)
      have k1 := cell_regrown ((hS.get 4 rfl).cell 1 _ rfl)
      have k2 := cell_regrown ((hS.get 4 rfl).cell 2 _ rfl)
      have k3 := cell_regrown ((hS.get 4 rfl).cell 3 _ rfl)
      have k4 := cell_regrown ((hS.get 4 rfl).cell 4 _ rfl)
      have k5 := cell_regrown ((hS.get 4 rfl).cell 5 _ rfl)
      have k6 := cell_regrown ((hS.get 4 rfl).cell 6 _ rfl)
      have k7 := cell_regrown ((hS.get 4 rfl).cell 7 _ rfl)
      have k8 := cell_regrown ((hS.get 4 rfl).cell 8 _ rfl)
      have k9 := cell_regrown ((hS.get 4 rfl).cell 9 _ rfl)
      have k10 := cell_regrown ((hS.get 4 rfl).cell 10 _ rfl)
      have k11 := cell_regrown ((hS.get 4 rfl).cell 11 _ rfl)
      have k12 := cell_regrown ((hS.get 4 rfl).cell 12 _ rfl)
      have q33 := cell_regrown ((hS.get 6 rfl).cell 33 _ rfl)
      have q32 := cell_regrown ((hS.get 6 rfl).cell 32 _ rfl)
      rw [(unhide HG2).dn] at q33
      rw [(unhide HG2).er] at q32
      have HS7 := hide hS
      clear hS
      generalize hbq : H.dn = bq at HDN q33
      generalize hbe : H.e = be at HER q32
      have hbb : (bq != bq) = false := by simp
      have hbc : (be != be) = false := by simp
      refine wp_region_quiet_below (by kernel_rfl) (by kernel_rfl) ?_
      repeat (go_big_quiet_step (first | (go_at_call 19; exact (unhide HAL) _ _) | (go_at_call 14; exact (unhide HDN) _ _) | (go_at_call 15; exact (unhide HER) _ _)))
      refine wpQuiet_nil ?_
      intro _ hw'
      obtain ⟨⟨dq, osq⟩, hw''⟩ := hw'
      subst hw''
      clear k0 k1 k2 k3 k4 k5 k6 k7 k8 k9 k10 k11 k12 q33 q32 HAL HDN HER hbb hbc hbq hbe
      have HS8 := hide ((unhide HS7).call (below_regrown u dq osq))
      clear HS7
      generalize grow (redrawn u dq) osq = u9 at *
      go_wp2
      exact ⟨⟨j + 1, H, gr, cgr, G2, cs2, hb2, _, by omega, by go_num, p1, p2, HO2, HN2, HA2, HG2, HS8⟩, by simp [intOf]; omega⟩
    · obtain rfl : j = N := by omega
      go_wp2_with fail
      refine (rAlive_any _).mono ?_
      rintro r u ⟨rfl, hb⟩
      replace hS := hS.call hb
      have hB := hS.bel
      clear hb hS
      go_wp2
      go_ret
      exact ⟨rfl, hB⟩

theorem walk {H : Type} {enc : TypeId × Value → H} {base : Nat} {v0 v1 v2 : Value} {d0 d1 d2 : DataW H} {p0 p1 p2 : List MemPlace} (w : World)
    (hv0 : Value.okWide Tryz.prog w .any base 24 v0) (h0 : DataW.Trod enc Tryz.prog w 0 (fun _ => true) true 24 v0 d0 p0)
    (hv1 : Value.okWide Tryz.prog w .any base 25 v1) (h1 : DataW.Trod enc Tryz.prog w 0 (fun _ => true) true 25 v1 d1 p1)
    (hv2 : Value.okWide Tryz.prog w .any base 28 v2) (h2 : DataW.Trod enc Tryz.prog w 0 (fun _ => true) true 28 v2 d2 p2) :
    Calls Tryz.prog 3 #[v0, v1, v2] w fun e w' => e = .returned (.bool true) ∧ Below w.heap.size w w' := by
  obtain ⟨ct, s, k, g, q, rfl, hsb⟩ := open_cfg hv0 h0
  obtain ⟨n, ws, hI⟩ := open_words hv1 h1
  obtain ⟨x, ky, st, la, nl, cl, Z, rfl, hx, hkb, hnc, hZ⟩ := open_play12 hv2 h2
  cases hr : (⟨ct, s, k, g, q⟩ : Um.Cf).r with
  | false =>
    obtain ⟨sw, cap, rfl⟩ := words_len hI
    exact walk_wrong w ⟨ct, s, k, g, q⟩ sw n cap x ky st la nl cl hx hr
  | true =>
    by_cases hn : n = (⟨ct, s, k, g, q⟩ : Um.Cf).n
    · subst hn
      by_cases hb1 : 200 < st
      · exact walk_big1 w ⟨ct, s, k, g, q⟩ v1 ws x ky st la nl cl hr hI hx hkb hb1
      by_cases hb2 : 30 < nl
      · exact walk_big2 w ⟨ct, s, k, g, q⟩ v1 ws x ky st la nl cl hr hI hx hkb hb1 hb2
      by_cases hp : 0 < st
      · obtain ⟨N, rfl⟩ : ∃ N : Nat, st = N := ⟨st.toNat, by omega⟩
        exact walk_right w ⟨ct, s, k, g, q⟩ v1 ws x ky N la nl cl hr hI hx hkb Z (by omega) (by omega) hb2 hnc hZ
      · exact walk_none w ⟨ct, s, k, g, q⟩ v1 ws x ky st la nl cl hr hI hx hkb Z hp hb2 hnc hZ
    · obtain ⟨sw, cap, rfl⟩ := words_len hI
      exact walk_short w ⟨ct, s, k, g, q⟩ sw n cap x ky st la nl cl hx hr hn

set_option maxRecDepth 100000 in
theorem lifted (os : Os) (started : os.Started) (H : Type) (enc : TypeId × Value → H) :
    ReturnsInHanded {} Tryz.checked os 3 .any (Rows.readStepsSpec.pre6 enc Tryz.prog Tryz.f3 Rows.readStepsRow.domain false) (Rows.readStepsSpec.post enc Tryz.prog Tryz.f3 false true false false) := by
  refine returnsInHanded_of_change (C := Tryz.checked) own started (by kernel_rfl) Tryz.func3
    (ChangeSpec.witness6 (enc := enc) (C := Tryz.checked) false ⟨#[], #[.agg #[.int .i64 0, .int .i64 0, .int .i64 0, .int .i64 0, .int .u64 0], .slice none 0 0, .agg #[.int .u64 0, .int .i64 0, .int .i64 0, .slice none 0 0]], []⟩ 8 (by kernel_rfl) (by kernel_rfl) (by kernel_rfl) (by kernel_rfl)) ?_
  intro W base args ds gs before hval0 hW hcnd _
  have hval : ∀ (j : Nat) t v, Tryz.f3.params[j]? = some t → args[j]? = some v → Value.okWide Tryz.prog W .any base t v := hval0
  have hW' := hW
  obtain ⟨p, q, hA0, hV, rfl, hfz, hnd⟩ := hW
  have hA : DataW.TrodAll enc Tryz.prog W 0 (fun _ => true) true Tryz.f3.params.toList args.toList ds p := hA0
  rw [Tryz.params3] at hA hval
  obtain ⟨v0, vs0, d0, ds0, p0, q0, hargs, rfl, rfl, h0, r0⟩ := trodAll_cons hA
  obtain ⟨v1, vs1, d1, ds1, p1, q1, rfl, rfl, rfl, h1, r1⟩ := trodAll_cons r0
  obtain ⟨v2, vs2, d2, ds2, p2, q2, rfl, rfl, rfl, h2, r2⟩ := trodAll_cons r1
  obtain ⟨rfl, rfl, rfl⟩ := trodAll_nil r2
  obtain rfl : args = #[v0, v1, v2] := by cases args; simp_all
  obtain ⟨rfl, rfl⟩ := trodVars_none hV
  have k0 := h0
  have lt0 : ∀ x ∈ p0, x.block < W.heap.size := by obtain ⟨m, hm⟩ := k0; exact DataW.trod_lt m _ _ _ hm
  have k1 := h1
  have lt1 : ∀ x ∈ p1, x.block < W.heap.size := by obtain ⟨m, hm⟩ := k1; exact DataW.trod_lt m _ _ _ hm
  have k2 := h2
  have lt2 : ∀ x ∈ p2, x.block < W.heap.size := by obtain ⟨m, hm⟩ := k2; exact DataW.trod_lt m _ _ _ hm
  refine (walk W (hval 0 24 v0 rfl rfl) h0 (hval 1 25 v1 rfl rfl) h1 (hval 2 28 v2 rfl rfl) h2).mono fun e W' ⟨he, bel⟩ => ?_
  subst he
  exact ⟨_, rfl, _, _, _, [], _, [], hW', trodAll_mk1 (shut_bool Tryz.underlying4 _), (trodAll_cons_mk (Below.trod laidOut (by kernel_rfl) (of_decide_eq_true (by kernel_rfl)) k0 bel lt0) (trodAll_cons_mk (Below.trod laidOut (by kernel_rfl) (of_decide_eq_true (by kernel_rfl)) k1 bel lt1) (trodAll_cons_mk (Below.trod laidOut (by kernel_rfl) (of_decide_eq_true (by kernel_rfl)) k2 bel lt2) trodAll_mk0))), rfl, bel.frame _, fun h => by cases h⟩

theorem ReadSteps_proved : Rows.ReadStepsSaid :=
  OpenClaim.holds_of_wide 3 Tryz.f3 rfl rfl rfl rfl rfl rfl rfl ⟨rfl, rfl, rfl, rfl, rfl⟩ rfl rfl rfl rfl rfl (by kernel_rfl) Tryz.func3 (by kernel_rfl)
    (of_decide_eq_true (by kernel_rfl)) (by unfold Func.isWrapper; first | (rw [if_pos (by decide +kernel)]; kernel_rfl) | (rw [if_neg (by decide +kernel)]; exact ⟨rfl, rfl⟩))
    (fun os started H enc _ => lifted os started H enc)

end Go.Proofs.YtapgghciieloaaaGreat.readSteps
