/-
  For every world's size and turns, the law ReadTwo answers true: two that read one key at once, however their steps are mixed, are both its readers then, and have no conflict with each other. Conditions: none.
-/
import Derived.Test.YtapgghciieloaaaGreatRows
import Derived.Test.YtapgghciieloaaaGreatK12
import Derived.Test.YtapgghciieloaaaGreatK1
import Derived.WalkKit
import Derived.ProofKit
import Derived.OpenShut
import Derived.ShutString
import Derived.LoopTactic
import Derived.Lib.QuietBelow
import Derived.Deep.DeepCutAuto
namespace Go.Proofs.YtapgghciieloaaaGreat.readTwo
set_option maxRecDepth 100000
open Go.ChangeShapes Go.WideShapes Go.ChangeAt Go.RowKit Go.Sort
set_option linter.unusedVariables false
set_option linter.unusedSimpArgs false

theorem own : ownKnob Tryz.prog.godebug = none := by kernel_rfl
theorem laidOut : laidOutB Tryz.prog = true := by kernel_rfl

set_option maxHeartbeats 2000000 in
theorem walk_wrong (w : World) (c : Um.Cf) (la : Option Addr) (nl cl : Nat) (h : c.r = false) :
    Calls Tryz.prog 6 #[(.agg #[.int .i64 (c.t), .int .i64 (c.s), .int .i64 (c.k), .int .i64 (c.g), .int .u64 (c.q : Int)]), .slice la nl cl] w fun e w' => e = .returned (.bool true) ∧ Below w.heap.size w w' := by
  have HL := hide (fun w => sNew_wrong c w h)
  clear h
  have hS := Sx.new w
  go_enter Tryz.func6, Tryz.ntmps6
  go_wp2_with (first | (refine ybox hS (h := ?_); clear hS; intro _ _ hS) | (refine yall hS (h := ?_); clear hS; intro _ _ hS) | refine yld hS (h := ?_) | (refine yst hS (h := ?_); clear hS; intro _ hS))
  refine ((unhide HL) _).mono ?_
  rintro r u ⟨rfl, hb⟩
  replace hS := hS.call hb
  clear hb HL
  go_wp2_with (first | (refine ybox hS (h := ?_); clear hS; intro _ _ hS) | (refine yall hS (h := ?_); clear hS; intro _ _ hS) | refine yld hS (h := ?_) | (refine yst hS (h := ?_); clear hS; intro _ hS))
  refine (rAlive_any _).mono ?_
  rintro r u ⟨rfl, hb⟩
  replace hS := hS.call hb
  have hB := hS.bel
  clear hb hS
  go_wp2
  go_ret
  exact ⟨rfl, hB⟩

set_option maxHeartbeats 2000000 in
theorem walk_one (w : World) (c : Um.Cf) (la : Option Addr) (nl cl : Nat) (h : c.r = true) (h2 : c.s < 2) :
    Calls Tryz.prog 6 #[(.agg #[.int .i64 (c.t), .int .i64 (c.s), .int .i64 (c.k), .int .i64 (c.g), .int .u64 (c.q : Int)]), .slice la nl cl] w fun e w' => e = .returned (.bool true) ∧ Below w.heap.size w w' := by
  have s2 : decide (c.s < 2) = true := decide_eq_true h2
  have HR := hide h
  clear h
  have hS := Sx.new w
  go_enter Tryz.func6, Tryz.ntmps6
  go_wp2_with (first | (refine ybox hS (h := ?_); clear hS; intro _ _ hS) | (refine yall hS (h := ?_); clear hS; intro _ _ hS) | refine yld hS (h := ?_) | (refine yst hS (h := ?_); clear hS; intro _ hS))
  refine (new_x hS c (unhide HR)).mono ?_
  rintro r u ⟨B, C, rfl, hWn, hSn⟩
  clear hS
  have hS := hSn
  clear hSn
  dsimp only [putL, List.set, List.cons_append, List.nil_append] at hS
  have HW0 := hide hWn
  clear hWn
  go_wp2_with (first | (refine ybox hS (h := ?_); clear hS; intro _ _ hS) | (refine yall hS (h := ?_); clear hS; intro _ _ hS) | refine yld hS (h := ?_) | (refine yst hS (h := ?_); clear hS; intro _ hS))
  refine (rAlive_any _).mono ?_
  rintro r u ⟨rfl, hb⟩
  replace hS := hS.call hb
  have hB := hS.bel
  clear hb hS
  go_wp2
  go_ret
  exact ⟨rfl, hB⟩

set_option maxHeartbeats 2000000 in
theorem walk_long (w : World) (c : Um.Cf) (la : Option Addr) (nl cl : Nat) (h : c.r = true) (h2 : ¬ c.s < 2) (hb : 100 < nl) :
    Calls Tryz.prog 6 #[(.agg #[.int .i64 (c.t), .int .i64 (c.s), .int .i64 (c.k), .int .i64 (c.g), .int .u64 (c.q : Int)]), .slice la nl cl] w fun e w' => e = .returned (.bool true) ∧ Below w.heap.size w w' := by
  have s2 : decide (c.s < 2) = false := decide_eq_false h2
  have b1 : (100 : Int) < (nl : Int) := by omega
  have b2 : decide ((100 : Int) < (nl : Int)) = true := decide_eq_true b1
  have HR := hide h
  clear h
  have hS := Sx.new w
  go_enter Tryz.func6, Tryz.ntmps6
  go_wp2_with (first | (refine ybox hS (h := ?_); clear hS; intro _ _ hS) | (refine yall hS (h := ?_); clear hS; intro _ _ hS) | refine yld hS (h := ?_) | (refine yst hS (h := ?_); clear hS; intro _ hS))
  refine (new_x hS c (unhide HR)).mono ?_
  rintro r u ⟨B, C, rfl, hWn, hSn⟩
  clear hS
  have hS := hSn
  clear hSn
  dsimp only [putL, List.set, List.cons_append, List.nil_append] at hS
  have HW0 := hide hWn
  clear hWn
  go_wp2_with (first | (refine ybox hS (h := ?_); clear hS; intro _ _ hS) | (refine yall hS (h := ?_); clear hS; intro _ _ hS) | refine yld hS (h := ?_) | (refine yst hS (h := ?_); clear hS; intro _ hS))
  refine (rAlive_any _).mono ?_
  rintro r u ⟨rfl, hb⟩
  replace hS := hS.call hb
  have hB := hS.bel
  clear hb hS
  go_wp2
  go_ret
  exact ⟨rfl, hB⟩

set_option maxRecDepth 100000 in
set_option maxHeartbeats 16000000 in
theorem walk_right (w : World) (c : Um.Cf) (la : Option Addr) (nl cl : Nat) (Z : Nat → Bool) (h : c.r = true) (h2 : ¬ c.s < 2) (hb : ¬ 100 < nl) (hcl : nl ≤ cl) (hZ : RowOf w la nl (fun i => .bool (Z i))) :
    Calls Tryz.prog 6 #[(.agg #[.int .i64 (c.t), .int .i64 (c.s), .int .i64 (c.k), .int .i64 (c.g), .int .u64 (c.q : Int)]), .slice la nl cl] w fun e w' => e = .returned (.bool true) ∧ Below w.heap.size w w' := by
  have s2 : decide (c.s < 2) = false := decide_eq_false h2
  have b1 : ¬ (100 : Int) < (nl : Int) := by omega
  have b2 : decide ((100 : Int) < (nl : Int)) = false := decide_eq_false b1
  obtain ⟨m1, hm1⟩ : ∃ m1, m1 = Um.mtouch c (⟨fun _ => 0, 0, Um.noT⟩ : Um.Mm) 2 4 0 0 268435456 := ⟨_, rfl⟩
  obtain ⟨m2, hm2⟩ : ∃ m2, m2 = Um.mtouch c m1 2 4 1 0 268435456 := ⟨_, rfl⟩
  have HB0 := hide (Um.two_new h (by omega) m1 m2 hm1 hm2 m2)
  have HM1 := hide hm1
  have HM2 := hide hm2
  have HS2 := hide (show 2 ≤ c.s by omega)
  have HK1 := hide (Um.ook1 (show 2 ≤ c.s by omega))
  have HK2 := hide (Um.ook2 (show 2 ≤ c.s by omega))
  have HI2 := hide (show inn12 2 = true by decide +kernel)
  have HZ := hide hZ
  have HR := hide h
  clear hm1 hm2 hZ h
  have hS := Sx.new w
  go_enter Tryz.func6, Tryz.ntmps6
  go_wp2_with (first | (refine ybox hS (h := ?_); clear hS; intro _ _ hS) | (refine yall hS (h := ?_); clear hS; intro _ _ hS) | refine yld hS (h := ?_) | (refine yst hS (h := ?_); clear hS; intro _ hS))
  refine (new_x hS c (unhide HR)).mono ?_
  rintro r u ⟨B, C, rfl, hWn, hSn⟩
  clear hS
  have hS := hSn
  clear hSn
  dsimp only [putL, List.set, List.cons_append, List.nil_append] at hS
  have HW0 := hide hWn
  clear hWn
  go_wp2_with (first | (refine ybox hS (h := ?_); clear hS; intro _ _ hS) | (refine yall hS (h := ?_); clear hS; intro _ _ hS) | refine yld hS (h := ?_) | (refine yst hS (h := ?_); clear hS; intro _ hS))
  refine (of12_any 4 0 _).mono ?_
  rintro r u ⟨rfl, hb⟩
  replace hS := hS.call hb
  clear hb
  go_wp2_with fail
  refine (nw12_2 _).mono ?_
  rintro r u ⟨rfl, hb⟩
  replace hS := hS.call hb
  clear hb
  go_wp2_with fail
  refine (mStore_x hS 1 2 rfl rfl (by decide) (unhide HR) (unhide HW0) 4 0 268435456 (by unfold Um.Word; omega) (by decide) (by decide) m1 (unhide HM1)).mono ?_
  rintro r u ⟨rfl, hWn, hSn⟩
  clear hS
  have hS := hSn
  clear hSn
  dsimp only [putL, List.set, List.cons_append, List.nil_append] at hS
  have HW1 := hide hWn
  clear hWn
  go_wp2_with fail
  refine (of12_any 4 1 _).mono ?_
  rintro r u ⟨rfl, hb⟩
  replace hS := hS.call hb
  clear hb
  go_wp2_with fail
  refine (nw12_2 _).mono ?_
  rintro r u ⟨rfl, hb⟩
  replace hS := hS.call hb
  clear hb
  go_wp2_with fail
  refine (mStore_x hS 1 2 rfl rfl (by decide) (unhide HR) (unhide HW1) 4 1 268435456 (by unfold Um.Word; omega) (by decide) (by decide) m2 (unhide HM2)).mono ?_
  rintro r u ⟨rfl, hWn, hSn⟩
  clear hS
  have hS := hSn
  clear hSn
  dsimp only [putL, List.set, List.cons_append, List.nil_append] at hS
  have HW2 := hide hWn
  clear hWn
  obtain ⟨CF, rfl⟩ := nameB hS 0 rfl
  go_upto_region 6 with fail
  go_cut [5, 7, 8] (fun s5 s7 s8 wx => s5 = .pointer (some ⟨B, 0, none⟩) ∧ ∃ Pa Pb csa csb hba hbb sa sb, s7 = .pointer (some ⟨Pa, 0, none⟩) ∧ s8 = .pointer (some ⟨Pb, 0, none⟩) ∧ RdAt Pa 1 0 (Um.svN 1) sa (Um.rdbeg c 1 0 m2) csa hba ∧ RdAt Pb 2 0 (Um.svN 2) sb (Um.rdbeg c 2 0 m2) csb hbb ∧ Sx [] w wx (([(CF, [.int .i64 c.t, .int .i64 c.s, .int .i64 c.k, .int .i64 c.g, .int .u64 c.q]), (B, memL c C m2), (C, rowW m2.ws c.n)] ++ ((Pa, csa) :: hba)) ++ ((Pb, csb) :: hbb)) (([] ++ sa) ++ sb))
  case first =>
    have k0 := fun w1 (hq : (BlkAt w1 CF [.int .i64 c.t, .int .i64 c.s, .int .i64 c.k, .int .i64 c.g, .int .u64 c.q])) => hq.cell 0 _ rfl
    have k1 := fun w1 (hq : (BlkAt w1 CF [.int .i64 c.t, .int .i64 c.s, .int .i64 c.k, .int .i64 c.g, .int .u64 c.q])) => hq.cell 1 _ rfl
    have k2 := fun w1 (hq : (BlkAt w1 CF [.int .i64 c.t, .int .i64 c.s, .int .i64 c.k, .int .i64 c.g, .int .u64 c.q])) => hq.cell 2 _ rfl
    have k3 := fun w1 (hq : (BlkAt w1 CF [.int .i64 c.t, .int .i64 c.s, .int .i64 c.k, .int .i64 c.g, .int .u64 c.q])) => hq.cell 3 _ rfl
    have k4 := fun w1 (hq : (BlkAt w1 CF [.int .i64 c.t, .int .i64 c.s, .int .i64 c.k, .int .i64 c.g, .int .u64 c.q])) => hq.cell 4 _ rfl
    have HP := hide (hS.get 0 rfl)
    have HS3 := hide hS
    clear hS
    go_region_held3 (fun w1 => (BlkAt w1 CF [.int .i64 c.t, .int .i64 c.s, .int .i64 c.k, .int .i64 c.g, .int .u64 c.q])) (first | exact (unhide HP).drew | exact hPn | assumption) (first | (go_at_call 11; refine (rdNew_p (by first | exact hSa | exact (unhide HS3).drew) c _ _ (by unfold Um.Word; decide) m2).mono ?_; rintro e u5 ⟨Pn, csn, hbn, sbn, rfl, hAn, hSa⟩; have hPn := hSa.get 0 rfl))
    all_goals
      go_wp2_with fail
      go_meet
      refine ⟨rfl, _, _, _, _, _, _, _, _, rfl, rfl, by assumption, by assumption, ?_⟩
      first | exact hSa | exact hSa.two12l
  case rest =>
  clear hS
  obtain ⟨rfl, Pa, Pb, csa, csb, hba, hbb, sa, sb, rfl, rfl, hAa, hAb, hS⟩ := hcut
  rw [show Um.svN 1 = 0 by decide +kernel] at hAa
  rw [show Um.svN 2 = 1 by decide +kernel] at hAb
  have H0 := hide (show ∃ (csa csb : List Value) (hba hbb e : List (Nat × List Value)), RdAt Pa 1 0 0 e (Um.rdbeg c 1 0 m2) csa hba ∧ RdAt Pb 2 0 1 e (Um.rdbeg c 2 0 m2) csb hbb ∧ Sx [] w wc ([(CF, [.int .i64 c.t, .int .i64 c.s, .int .i64 c.k, .int .i64 c.g, .int .u64 c.q]), (B, memL c C m2), (C, rowW m2.ws c.n), (Pa, csa), (Pb, csb)] ++ (hbb ++ hba)) e from
    ⟨csa, csb, hba, hbb, _, hAa.mono (e' := ([] ++ sa) ++ sb) (fun p hp => by simp [hp]), hAb.mono (e' := ([] ++ sa) ++ sb) (fun p hp => by simp [hp]), (hS.perm12 perm_can).perm12 perm_two⟩)
  clear hS hAa hAb
  go_wp2_with fail
  clear b1 b2 s2
  go_loopw [53] (fun iv wr => ∃ (j : Nat) (m : Um.Mm) (a b : Um.Rd), j ≤ nl ∧ iv = .int .i64 j ∧ Hid (Um.TwoR c m a b) ∧ Hid (WordsOk c m) ∧ Hid (Um.RokW c a) ∧ Hid (Um.RokW c b) ∧ Hid (∃ (csa csb : List Value) (hba hbb e : List (Nat × List Value)), RdAt Pa 1 0 0 e a csa hba ∧ RdAt Pb 2 0 1 e b csb hbb ∧ Sx [] w wr ([(CF, [.int .i64 c.t, .int .i64 c.s, .int .i64 c.k, .int .i64 c.g, .int .u64 c.q]), (B, memL c C m), (C, rowW m.ws c.n), (Pa, csa), (Pb, csb)] ++ (hbb ++ hba)) e)) (fun iv _ => nl - (intOf iv).toNat)
  case atStart => exact ⟨0, m2, _, _, Nat.zero_le _, rfl, HB0, hide (unhide HW2), hide (Um.rok_beg (unhide HW2)).k, hide (Um.rok_beg (unhide HW2)).k, H0⟩
  case round =>
    clear HB0 H0 HW0 HW1 HW2
    rename_i wr
    obtain ⟨j, m, a, b, hj, rfl, HD, HW, HOA, HOB, HS⟩ := hrel
    obtain ⟨csa, csb, hba, hbb, e1, hAa, hAb, hS⟩ := unhide HS
    have HAa := hide hAa
    have HAb := hide hAb
    clear HS hAa hAb
    by_cases hlt : j < nl
    · have hlti : (j : Int) < (nl : Int) := by omega
      obtain ⟨lb, lo, hla, hlb, hlc⟩ := (unhide HZ).resolve_left (by omega)
      have q9 : wr.cell? ⟨lb, lo + j, none⟩ = some (.bool (Z j)) := (hS.bel.cell (p := ⟨lb, lo + j, none⟩) hlb).trans (hlc j hlt)
      subst hla
      clear hlc
      cases hz : Z j with
      | true =>
        rw [hz] at q9
        obtain ⟨O, hO⟩ : ∃ O, O = Um.rdstep c 1 inn12 0 0 (Um.setR m a) := ⟨_, rfl⟩
        have HD2 := hide (Um.two_a (unhide HR) (unhide HS2) (unhide HI2) (unhide HD) O hO)
        have HH := hide hO
        clear hO hz
        go_wp2_with fail
        refine (rdStep_h (c := c) (h := 1) (sl := 0) (ky := 0) (l := [(CF, [.int .i64 c.t, .int .i64 c.s, .int .i64 c.k, .int .i64 c.g, .int .u64 c.q]), (B, memL c C m), (C, rowW m.ws c.n), (Pa, csa), (Pb, csb)]) (hx := hbb) hS 1 2 3 (Um.setR m a) O (unhide HH) ((unhide HAa).setR m) rfl rfl rfl (by decide) (by decide) (by decide) (unhide HR) (by unfold Um.Word; decide) (Um.Rok.of (unhide HOA) (unhide HW)) (fun _ => unhide HK1) (by decide) (by decide)).mono ?_
        rintro r u ⟨rfl, hOn, cs2, hb2, sb2, hA2, hSn⟩
        clear hS
        have hS := hSn
        clear hSn
        dsimp only [putL, List.set, List.cons_append, List.nil_append] at hS
        have HOK := hide hOn
        have HB2 := hide ((unhide HAb).mono (e' := e1 ++ sb2) (fun p hp => List.mem_append_left _ hp))
        have HA2 := hide hA2
        have HS6 := hide hS
        clear hS hOn hA2 q9
        go_wp2
        exact ⟨⟨j + 1, O.m, O, b, by omega, by go_num, HD2, hide (unhide HOK).wd, hide (unhide HOK).k, HOB, hide ⟨cs2, csb, hb2, hbb, _, unhide HA2, unhide HB2, unhide HS6⟩⟩, by simp [intOf]; omega⟩
      | false =>
        rw [hz] at q9
        obtain ⟨O, hO⟩ : ∃ O, O = Um.rdstep c 2 inn12 0 1 (Um.setR m b) := ⟨_, rfl⟩
        have HD2 := hide (Um.two_b (unhide HR) (unhide HS2) (unhide HI2) (unhide HD) O hO)
        have HH := hide hO
        clear hO hz
        have hS9 := hS.perm12 perm_two
        clear hS
        have hS := hS9
        clear hS9
        go_wp2_with fail
        refine (rdStep_h (c := c) (h := 2) (sl := 1) (ky := 0) (l := [(CF, [.int .i64 c.t, .int .i64 c.s, .int .i64 c.k, .int .i64 c.g, .int .u64 c.q]), (B, memL c C m), (C, rowW m.ws c.n), (Pa, csa), (Pb, csb)]) (hx := hba) hS 1 2 4 (Um.setR m b) O (unhide HH) ((unhide HAb).setR m) rfl rfl rfl (by decide) (by decide) (by decide) (unhide HR) (by unfold Um.Word; decide) (Um.Rok.of (unhide HOB) (unhide HW)) (fun _ => unhide HK2) (by decide) (by decide)).mono ?_
        rintro r u ⟨rfl, hOn, cs2, hb2, sb2, hA2, hSn⟩
        clear hS
        have hS := hSn
        clear hSn
        dsimp only [putL, List.set, List.cons_append, List.nil_append] at hS
        have HOK := hide hOn
        have HB2 := hide ((unhide HAa).mono (e' := e1 ++ sb2) (fun p hp => List.mem_append_left _ hp))
        have HA2 := hide hA2
        have HS6 := hide hS
        clear hS hOn hA2 q9
        go_wp2
        exact ⟨⟨j + 1, O.m, a, O, by omega, by go_num, HD2, hide (unhide HOK).wd, HOA, hide (unhide HOK).k, hide ⟨csa, cs2, hba, hb2, _, unhide HB2, unhide HA2, (unhide HS6).perm12 perm_two⟩⟩, by simp [intOf]; omega⟩
    · have hge : ¬ (j : Int) < (nl : Int) := by omega
      obtain ⟨A, hA⟩ : ∃ A, A = Um.rdit c 1 inn12 0 0 (Um.setR m a) 100 := ⟨_, rfl⟩
      obtain ⟨E, hE⟩ : ∃ E, E = Um.rdit c 2 inn12 0 1 (Um.setR A.m b) 100 := ⟨_, rfl⟩
      obtain ⟨p1, p2, p3, p4, p5, p6, p7⟩ := Um.two_ends (unhide HR) (unhide HS2) (unhide HI2) (unhide HD) A hA E hE
      obtain ⟨m6, hm6⟩ : ∃ m6, m6 = Um.mtouch c E.m 1 8 0 0 0 := ⟨_, rfl⟩
      obtain ⟨m7, hm7⟩ : ∃ m7, m7 = Um.mtouch c m6 1 4 0 0 0 := ⟨_, rfl⟩
      obtain ⟨m8, hm8⟩ : ∃ m8, m8 = Um.mtouch c m7 1 4 1 0 0 := ⟨_, rfl⟩
      have hb9 := c.rb (unhide HR)
      have hs9 := unhide HS2
      have y8 := (Um.key_cells (unhide HR) (slot := 0) (key := 0) (by decide) (by omega) (by decide) (by omega)).1
      have y4 := (Um.sl_cells (c := c) (unhide HR) (f := 0) (by decide) (by omega)).1
      have y5 := (Um.sl_cells (c := c) (unhide HR) (f := 1) (by decide) (by omega)).1
      have HL6 := hide (show ((m6.l.old : Nat) : Int) = 3 by rw [hm6, Um.load_old, if_pos (by omega), p5]; rfl)
      have HL7 := hide (show m7.l.old = 268435456 by rw [hm7, Um.load_old, if_pos (by omega), hm6, Um.load_ws, p6]; rfl)
      have HL8 := hide (show m8.l.old = 268435456 by rw [hm8, Um.load_old, if_pos (by omega), hm7, Um.load_ws, hm6, Um.load_ws, p7]; rfl)
      have HP1 := hide p1
      have HP2 := hide p2
      have HP3 := hide p3
      have HP4 := hide p4
      have HHA := hide hA
      have HHE := hide hE
      have HM6 := hide hm6
      have HM7 := hide hm7
      have HM8 := hide hm8
      clear p1 p2 p3 p4 p5 p6 p7 hA hE hm6 hm7 hm8 hb9 hs9 y8 y4 y5 HD
      go_wp2_with fail
      refine (rdEnds_x (c := c) (h := 1) (sl := 0) (ky := 0) (l := [(CF, [.int .i64 c.t, .int .i64 c.s, .int .i64 c.k, .int .i64 c.g, .int .u64 c.q]), (B, memL c C m), (C, rowW m.ws c.n), (Pa, csa), (Pb, csb)]) (hx := hbb) hS 1 2 3 (Um.setR m a) ((unhide HAa).setR m) rfl rfl rfl (by decide) (by decide) (by decide) (unhide HR) (by unfold Um.Word; decide) (Um.Rok.of (unhide HOA) (unhide HW)) (fun _ => unhide HK1) (by decide) (by decide) 100 (by decide) A (unhide HHA)).mono ?_
      rintro r u ⟨K1, rfl, _, _, _, hOn, cs1, hb1, sb1, hA1, hSn⟩
      clear hS
      have hS := hSn
      clear hSn
      dsimp only [putL, List.set, List.cons_append, List.nil_append] at hS
      have HOA := hide hOn
      clear hOn
      have hz1 := hA1.ended (unhide HP1)
      subst hz1
      have HA1 := hide hA1
      have HAb1 := hide ((unhide HAb).mono (e' := e1 ++ sb1) (fun p hp => List.mem_append_left _ hp))
      clear hA1 HAa HAb
      rw [List.append_nil] at hS
      go_wp2_with fail
      refine (rdEnds_x (c := c) (h := 2) (sl := 1) (ky := 0) (l := [(CF, [.int .i64 c.t, .int .i64 c.s, .int .i64 c.k, .int .i64 c.g, .int .u64 c.q]), (B, memL c C A.m), (C, rowW A.m.ws c.n), (Pa, cs1), (Pb, csb)]) (hx := []) hS 1 2 4 (Um.setR A.m b) ((unhide HAb1).setR A.m) rfl rfl rfl (by decide) (by decide) (by decide) (unhide HR) (by unfold Um.Word; decide) (Um.Rok.of (unhide HOB) (unhide HOA).wd) (fun _ => unhide HK2) (by decide) (by decide) 100 (by decide) E (unhide HHE)).mono ?_
      rintro r u ⟨K2, rfl, _, _, _, hOn, cs2, hb2, sb2, hA2, hSn⟩
      clear hS
      have hS := hSn
      clear hSn
      dsimp only [putL, List.set, List.cons_append, List.nil_append] at hS
      have HOE := hide hOn
      clear hOn
      have hz2 := hA2.ended (unhide HP3)
      subst hz2
      have HA2 := hide hA2
      have HA1b := hide ((unhide HA1).mono (e' := (e1 ++ sb1) ++ sb2) (fun p hp => List.mem_append_left _ hp))
      clear hA2 HA1 HAb1
      go_wp2_with fail
      refine (rAlive_any _).mono ?_
      rintro r u ⟨rfl, hb⟩
      replace hS := hS.call hb
      clear hb
      go_wp2_with fail
      refine (rdDone_any (unhide HA1b) (hS.get 3 rfl)).mono ?_
      rintro r u ⟨rfl, rfl⟩
      rw [unhide HP1]
      go_wp2_with fail
      refine (rdDone_any (unhide HA2) (hS.get 4 rfl)).mono ?_
      rintro r u ⟨rfl, rfl⟩
      rw [unhide HP3]
      go_wp2_with fail
      refine (rdError_any (unhide HA1b) (fun q => by rw [unhide HP1] at q; cases q) (hS.get 3 rfl)).mono ?_
      rintro r u ⟨rfl, rfl⟩
      rw [unhide HP2]
      go_wp2_with fail
      refine (rdError_any (unhide HA2) (fun q => by rw [unhide HP3] at q; cases q) (hS.get 4 rfl)).mono ?_
      rintro r u ⟨rfl, rfl⟩
      rw [unhide HP4]
      go_wp2_with fail
      refine (of12_any 8 0 _).mono ?_
      rintro r u ⟨rfl, hb⟩
      replace hS := hS.call hb
      clear hb
      go_wp2_with fail
      refine (mLoad_x hS 1 2 rfl rfl (by decide) (unhide HR) (unhide HOE).wd 8 0 (by decide) (by decide) m6 (unhide HM6)).mono ?_
      rintro r u ⟨rfl, hWn, hSn⟩
      clear hS
      have hS := hSn
      clear hSn
      dsimp only [putL, List.set, List.cons_append, List.nil_append] at hS
      have HW6 := hide hWn
      clear hWn
      rw [unhide HL6]
      go_wp2_with fail
      refine (of12_any 4 0 _).mono ?_
      rintro r u ⟨rfl, hb⟩
      replace hS := hS.call hb
      clear hb
      go_wp2_with fail
      refine (mLoad_x hS 1 2 rfl rfl (by decide) (unhide HR) (unhide HW6) 4 0 (by decide) (by decide) m7 (unhide HM7)).mono ?_
      rintro r u ⟨rfl, hWn, hSn⟩
      clear hS
      have hS := hSn
      clear hSn
      dsimp only [putL, List.set, List.cons_append, List.nil_append] at hS
      have HW7 := hide hWn
      clear hWn
      rw [unhide HL7]
      go_wp2_with fail
      refine (nw12_2 _).mono ?_
      rintro r u ⟨rfl, hb⟩
      replace hS := hS.call hb
      clear hb
      go_wp2_with fail
      refine (of12_any 4 1 _).mono ?_
      rintro r u ⟨rfl, hb⟩
      replace hS := hS.call hb
      clear hb
      go_wp2_with fail
      refine (mLoad_x hS 1 2 rfl rfl (by decide) (unhide HR) (unhide HW7) 4 1 (by decide) (by decide) m8 (unhide HM8)).mono ?_
      rintro r u ⟨rfl, hWn, hSn⟩
      clear hS
      have hS := hSn
      clear hSn
      dsimp only [putL, List.set, List.cons_append, List.nil_append] at hS
      have HW8 := hide hWn
      clear hWn
      rw [unhide HL8]
      go_wp2_with fail
      refine (nw12_2 _).mono ?_
      rintro r u ⟨rfl, hb⟩
      replace hS := hS.call hb
      clear hb
      have hB := hS.bel
      clear hS
      go_wp2
      go_ret
      exact ⟨rfl, hB⟩

theorem walk {H : Type} {enc : TypeId × Value → H} {base : Nat} {v0 v1 : Value} {d0 d1 : DataW H} {p0 p1 : List MemPlace} (w : World)
    (hv0 : Value.okWide Tryz.prog w .any base 24 v0) (h0 : DataW.Trod enc Tryz.prog w 0 (fun _ => true) true 24 v0 d0 p0)
    (hv1 : Value.okWide Tryz.prog w .any base 76 v1) (h1 : DataW.Trod enc Tryz.prog w 0 (fun _ => true) true 76 v1 d1 p1) :
    Calls Tryz.prog 6 #[v0, v1] w fun e w' => e = .returned (.bool true) ∧ Below w.heap.size w w' := by
  obtain ⟨ct, s, k, g, q, rfl, hsb⟩ := open_cfg hv0 h0
  obtain ⟨la, nl, cl, Z, rfl, hnc, hZ⟩ := open_turns9 hv1 h1
  cases hr : (⟨ct, s, k, g, q⟩ : Um.Cf).r with
  | false => exact walk_wrong w ⟨ct, s, k, g, q⟩ la nl cl hr
  | true =>
    by_cases h2 : s < 2
    · exact walk_one w ⟨ct, s, k, g, q⟩ la nl cl hr h2
    by_cases hb : 100 < nl
    · exact walk_long w ⟨ct, s, k, g, q⟩ la nl cl hr h2 hb
    exact walk_right w ⟨ct, s, k, g, q⟩ la nl cl Z hr h2 hb hnc hZ

set_option maxRecDepth 100000 in
theorem lifted (os : Os) (started : os.Started) (H : Type) (enc : TypeId × Value → H) :
    ReturnsInHanded {} Tryz.checked os 6 .any (Rows.readTwoSpec.pre6 enc Tryz.prog Tryz.f6 Rows.readTwoRow.domain false) (Rows.readTwoSpec.post enc Tryz.prog Tryz.f6 false true false false) := by
  refine returnsInHanded_of_change (C := Tryz.checked) own started (by kernel_rfl) Tryz.func6
    (ChangeSpec.witness6 (enc := enc) (C := Tryz.checked) false ⟨#[], #[.agg #[.int .i64 0, .int .i64 0, .int .i64 0, .int .i64 0, .int .u64 0], .slice none 0 0], []⟩ 8 (by kernel_rfl) (by kernel_rfl) (by kernel_rfl) (by kernel_rfl)) ?_
  intro W base args ds gs before hval0 hW hcnd _
  have hval : ∀ (j : Nat) t v, Tryz.f6.params[j]? = some t → args[j]? = some v → Value.okWide Tryz.prog W .any base t v := hval0
  have hW' := hW
  obtain ⟨p, q, hA0, hV, rfl, hfz, hnd⟩ := hW
  have hA : DataW.TrodAll enc Tryz.prog W 0 (fun _ => true) true Tryz.f6.params.toList args.toList ds p := hA0
  rw [Tryz.params6] at hA hval
  obtain ⟨v0, vs0, d0, ds0, p0, q0, hargs, rfl, rfl, h0, r0⟩ := trodAll_cons hA
  obtain ⟨v1, vs1, d1, ds1, p1, q1, rfl, rfl, rfl, h1, r1⟩ := trodAll_cons r0
  obtain ⟨rfl, rfl, rfl⟩ := trodAll_nil r1
  obtain rfl : args = #[v0, v1] := by cases args; simp_all
  obtain ⟨rfl, rfl⟩ := trodVars_none hV
  have k0 := h0
  have lt0 : ∀ x ∈ p0, x.block < W.heap.size := by obtain ⟨m, hm⟩ := k0; exact DataW.trod_lt m _ _ _ hm
  have k1 := h1
  have lt1 : ∀ x ∈ p1, x.block < W.heap.size := by obtain ⟨m, hm⟩ := k1; exact DataW.trod_lt m _ _ _ hm
  refine (walk W (hval 0 24 v0 rfl rfl) h0 (hval 1 76 v1 rfl rfl) h1).mono fun e W' ⟨he, bel⟩ => ?_
  subst he
  exact ⟨_, rfl, _, _, _, [], _, [], hW', trodAll_mk1 (shut_bool Tryz.underlying4 _), (trodAll_cons_mk (Below.trod laidOut (by kernel_rfl) (of_decide_eq_true (by kernel_rfl)) k0 bel lt0) (trodAll_cons_mk (Below.trod laidOut (by kernel_rfl) (of_decide_eq_true (by kernel_rfl)) k1 bel lt1) trodAll_mk0)), rfl, bel.frame _, fun h => by cases h⟩

theorem ReadTwo_proved : Rows.ReadTwoSaid :=
  OpenClaim.holds_of_wide 6 Tryz.f6 rfl rfl rfl rfl rfl rfl rfl ⟨rfl, rfl, rfl, rfl, rfl⟩ rfl rfl rfl rfl rfl (by kernel_rfl) Tryz.func6 (by kernel_rfl)
    (of_decide_eq_true (by kernel_rfl)) (by unfold Func.isWrapper; first | (rw [if_pos (by decide +kernel)]; kernel_rfl) | (rw [if_neg (by decide +kernel)]; exact ⟨rfl, rfl⟩))
    (fun os started H enc _ => lifted os started H enc)

end Go.Proofs.YtapgghciieloaaaGreat.readTwo
