/-
  For every world's size, words and play, the law ReadTwice answers true: alone, read again, a key changes nothing more. Conditions: none.
-/
import Derived.Test.YtapgghciieloaaaGreatRows
import Derived.Test.YtapgghciieloaaaGreatK12
import Derived.Test.YtapgghciieloaaaGreatK1
import Derived.Test.YtapgghciieloaaaGreatK2
import Derived.Test.YtapgghciieloaaaGreatK5
import Derived.Test.YtapgghciieloaaaGreatK4
import Derived.WalkKit
import Derived.ProofKit
import Derived.OpenShut
import Derived.ShutString
import Derived.LoopTactic
import Derived.Lib.QuietBelow
import Derived.Deep.DeepCutAuto
namespace Go.Proofs.YtapgghciieloaaaGreat.readTwice
set_option maxRecDepth 100000
open Go.ChangeShapes Go.WideShapes Go.ChangeAt Go.RowKit Go.Sort
set_option linter.unusedVariables false
set_option linter.unusedSimpArgs false

theorem own : ownKnob Tryz.prog.godebug = none := by kernel_rfl
theorem laidOut : laidOutB Tryz.prog = true := by kernel_rfl

set_option maxHeartbeats 2000000 in
theorem walk_wrong (w : World) (c : Um.Cf) (a : Option Addr) (n cap : Nat) (x : Nat) (ky st : Int) (la : Option Addr) (nl cl : Nat) (hx : Um.Word x) (h : c.r = false) :
    Calls Tryz.prog 5 #[(.agg #[.int .i64 (c.t), .int .i64 (c.s), .int .i64 (c.k), .int .i64 (c.g), .int .u64 (c.q : Int)]), .slice a n cap, .agg #[.int .u64 (x : Nat), .int .i64 ky, .int .i64 st, .slice la nl cl]] w fun e w' => e = .returned (.bool true) ∧ Below w.heap.size w w' := by
  have HL := hide (fun w => lOf_wrong c a n cap w h)
  clear h
  have HXX := hide hx
  clear hx
  have hS := Sx.new w
  go_enter Tryz.func5, Tryz.ntmps5
  go_wp2_with (first | (refine ybox hS (h := ?_); clear hS; intro _ _ hS) | (refine yall hS (h := ?_); clear hS; intro _ _ hS) | refine yld hS (h := ?_) | (refine yst hS (h := ?_); clear hS; intro _ hS))
  refine ((unhide HL) _).mono ?_
  rintro r u ⟨rfl, hb⟩
  replace hS := hS.call hb
  clear hb HL
  go_upto_region 2 with (first | (refine ybox hS (h := ?_); clear hS; intro _ _ hS) | (refine yall hS (h := ?_); clear hS; intro _ _ hS) | refine yld hS (h := ?_) | (refine yst hS (h := ?_); clear hS; intro _ hS))
  obtain ⟨CF, rfl⟩ := nameB hS 0 rfl
  obtain ⟨PL, rfl⟩ := nameB hS 1 rfl
  go_cut [9, 10, 11] (fun s9 s10 s11 wx => s9 = .bool false ∧ (∃ Pa Pb, s10 = .pointer (some ⟨Pa, 0, none⟩) ∧ s11 = .pointer (some ⟨Pb, 0, none⟩)) ∧ Below w.heap.size w wx)
  case first =>
    have k0 := fun w1 (hq : (BlkAt w1 CF [.int .i64 c.t, .int .i64 c.s, .int .i64 c.k, .int .i64 c.g, .int .u64 c.q] ∧ BlkAt w1 PL [.int .u64 (x : Nat), .int .i64 ky, .int .i64 st, .slice la nl cl])) => hq.1.cell 0 _ rfl
    have k1 := fun w1 (hq : (BlkAt w1 CF [.int .i64 c.t, .int .i64 c.s, .int .i64 c.k, .int .i64 c.g, .int .u64 c.q] ∧ BlkAt w1 PL [.int .u64 (x : Nat), .int .i64 ky, .int .i64 st, .slice la nl cl])) => hq.1.cell 1 _ rfl
    have k2 := fun w1 (hq : (BlkAt w1 CF [.int .i64 c.t, .int .i64 c.s, .int .i64 c.k, .int .i64 c.g, .int .u64 c.q] ∧ BlkAt w1 PL [.int .u64 (x : Nat), .int .i64 ky, .int .i64 st, .slice la nl cl])) => hq.1.cell 2 _ rfl
    have k3 := fun w1 (hq : (BlkAt w1 CF [.int .i64 c.t, .int .i64 c.s, .int .i64 c.k, .int .i64 c.g, .int .u64 c.q] ∧ BlkAt w1 PL [.int .u64 (x : Nat), .int .i64 ky, .int .i64 st, .slice la nl cl])) => hq.1.cell 3 _ rfl
    have k4 := fun w1 (hq : (BlkAt w1 CF [.int .i64 c.t, .int .i64 c.s, .int .i64 c.k, .int .i64 c.g, .int .u64 c.q] ∧ BlkAt w1 PL [.int .u64 (x : Nat), .int .i64 ky, .int .i64 st, .slice la nl cl])) => hq.1.cell 4 _ rfl
    have k5 := fun w1 (hq : (BlkAt w1 CF [.int .i64 c.t, .int .i64 c.s, .int .i64 c.k, .int .i64 c.g, .int .u64 c.q] ∧ BlkAt w1 PL [.int .u64 (x : Nat), .int .i64 ky, .int .i64 st, .slice la nl cl])) => hq.2.cell 0 _ rfl
    have k6 := fun w1 (hq : (BlkAt w1 CF [.int .i64 c.t, .int .i64 c.s, .int .i64 c.k, .int .i64 c.g, .int .u64 c.q] ∧ BlkAt w1 PL [.int .u64 (x : Nat), .int .i64 ky, .int .i64 st, .slice la nl cl])) => hq.2.cell 1 _ rfl
    have HP := hide (And.intro (hS.get 0 rfl) (hS.get 1 rfl))
    have HS3 := hide hS
    clear hS
    go_region_held3 (fun w1 => (BlkAt w1 CF [.int .i64 c.t, .int .i64 c.s, .int .i64 c.k, .int .i64 c.g, .int .u64 c.q] ∧ BlkAt w1 PL [.int .u64 (x : Nat), .int .i64 ky, .int .i64 st, .slice la nl cl])) (first | exact ⟨(unhide HP).1.drew, (unhide HP).2.drew⟩ | exact hPn | assumption) (first | (go_at_call 11; refine (rdNew_p (by first | exact hSa | exact (unhide HS3).drew) c _ _ (unhide HXX) ⟨fun _ => 0, 0, Um.noT⟩).mono ?_; rintro e u5 ⟨Pn, csn, hbn, sbn, rfl, hAn, hSa⟩; have hPn := And.intro (hSa.get 0 rfl) (hSa.get 1 rfl)))
    all_goals
      go_wp2_with fail
      go_meet
      exact ⟨rfl, ⟨_, _, rfl, rfl⟩, hSa.bel⟩
  case rest =>
  clear hS
  obtain ⟨rfl, ⟨Pa, Pb, rfl, rfl⟩, hbw⟩ := hcut
  have hS := (Sx.new w).call hbw
  clear hbw
  go_wp2_with fail
  refine (rAlive_any _).mono ?_
  rintro r u ⟨rfl, hb⟩
  replace hS := hS.call hb
  have hB := hS.bel
  clear hb hS
  go_wp2
  go_ret
  exact ⟨rfl, hB⟩

set_option maxHeartbeats 2000000 in
theorem walk_short (w : World) (c : Um.Cf) (a : Option Addr) (n cap : Nat) (x : Nat) (ky st : Int) (la : Option Addr) (nl cl : Nat) (hx : Um.Word x) (h : c.r = true) (hn : n ≠ c.n) :
    Calls Tryz.prog 5 #[(.agg #[.int .i64 (c.t), .int .i64 (c.s), .int .i64 (c.k), .int .i64 (c.g), .int .u64 (c.q : Int)]), .slice a n cap, .agg #[.int .u64 (x : Nat), .int .i64 ky, .int .i64 st, .slice la nl cl]] w fun e w' => e = .returned (.bool true) ∧ Below w.heap.size w w' := by
  have HL := hide (fun w => lOf_short c a n cap w h hn)
  clear h hn
  have HXX := hide hx
  clear hx
  have hS := Sx.new w
  go_enter Tryz.func5, Tryz.ntmps5
  go_wp2_with (first | (refine ybox hS (h := ?_); clear hS; intro _ _ hS) | (refine yall hS (h := ?_); clear hS; intro _ _ hS) | refine yld hS (h := ?_) | (refine yst hS (h := ?_); clear hS; intro _ hS))
  refine ((unhide HL) _).mono ?_
  rintro r u ⟨rfl, hb⟩
  replace hS := hS.call hb
  clear hb HL
  go_upto_region 2 with (first | (refine ybox hS (h := ?_); clear hS; intro _ _ hS) | (refine yall hS (h := ?_); clear hS; intro _ _ hS) | refine yld hS (h := ?_) | (refine yst hS (h := ?_); clear hS; intro _ hS))
  obtain ⟨CF, rfl⟩ := nameB hS 0 rfl
  obtain ⟨PL, rfl⟩ := nameB hS 1 rfl
  go_cut [9, 10, 11] (fun s9 s10 s11 wx => s9 = .bool false ∧ (∃ Pa Pb, s10 = .pointer (some ⟨Pa, 0, none⟩) ∧ s11 = .pointer (some ⟨Pb, 0, none⟩)) ∧ Below w.heap.size w wx)
  case first =>
    have k0 := fun w1 (hq : (BlkAt w1 CF [.int .i64 c.t, .int .i64 c.s, .int .i64 c.k, .int .i64 c.g, .int .u64 c.q] ∧ BlkAt w1 PL [.int .u64 (x : Nat), .int .i64 ky, .int .i64 st, .slice la nl cl])) => hq.1.cell 0 _ rfl
    have k1 := fun w1 (hq : (BlkAt w1 CF [.int .i64 c.t, .int .i64 c.s, .int .i64 c.k, .int .i64 c.g, .int .u64 c.q] ∧ BlkAt w1 PL [.int .u64 (x : Nat), .int .i64 ky, .int .i64 st, .slice la nl cl])) => hq.1.cell 1 _ rfl
    have k2 := fun w1 (hq : (BlkAt w1 CF [.int .i64 c.t, .int .i64 c.s, .int .i64 c.k, .int .i64 c.g, .int .u64 c.q] ∧ BlkAt w1 PL [.int .u64 (x : Nat), .int .i64 ky, .int .i64 st, .slice la nl cl])) => hq.1.cell 2 _ rfl
    have k3 := fun w1 (hq : (BlkAt w1 CF [.int .i64 c.t, .int .i64 c.s, .int .i64 c.k, .int .i64 c.g, .int .u64 c.q] ∧ BlkAt w1 PL [.int .u64 (x : Nat), .int .i64 ky, .int .i64 st, .slice la nl cl])) => hq.1.cell 3 _ rfl
    have k4 := fun w1 (hq : (BlkAt w1 CF [.int .i64 c.t, .int .i64 c.s, .int .i64 c.k, .int .i64 c.g, .int .u64 c.q] ∧ BlkAt w1 PL [.int .u64 (x : Nat), .int .i64 ky, .int .i64 st, .slice la nl cl])) => hq.1.cell 4 _ rfl
    have k5 := fun w1 (hq : (BlkAt w1 CF [.int .i64 c.t, .int .i64 c.s, .int .i64 c.k, .int .i64 c.g, .int .u64 c.q] ∧ BlkAt w1 PL [.int .u64 (x : Nat), .int .i64 ky, .int .i64 st, .slice la nl cl])) => hq.2.cell 0 _ rfl
    have k6 := fun w1 (hq : (BlkAt w1 CF [.int .i64 c.t, .int .i64 c.s, .int .i64 c.k, .int .i64 c.g, .int .u64 c.q] ∧ BlkAt w1 PL [.int .u64 (x : Nat), .int .i64 ky, .int .i64 st, .slice la nl cl])) => hq.2.cell 1 _ rfl
    have HP := hide (And.intro (hS.get 0 rfl) (hS.get 1 rfl))
    have HS3 := hide hS
    clear hS
    go_region_held3 (fun w1 => (BlkAt w1 CF [.int .i64 c.t, .int .i64 c.s, .int .i64 c.k, .int .i64 c.g, .int .u64 c.q] ∧ BlkAt w1 PL [.int .u64 (x : Nat), .int .i64 ky, .int .i64 st, .slice la nl cl])) (first | exact ⟨(unhide HP).1.drew, (unhide HP).2.drew⟩ | exact hPn | assumption) (first | (go_at_call 11; refine (rdNew_p (by first | exact hSa | exact (unhide HS3).drew) c _ _ (unhide HXX) ⟨fun _ => 0, 0, Um.noT⟩).mono ?_; rintro e u5 ⟨Pn, csn, hbn, sbn, rfl, hAn, hSa⟩; have hPn := And.intro (hSa.get 0 rfl) (hSa.get 1 rfl)))
    all_goals
      go_wp2_with fail
      go_meet
      exact ⟨rfl, ⟨_, _, rfl, rfl⟩, hSa.bel⟩
  case rest =>
  clear hS
  obtain ⟨rfl, ⟨Pa, Pb, rfl, rfl⟩, hbw⟩ := hcut
  have hS := (Sx.new w).call hbw
  clear hbw
  go_wp2_with fail
  refine (rAlive_any _).mono ?_
  rintro r u ⟨rfl, hb⟩
  replace hS := hS.call hb
  have hB := hS.bel
  clear hb hS
  go_wp2
  go_ret
  exact ⟨rfl, hB⟩

set_option maxRecDepth 100000 in
set_option maxHeartbeats 16000000 in
theorem walk_right (w : World) (c : Um.Cf) (v : Value) (ws : Nat → Nat) (x : Nat) (ky st : Int) (la : Option Addr) (nl cl : Nat) (h : c.r = true) (hv : IsWords w v c.n ws) (hx : Um.Word x) (hkb : -9223372036854775808 ≤ ky ∧ ky ≤ 9223372036854775807) :
    Calls Tryz.prog 5 #[(.agg #[.int .i64 (c.t), .int .i64 (c.s), .int .i64 (c.k), .int .i64 (c.g), .int .u64 (c.q : Int)]), v, .agg #[.int .u64 (x : Nat), .int .i64 ky, .int .i64 st, .slice la nl cl]] w fun e w' => e = .returned (.bool true) ∧ Below w.heap.size w w' := by
  obtain ⟨m0, hm0⟩ : ∃ m0 : Um.Mm, m0 = (⟨ws, 0, Um.noT⟩ : Um.Mm) := ⟨_, rfl⟩
  have hws0 : m0.ws = ws := by rw [hm0]
  obtain ⟨A, hA⟩ : ∃ A, A = Um.rdit c x inn12 ky (Um.svN x) (Um.rdbeg c x ky m0) 300 := ⟨_, rfl⟩
  obtain ⟨D, hD⟩ : ∃ D, D = Um.rdit c x inn12 ky (Um.svN x) (Um.rdbeg c x ky A.m) 300 := ⟨_, rfl⟩
  obtain ⟨a1, a2⟩ := Um.rd_all h m0 (by decide) A hA
  obtain ⟨d1, d2⟩ := Um.rd_all h A.m (by decide) D hD
  obtain ⟨t1, t2, t3⟩ := Um.twice_all h (show inn12 5 = false by decide +kernel) a2 d2
  have HT1 := hide t1
  have HT2 := hide t2
  have HT3 := hide t3
  have HAD := hide a1
  have HDD := hide d1
  have HHA := hide hA
  have HHD := hide hD
  have HXX := hide hx
  have HKB := hide hkb
  have hsv := Um.sv_range x
  have HSB := hide (show -9223372036854775808 ≤ Um.svN x ∧ Um.svN x ≤ 9223372036854775807 by omega)
  have HNP := hide (show 0 < c.n from by have := Um.Cf.n_pos h; omega)
  clear a1 a2 d1 d2 t1 t2 t3 hA hD hx hkb hsv
  have HR := hide h
  have HV := hide hv
  have hn := c.n_le
  obtain ⟨sv, scap, rfl⟩ := words_len hv
  clear hv h
  have hS := Sx.new w
  go_enter Tryz.func5, Tryz.ntmps5
  go_wp2_with (first | (refine ybox hS (h := ?_); clear hS; intro _ _ hS) | (refine yall hS (h := ?_); clear hS; intro _ _ hS) | refine yld hS (h := ?_) | (refine yst hS (h := ?_); clear hS; intro _ hS))
  refine (lOf_x hS c _ ws (unhide HR) (((unhide HV).low.below hS.bel).is hS.bel.size)).mono ?_
  rintro r u ⟨B, C, g, cg, rfl, hc1, hc2, hWn, hSn⟩
  clear hS
  have hS := hSn
  clear hSn
  dsimp only [putL, List.set, List.cons_append, List.nil_append] at hS
  have HW0 := hide hWn
  clear hWn
  have hC0 : (C, rowW ws c.n) = (C, rowW m0.ws c.n) := by rw [hws0]
  rw [hC0, ← hm0] at hS
  have HW1 := hide (show WordsOk c m0 by rw [hm0]; exact unhide HW0)
  clear hC0 hm0 hws0 HW0
  go_upto_region 2 with (first | (refine ybox hS (h := ?_); clear hS; intro _ _ hS) | (refine yall hS (h := ?_); clear hS; intro _ _ hS) | refine yld hS (h := ?_) | (refine yst hS (h := ?_); clear hS; intro _ hS))
  have hS2 := (hS.sublist (l' := [_, _, _, _]) (.cons_cons _ (.cons_cons _ (.cons_cons _ (.cons_cons _ (.cons _ .slnil)))))).noE
  clear hS
  have hS := hS2
  clear hS2
  obtain ⟨CF, rfl⟩ := nameB hS 0 rfl
  obtain ⟨PL, rfl⟩ := nameB hS 1 rfl
  go_cut [7, 9, 10, 11] (fun s7 s9 s10 s11 wx => s7 = .pointer (some ⟨B, 0, none⟩) ∧ s9 = .bool true ∧ ∃ Pa Pb csa csb hba hbb sa sb, s10 = .pointer (some ⟨Pa, 0, none⟩) ∧ s11 = .pointer (some ⟨Pb, 0, none⟩) ∧ RdAt Pa x ky (Um.svN x) sa (Um.rdbeg c x ky m0) csa hba ∧ RdAt Pb x ky (Um.svN x) sb (Um.rdbeg c x ky m0) csb hbb ∧ Sx [] w wx (([(CF, [.int .i64 c.t, .int .i64 c.s, .int .i64 c.k, .int .i64 c.g, .int .u64 c.q]), (PL, [.int .u64 (x : Nat), .int .i64 ky, .int .i64 st, .slice la nl cl]), (B, memL c C m0), (C, rowW m0.ws c.n)] ++ ((Pa, csa) :: hba)) ++ ((Pb, csb) :: hbb)) (([] ++ sa) ++ sb))
  case first =>
    have k0 := fun w1 (hq : (BlkAt w1 CF [.int .i64 c.t, .int .i64 c.s, .int .i64 c.k, .int .i64 c.g, .int .u64 c.q] ∧ BlkAt w1 PL [.int .u64 (x : Nat), .int .i64 ky, .int .i64 st, .slice la nl cl])) => hq.1.cell 0 _ rfl
    have k1 := fun w1 (hq : (BlkAt w1 CF [.int .i64 c.t, .int .i64 c.s, .int .i64 c.k, .int .i64 c.g, .int .u64 c.q] ∧ BlkAt w1 PL [.int .u64 (x : Nat), .int .i64 ky, .int .i64 st, .slice la nl cl])) => hq.1.cell 1 _ rfl
    have k2 := fun w1 (hq : (BlkAt w1 CF [.int .i64 c.t, .int .i64 c.s, .int .i64 c.k, .int .i64 c.g, .int .u64 c.q] ∧ BlkAt w1 PL [.int .u64 (x : Nat), .int .i64 ky, .int .i64 st, .slice la nl cl])) => hq.1.cell 2 _ rfl
    have k3 := fun w1 (hq : (BlkAt w1 CF [.int .i64 c.t, .int .i64 c.s, .int .i64 c.k, .int .i64 c.g, .int .u64 c.q] ∧ BlkAt w1 PL [.int .u64 (x : Nat), .int .i64 ky, .int .i64 st, .slice la nl cl])) => hq.1.cell 3 _ rfl
    have k4 := fun w1 (hq : (BlkAt w1 CF [.int .i64 c.t, .int .i64 c.s, .int .i64 c.k, .int .i64 c.g, .int .u64 c.q] ∧ BlkAt w1 PL [.int .u64 (x : Nat), .int .i64 ky, .int .i64 st, .slice la nl cl])) => hq.1.cell 4 _ rfl
    have k5 := fun w1 (hq : (BlkAt w1 CF [.int .i64 c.t, .int .i64 c.s, .int .i64 c.k, .int .i64 c.g, .int .u64 c.q] ∧ BlkAt w1 PL [.int .u64 (x : Nat), .int .i64 ky, .int .i64 st, .slice la nl cl])) => hq.2.cell 0 _ rfl
    have k6 := fun w1 (hq : (BlkAt w1 CF [.int .i64 c.t, .int .i64 c.s, .int .i64 c.k, .int .i64 c.g, .int .u64 c.q] ∧ BlkAt w1 PL [.int .u64 (x : Nat), .int .i64 ky, .int .i64 st, .slice la nl cl])) => hq.2.cell 1 _ rfl
    have HP := hide (And.intro (hS.get 0 rfl) (hS.get 1 rfl))
    have HS3 := hide hS
    clear hS
    go_region_held3 (fun w1 => (BlkAt w1 CF [.int .i64 c.t, .int .i64 c.s, .int .i64 c.k, .int .i64 c.g, .int .u64 c.q] ∧ BlkAt w1 PL [.int .u64 (x : Nat), .int .i64 ky, .int .i64 st, .slice la nl cl])) (first | exact ⟨(unhide HP).1.drew, (unhide HP).2.drew⟩ | exact hPn | assumption) (first | (go_at_call 11; refine (rdNew_p (by first | exact hSa | exact (unhide HS3).drew) c _ _ (unhide HXX) m0).mono ?_; rintro e u5 ⟨Pn, csn, hbn, sbn, rfl, hAn, hSa⟩; have hPn := And.intro (hSa.get 0 rfl) (hSa.get 1 rfl)))
    all_goals
      go_wp2_with fail
      go_meet
      refine ⟨rfl, rfl, _, _, _, _, _, _, _, _, rfl, rfl, by assumption, by assumption, ?_⟩
      first | exact hSa | exact hSa.two12l
  case rest =>
  clear hS
  obtain ⟨rfl, rfl, Pa, Pb, csa, csb, hba, hbb, sa, sb, rfl, rfl, hAa, hAb, hS⟩ := hcut
  have hS2 := hS.perm12 perm_can
  clear hS
  have hS := hS2.perm12 perm_two
  clear hS2
  have hAa2 := hAa.mono (e' := ([] ++ sa) ++ sb) (fun p hp => by simp [hp])
  have hAb2 := (hAb.beg A.m).mono (e' := ([] ++ sa) ++ sb) (fun p hp => by simp [hp])
  have HAa := hide hAa2
  have HAb := hide hAb2
  clear hAa hAb hAa2 hAb2
  generalize ([] ++ sa) ++ sb = e1 at hS HAa HAb
  dsimp only [List.cons_append, List.nil_append] at hS
  go_wp2_with fail
  refine (rdEnds_x (c := c) (h := x) (sl := Um.svN x) (ky := ky) (l := [(CF, [.int .i64 c.t, .int .i64 c.s, .int .i64 c.k, .int .i64 c.g, .int .u64 c.q]), (PL, [.int .u64 (x : Nat), .int .i64 ky, .int .i64 st, .slice la nl cl]), (B, memL c C m0), (C, rowW m0.ws c.n), (Pa, csa), (Pb, csb)]) (hx := hbb) hS 2 3 4 (Um.rdbeg c x ky m0) (unhide HAa) (by rw [Um.rdbeg_m]; rfl) (by rw [Um.rdbeg_m]; rfl) rfl (by decide) (by decide) (by decide) (unhide HR) (unhide HXX) (Um.rok_beg (unhide HW1)) (rdbeg_ook (h := x) (ky := ky)) (unhide HSB) (unhide HKB) 300 (by decide) A (unhide HHA)).mono ?_
  rintro r u ⟨K1, rfl, _, _, _, hOn, cs1, hb1, sb1, hA1, hSn⟩
  clear hS
  have hS := hSn
  clear hSn
  dsimp only [putL, List.set, List.cons_append, List.nil_append] at hS
  have HOA := hide hOn
  clear hOn
  have hz1 := hA1.ended (unhide HAD)
  subst hz1
  have HA1 := hide hA1
  have HAb1 := hide ((unhide HAb).mono (e' := e1 ++ sb1) (fun p hp => List.mem_append_left _ hp))
  clear hA1 HAa HAb
  rw [List.append_nil] at hS
  go_wp2_with fail
  refine (cells_x hS 2 3 rfl rfl (by decide) (unhide HR) (unhide HOA).wd).mono ?_
  rintro r u ⟨X1, rfl, hSn⟩
  clear hS
  have hS := hSn
  clear hSn
  dsimp only [putL, List.set, List.cons_append, List.nil_append] at hS
  have hS2 := hS.perm12 (l' := [(CF, [.int .i64 c.t, .int .i64 c.s, .int .i64 c.k, .int .i64 c.g, .int .u64 c.q]), (PL, [.int .u64 (x : Nat), .int .i64 ky, .int .i64 st, .slice la nl cl]), (B, memL c C A.m), (C, rowW A.m.ws c.n), (Pa, cs1), (Pb, csb)] ++ ([(X1, rowW A.m.ws c.n)] ++ hbb)) (List.Perm.append_left _ List.perm_append_comm)
  clear hS
  have hS := hS2
  clear hS2
  go_wp2_with fail
  refine (rdEnds_x (c := c) (h := x) (sl := Um.svN x) (ky := ky) (l := [(CF, [.int .i64 c.t, .int .i64 c.s, .int .i64 c.k, .int .i64 c.g, .int .u64 c.q]), (PL, [.int .u64 (x : Nat), .int .i64 ky, .int .i64 st, .slice la nl cl]), (B, memL c C A.m), (C, rowW A.m.ws c.n), (Pa, cs1), (Pb, csb)]) (hx := [(X1, rowW A.m.ws c.n)]) hS 2 3 5 (Um.rdbeg c x ky A.m) (unhide HAb1) (by rw [Um.rdbeg_m]; rfl) (by rw [Um.rdbeg_m]; rfl) rfl (by decide) (by decide) (by decide) (unhide HR) (unhide HXX) (Um.rok_beg (unhide HOA).wd) (rdbeg_ook (h := x) (ky := ky)) (unhide HSB) (unhide HKB) 300 (by decide) D (unhide HHD)).mono ?_
  rintro r u ⟨K2, rfl, _, _, _, hOn, cs2, hb2, sb2, hA2, hSn⟩
  clear hS
  have hS := hSn
  clear hSn
  dsimp only [putL, List.set, List.cons_append, List.nil_append] at hS
  have HOD := hide hOn
  clear hOn
  have hz2 := hA2.ended (unhide HDD)
  subst hz2
  have HA2 := hide hA2
  clear hA2
  go_wp2_with fail
  have HA1b := hide ((unhide HA1).mono (e' := (e1 ++ sb1) ++ sb2) (fun p hp => List.mem_append_left _ hp))
  refine (rdError_any (unhide HA1b) (fun q => by rw [unhide HAD] at q; cases q) (hS.get 4 rfl)).mono ?_
  rintro r u ⟨rfl, rfl⟩
  by_cases hz : A.e = 0
  · have hE2 := (unhide HT2) hz
    rw [hz]
    clear hz
    go_wp2_with fail
    refine (rAlive_any _).mono ?_
    rintro r u ⟨rfl, hb⟩
    replace hS := hS.call hb
    clear hb
    go_wp2_with fail
    refine (rdError_any (unhide HA2) (fun q => by rw [unhide HDD] at q; cases q) (hS.get 5 rfl)).mono ?_
    rintro r u ⟨rfl, rfl⟩
    rw [hE2]
    go_wp2_with fail
    refine (cells_x hS 2 3 rfl rfl (by decide) (unhide HR) (unhide HOD).wd).mono ?_
    rintro r u ⟨X2, rfl, hSn⟩
    clear hS
    have hS := hSn
    clear hSn
    dsimp only [putL, List.set, List.cons_append, List.nil_append] at hS
    go_wp2_with fail
    have hmx : c.n ≤ maxLen := Nat.le_trans hn (by decide)
    refine (rSame_true (isWords_blk (hS.get 7 rfl) (unhide HNP) hmx (unhide HOD).wd) (isWords_blk (hS.get 6 rfl) (unhide HNP) hmx (unhide HOA).wd) (by omega) (fun j _ => by rw [unhide HT1])).mono ?_
    rintro r u ⟨rfl, hb⟩
    replace hS := hS.call hb
    have hB := hS.bel
    clear hb hS
    go_wp2
    go_ret
    exact ⟨rfl, hB⟩
  · have hE2 := (unhide HT3) hz
    obtain ⟨ea, hea⟩ : ∃ ea, ea = A.e := ⟨_, rfl⟩
    rw [← hea] at hz ⊢
    clear hea
    have hz2 : (ea == 0) = false := by simpa using hz
    go_wp2_with fail
    refine (rAlive_any _).mono ?_
    rintro r u ⟨rfl, hb⟩
    replace hS := hS.call hb
    clear hb
    go_wp2_with fail
    refine (rdDone_any (unhide HA2) (hS.get 5 rfl)).mono ?_
    rintro r u ⟨rfl, rfl⟩
    rw [unhide HDD]
    go_wp2_with fail
    refine (rdError_any (unhide HA2) (fun q => by rw [unhide HDD] at q; cases q) (hS.get 5 rfl)).mono ?_
    rintro r u ⟨rfl, rfl⟩
    obtain ⟨ee, hee⟩ : ∃ ee, ee = D.e := ⟨_, rfl⟩
    rw [← hee] at hE2 ⊢
    clear hee
    have hE3 : (ee != 0) = true := by simpa using hE2
    go_wp2_with fail
    refine (cells_x hS 2 3 rfl rfl (by decide) (unhide HR) (unhide HOD).wd).mono ?_
    rintro r u ⟨X2, rfl, hSn⟩
    clear hS
    have hS := hSn
    clear hSn
    dsimp only [putL, List.set, List.cons_append, List.nil_append] at hS
    go_wp2_with fail
    have hmx : c.n ≤ maxLen := Nat.le_trans hn (by decide)
    refine (rSame_true (isWords_blk (hS.get 7 rfl) (unhide HNP) hmx (unhide HOD).wd) (isWords_blk (hS.get 6 rfl) (unhide HNP) hmx (unhide HOA).wd) (by omega) (fun j _ => by rw [unhide HT1])).mono ?_
    rintro r u ⟨rfl, hb⟩
    replace hS := hS.call hb
    have hB := hS.bel
    clear hb hS
    go_wp2
    go_ret
    exact ⟨rfl, hB⟩

theorem walk {H : Type} {enc : TypeId × Value → H} {base : Nat} {v0 v1 v2 : Value} {d0 d1 d2 : DataW H} {p0 p1 p2 : List MemPlace} (w : World)
    (hv0 : Value.okWide Tryz.prog w .any base 24 v0) (h0 : DataW.Trod enc Tryz.prog w 0 (fun _ => true) true 24 v0 d0 p0)
    (hv1 : Value.okWide Tryz.prog w .any base 25 v1) (h1 : DataW.Trod enc Tryz.prog w 0 (fun _ => true) true 25 v1 d1 p1)
    (hv2 : Value.okWide Tryz.prog w .any base 28 v2) (h2 : DataW.Trod enc Tryz.prog w 0 (fun _ => true) true 28 v2 d2 p2) :
    Calls Tryz.prog 5 #[v0, v1, v2] w fun e w' => e = .returned (.bool true) ∧ Below w.heap.size w w' := by
  obtain ⟨ct, s, k, g, q, rfl, hsb⟩ := open_cfg hv0 h0
  obtain ⟨n, ws, hI⟩ := open_words hv1 h1
  obtain ⟨x, ky, st, la, nl, cl, Z, rfl, hx, hkb, hnc, hZ⟩ := open_play12 hv2 h2
  cases hr : (⟨ct, s, k, g, q⟩ : Um.Cf).r with
  | false =>
    obtain ⟨sw, cap, rfl⟩ := words_len hI
    exact walk_wrong w ⟨ct, s, k, g, q⟩ sw n cap x ky st la nl cl hx hr
  | true =>
    by_cases hn : n = (⟨ct, s, k, g, q⟩ : Um.Cf).n
    · subst hn
      exact walk_right w ⟨ct, s, k, g, q⟩ v1 ws x ky st la nl cl hr hI hx hkb
    · obtain ⟨sw, cap, rfl⟩ := words_len hI
      exact walk_short w ⟨ct, s, k, g, q⟩ sw n cap x ky st la nl cl hx hr hn

set_option maxRecDepth 100000 in
theorem lifted (os : Os) (started : os.Started) (H : Type) (enc : TypeId × Value → H) :
    ReturnsInHanded {} Tryz.checked os 5 .any (Rows.readTwiceSpec.pre6 enc Tryz.prog Tryz.f5 Rows.readTwiceRow.domain false) (Rows.readTwiceSpec.post enc Tryz.prog Tryz.f5 false true false false) := by
  refine returnsInHanded_of_change (C := Tryz.checked) own started (by kernel_rfl) Tryz.func5
    (ChangeSpec.witness6 (enc := enc) (C := Tryz.checked) false ⟨#[], #[.agg #[.int .i64 0, .int .i64 0, .int .i64 0, .int .i64 0, .int .u64 0], .slice none 0 0, .agg #[.int .u64 0, .int .i64 0, .int .i64 0, .slice none 0 0]], []⟩ 8 (by kernel_rfl) (by kernel_rfl) (by kernel_rfl) (by kernel_rfl)) ?_
  intro W base args ds gs before hval0 hW hcnd _
  have hval : ∀ (j : Nat) t v, Tryz.f5.params[j]? = some t → args[j]? = some v → Value.okWide Tryz.prog W .any base t v := hval0
  have hW' := hW
  obtain ⟨p, q, hA0, hV, rfl, hfz, hnd⟩ := hW
  have hA : DataW.TrodAll enc Tryz.prog W 0 (fun _ => true) true Tryz.f5.params.toList args.toList ds p := hA0
  rw [Tryz.params5] at hA hval
  obtain ⟨v0, vs0, d0, ds0, p0, q0, hargs, rfl, rfl, h0, r0⟩ := trodAll_cons hA
  obtain ⟨v1, vs1, d1, ds1, p1, q1, rfl, rfl, rfl, h1, r1⟩ := trodAll_cons r0
  obtain ⟨v2, vs2, d2, ds2, p2, q2, rfl, rfl, rfl, h2, r2⟩ := trodAll_cons r1
  obtain ⟨rfl, rfl, rfl⟩ := trodAll_nil r2
  obtain rfl : args = #[v0, v1, v2] := by cases args; simp_all
  obtain ⟨rfl, rfl⟩ := trodVars_none hV
  have k0 := h0
  have lt0 : ∀ x ∈ p0, x.block < W.heap.size := by obtain ⟨m, hm⟩ := k0; exact DataW.trod_lt m _ _ _ hm
  have k1 := h1
  have lt1 : ∀ x ∈ p1, x.block < W.heap.size := by obtain ⟨m, hm⟩ := k1; exact DataW.trod_lt m _ _ _ hm
  have k2 := h2
  have lt2 : ∀ x ∈ p2, x.block < W.heap.size := by obtain ⟨m, hm⟩ := k2; exact DataW.trod_lt m _ _ _ hm
  refine (walk W (hval 0 24 v0 rfl rfl) h0 (hval 1 25 v1 rfl rfl) h1 (hval 2 28 v2 rfl rfl) h2).mono fun e W' ⟨he, bel⟩ => ?_
  subst he
  exact ⟨_, rfl, _, _, _, [], _, [], hW', trodAll_mk1 (shut_bool Tryz.underlying4 _), (trodAll_cons_mk (Below.trod laidOut (by kernel_rfl) (of_decide_eq_true (by kernel_rfl)) k0 bel lt0) (trodAll_cons_mk (Below.trod laidOut (by kernel_rfl) (of_decide_eq_true (by kernel_rfl)) k1 bel lt1) (trodAll_cons_mk (Below.trod laidOut (by kernel_rfl) (of_decide_eq_true (by kernel_rfl)) k2 bel lt2) trodAll_mk0))), rfl, bel.frame _, fun h => by cases h⟩

theorem ReadTwice_proved : Rows.ReadTwiceSaid :=
  OpenClaim.holds_of_wide 5 Tryz.f5 rfl rfl rfl rfl rfl rfl rfl ⟨rfl, rfl, rfl, rfl, rfl⟩ rfl rfl rfl rfl rfl (by kernel_rfl) Tryz.func5 (by kernel_rfl)
    (of_decide_eq_true (by kernel_rfl)) (by unfold Func.isWrapper; first | (rw [if_pos (by decide +kernel)]; kernel_rfl) | (rw [if_neg (by decide +kernel)]; exact ⟨rfl, rfl⟩))
    (fun os started H enc _ => lifted os started H enc)

end Go.Proofs.YtapgghciieloaaaGreat.readTwice
