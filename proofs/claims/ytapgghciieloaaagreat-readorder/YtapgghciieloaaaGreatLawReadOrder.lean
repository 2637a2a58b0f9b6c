/-
  For every world's size, words and play, the law ReadOrder answers true: alone, two keys are read, and laid conflicts of, the same in either order; or it fails in both. Conditions: none.
-/
import Derived.Test.YtapgghciieloaaaGreatRows
import Derived.Test.YtapgghciieloaaaGreatK12
import Derived.Test.YtapgghciieloaaaGreatK1
import Derived.Test.YtapgghciieloaaaGreatK2
import Derived.Test.YtapgghciieloaaaGreatK5
import Derived.Test.YtapgghciieloaaaGreatK4
import Derived.WalkKit
import Derived.ProofKit
import Derived.OpenShut
import Derived.ShutString
import Derived.LoopTactic
import Derived.Lib.QuietBelow
import Derived.Deep.DeepCutAuto
namespace Go.Proofs.YtapgghciieloaaaGreat.readOrder
set_option maxRecDepth 100000
open Go.ChangeShapes Go.WideShapes Go.ChangeAt Go.RowKit Go.Sort
set_option linter.unusedVariables false
set_option linter.unusedSimpArgs false

theorem own : ownKnob Tryz.prog.godebug = none := by kernel_rfl
theorem laidOut : laidOutB Tryz.prog = true := by kernel_rfl

set_option maxHeartbeats 2000000 in
theorem walk_wrong (w : World) (c : Um.Cf) (a : Option Addr) (n cap : Nat) (x : Nat) (ky st : Int) (la : Option Addr) (nl cl : Nat) (hx : Um.Word x) (h : c.r = false) :
    Calls Tryz.prog 8 #[(.agg #[.int .i64 (c.t), .int .i64 (c.s), .int .i64 (c.k), .int .i64 (c.g), .int .u64 (c.q : Int)]), .slice a n cap, .agg #[.int .u64 (x : Nat), .int .i64 ky, .int .i64 st, .slice la nl cl]] w fun e w' => e = .returned (.bool true) ∧ Below w.heap.size w w' := by
  have HL := hide (fun w => lOf_wrong c a n cap w h)
  clear h
  have hS := Sx.new w
  go_enter Tryz.func8, Tryz.ntmps8
  go_wp2_with (first | (refine ybox hS (h := ?_); clear hS; intro _ _ hS) | (refine yall hS (h := ?_); clear hS; intro _ _ hS) | refine yld hS (h := ?_) | (refine yst hS (h := ?_); clear hS; intro _ hS))
  refine ((unhide HL) _).mono ?_
  rintro r u ⟨rfl, hb⟩
  replace hS := hS.call hb
  clear hb
  go_wp2_with (first | (refine ybox hS (h := ?_); clear hS; intro _ _ hS) | (refine yall hS (h := ?_); clear hS; intro _ _ hS) | refine yld hS (h := ?_) | (refine yst hS (h := ?_); clear hS; intro _ hS))
  refine ((unhide HL) _).mono ?_
  rintro r u ⟨rfl, hb⟩
  replace hS := hS.call hb
  clear hb
  go_wp2_with (first | (refine ybox hS (h := ?_); clear hS; intro _ _ hS) | (refine yall hS (h := ?_); clear hS; intro _ _ hS) | refine yld hS (h := ?_) | (refine yst hS (h := ?_); clear hS; intro _ hS))
  refine (rAlive_any _).mono ?_
  rintro r u ⟨rfl, hb⟩
  replace hS := hS.call hb
  have hB := hS.bel
  clear hb hS
  go_wp2
  go_ret
  exact ⟨rfl, hB⟩

set_option maxHeartbeats 2000000 in
theorem walk_short (w : World) (c : Um.Cf) (a : Option Addr) (n cap : Nat) (x : Nat) (ky st : Int) (la : Option Addr) (nl cl : Nat) (hx : Um.Word x) (h : c.r = true) (hn : n ≠ c.n) :
    Calls Tryz.prog 8 #[(.agg #[.int .i64 (c.t), .int .i64 (c.s), .int .i64 (c.k), .int .i64 (c.g), .int .u64 (c.q : Int)]), .slice a n cap, .agg #[.int .u64 (x : Nat), .int .i64 ky, .int .i64 st, .slice la nl cl]] w fun e w' => e = .returned (.bool true) ∧ Below w.heap.size w w' := by
  have HL := hide (fun w => lOf_short c a n cap w h hn)
  clear h hn
  have hS := Sx.new w
  go_enter Tryz.func8, Tryz.ntmps8
  go_wp2_with (first | (refine ybox hS (h := ?_); clear hS; intro _ _ hS) | (refine yall hS (h := ?_); clear hS; intro _ _ hS) | refine yld hS (h := ?_) | (refine yst hS (h := ?_); clear hS; intro _ hS))
  refine ((unhide HL) _).mono ?_
  rintro r u ⟨rfl, hb⟩
  replace hS := hS.call hb
  clear hb
  go_wp2_with (first | (refine ybox hS (h := ?_); clear hS; intro _ _ hS) | (refine yall hS (h := ?_); clear hS; intro _ _ hS) | refine yld hS (h := ?_) | (refine yst hS (h := ?_); clear hS; intro _ hS))
  refine ((unhide HL) _).mono ?_
  rintro r u ⟨rfl, hb⟩
  replace hS := hS.call hb
  clear hb
  go_wp2_with (first | (refine ybox hS (h := ?_); clear hS; intro _ _ hS) | (refine yall hS (h := ?_); clear hS; intro _ _ hS) | refine yld hS (h := ?_) | (refine yst hS (h := ?_); clear hS; intro _ hS))
  refine (rAlive_any _).mono ?_
  rintro r u ⟨rfl, hb⟩
  replace hS := hS.call hb
  have hB := hS.bel
  clear hb hS
  go_wp2
  go_ret
  exact ⟨rfl, hB⟩

set_option maxHeartbeats 4000000 in
theorem walk_k1 (w : World) (c : Um.Cf) (v : Value) (ws : Nat → Nat) (x : Nat) (ky st : Int) (la : Option Addr) (nl cl : Nat) (h : c.r = true) (hv : IsWords w v c.n ws) (hx : Um.Word x) (hkb : -9223372036854775808 ≤ ky ∧ ky ≤ 9223372036854775807) (hk : ky < 0) :
    Calls Tryz.prog 8 #[(.agg #[.int .i64 (c.t), .int .i64 (c.s), .int .i64 (c.k), .int .i64 (c.g), .int .u64 (c.q : Int)]), v, .agg #[.int .u64 (x : Nat), .int .i64 ky, .int .i64 st, .slice la nl cl]] w fun e w' => e = .returned (.bool true) ∧ Below w.heap.size w w' := by
  have d1 : decide (ky < 0) = true := decide_eq_true hk
  have HR := hide h
  have HV := hide hv
  obtain ⟨sv, scap, rfl⟩ := words_len hv
  clear hv h
  have hS := Sx.new w
  go_enter Tryz.func8, Tryz.ntmps8
  go_wp2_with (first | (refine ybox hS (h := ?_); clear hS; intro _ _ hS) | (refine yall hS (h := ?_); clear hS; intro _ _ hS) | refine yld hS (h := ?_) | (refine yst hS (h := ?_); clear hS; intro _ hS))
  refine (lOf_x hS c _ ws (unhide HR) (((unhide HV).low.below hS.bel).is hS.bel.size)).mono ?_
  rintro r u ⟨B, C, g, cg, rfl, hc1, hc2, hWn, hSn⟩
  clear hS
  have hS := hSn
  clear hSn
  dsimp only [putL, List.set, List.cons_append, List.nil_append] at hS
  have HW0 := hide hWn
  clear hWn
  go_wp2_with (first | (refine ybox hS (h := ?_); clear hS; intro _ _ hS) | (refine yall hS (h := ?_); clear hS; intro _ _ hS) | refine yld hS (h := ?_) | (refine yst hS (h := ?_); clear hS; intro _ hS))
  refine (lOf_x hS c _ ws (unhide HR) (((unhide HV).low.below hS.bel).is hS.bel.size)).mono ?_
  rintro r u ⟨B2, C2, g2, cg2, rfl, hc3, hc4, hWn, hSn⟩
  clear hS
  have hS := hSn
  clear hSn
  dsimp only [putL, List.set, List.cons_append, List.nil_append] at hS
  have HW2 := hide hWn
  clear hWn
  go_wp2_with (first | (refine ybox hS (h := ?_); clear hS; intro _ _ hS) | (refine yall hS (h := ?_); clear hS; intro _ _ hS) | refine yld hS (h := ?_) | (refine yst hS (h := ?_); clear hS; intro _ hS))
  refine (rAlive_any _).mono ?_
  rintro r u ⟨rfl, hb⟩
  replace hS := hS.call hb
  have hB := hS.bel
  clear hb hS
  go_wp2
  go_ret
  exact ⟨rfl, hB⟩

set_option maxHeartbeats 4000000 in
theorem walk_k2 (w : World) (c : Um.Cf) (v : Value) (ws : Nat → Nat) (x : Nat) (ky st : Int) (la : Option Addr) (nl cl : Nat) (h : c.r = true) (hv : IsWords w v c.n ws) (hx : Um.Word x) (hkb : -9223372036854775808 ≤ ky ∧ ky ≤ 9223372036854775807) (hk : ¬ ky < 0) (hk2 : c.k ≤ ky) :
    Calls Tryz.prog 8 #[(.agg #[.int .i64 (c.t), .int .i64 (c.s), .int .i64 (c.k), .int .i64 (c.g), .int .u64 (c.q : Int)]), v, .agg #[.int .u64 (x : Nat), .int .i64 ky, .int .i64 st, .slice la nl cl]] w fun e w' => e = .returned (.bool true) ∧ Below w.heap.size w w' := by
  have d1 : decide (ky < 0) = false := decide_eq_false hk
  have d2 : decide (c.k ≤ ky) = true := decide_eq_true hk2
  have HR := hide h
  have HV := hide hv
  obtain ⟨sv, scap, rfl⟩ := words_len hv
  clear hv h
  have hS := Sx.new w
  go_enter Tryz.func8, Tryz.ntmps8
  go_wp2_with (first | (refine ybox hS (h := ?_); clear hS; intro _ _ hS) | (refine yall hS (h := ?_); clear hS; intro _ _ hS) | refine yld hS (h := ?_) | (refine yst hS (h := ?_); clear hS; intro _ hS))
  refine (lOf_x hS c _ ws (unhide HR) (((unhide HV).low.below hS.bel).is hS.bel.size)).mono ?_
  rintro r u ⟨B, C, g, cg, rfl, hc1, hc2, hWn, hSn⟩
  clear hS
  have hS := hSn
  clear hSn
  dsimp only [putL, List.set, List.cons_append, List.nil_append] at hS
  have HW0 := hide hWn
  clear hWn
  go_wp2_with (first | (refine ybox hS (h := ?_); clear hS; intro _ _ hS) | (refine yall hS (h := ?_); clear hS; intro _ _ hS) | refine yld hS (h := ?_) | (refine yst hS (h := ?_); clear hS; intro _ hS))
  refine (lOf_x hS c _ ws (unhide HR) (((unhide HV).low.below hS.bel).is hS.bel.size)).mono ?_
  rintro r u ⟨B2, C2, g2, cg2, rfl, hc3, hc4, hWn, hSn⟩
  clear hS
  have hS := hSn
  clear hSn
  dsimp only [putL, List.set, List.cons_append, List.nil_append] at hS
  have HW2 := hide hWn
  clear hWn
  go_wp2_with (first | (refine ybox hS (h := ?_); clear hS; intro _ _ hS) | (refine yall hS (h := ?_); clear hS; intro _ _ hS) | refine yld hS (h := ?_) | (refine yst hS (h := ?_); clear hS; intro _ hS))
  refine (rAlive_any _).mono ?_
  rintro r u ⟨rfl, hb⟩
  replace hS := hS.call hb
  have hB := hS.bel
  clear hb hS
  go_wp2
  go_ret
  exact ⟨rfl, hB⟩

theorem perm_can2 {M R : List (Nat × List Value)} {x y : Nat × List Value} {h1 h2 : List (Nat × List Value)} : ((M ++ [x, y]) ++ (R ++ (h1 ++ h2))).Perm (((M ++ R) ++ (x :: h1)) ++ (y :: h2)) := by
  have p1 : ((M ++ [x, y]) ++ (R ++ (h1 ++ h2))).Perm ((M ++ R) ++ ([x, y] ++ (h1 ++ h2))) := perm_new
  rw [← List.append_assoc (M ++ R)] at p1
  exact p1.trans perm_can

theorem perm_rot {l a b z : List (Nat × List Value)} : (l ++ ((b ++ z) ++ a)).Perm (l ++ ((a ++ b) ++ z)) := by
  rw [List.append_assoc a b z]
  exact perm_two

set_option maxRecDepth 100000 in
set_option maxHeartbeats 16000000 in
theorem walk_right (w : World) (c : Um.Cf) (v : Value) (ws : Nat → Nat) (x : Nat) (ky st : Int) (la : Option Addr) (nl cl : Nat) (h : c.r = true) (hv : IsWords w v c.n ws) (hx : Um.Word x) (hkb : -9223372036854775808 ≤ ky ∧ ky ≤ 9223372036854775807) (hk : ¬ ky < 0) (hk2 : ¬ c.k ≤ ky) :
    Calls Tryz.prog 8 #[(.agg #[.int .i64 (c.t), .int .i64 (c.s), .int .i64 (c.k), .int .i64 (c.g), .int .u64 (c.q : Int)]), v, .agg #[.int .u64 (x : Nat), .int .i64 ky, .int .i64 st, .slice la nl cl]] w fun e w' => e = .returned (.bool true) ∧ Below w.heap.size w w' := by
  have d1 : decide (ky < 0) = false := decide_eq_false hk
  have d2 : decide (c.k ≤ ky) = false := decide_eq_false hk2
  have hcb := c.rb h
  have hk3 : 1 ≤ c.k := by omega
  have hk4 : c.k ≤ 8 := by omega
  obtain ⟨m0, hm0⟩ : ∃ m0 : Um.Mm, m0 = (⟨ws, 0, Um.noT⟩ : Um.Mm) := ⟨_, rfl⟩
  have hws0 : m0.ws = ws := by rw [hm0]
  obtain ⟨A, hA⟩ : ∃ A, A = Um.rdit c x inn12 ky (Um.svN x) (Um.rdbeg c x ky m0) 300 := ⟨_, rfl⟩
  obtain ⟨D, hD⟩ : ∃ D, D = Um.rdit c x inn12 (c.k - 1) (Um.svN x) (Um.rdbeg c x (c.k - 1) A.m) 300 := ⟨_, rfl⟩
  obtain ⟨X, hX⟩ : ∃ X, X = Um.rdit c x inn12 (c.k - 1) (Um.svN x) (Um.rdbeg c x (c.k - 1) m0) 300 := ⟨_, rfl⟩
  obtain ⟨Y, hY⟩ : ∃ Y, Y = Um.rdit c x inn12 ky (Um.svN x) (Um.rdbeg c x ky X.m) 300 := ⟨_, rfl⟩
  obtain ⟨a1, a2⟩ := Um.rd_all h m0 (by decide) A hA
  obtain ⟨e1, e2⟩ := Um.rd_all h A.m (by decide) D hD
  obtain ⟨x1, x2⟩ := Um.rd_all h m0 (by decide) X hX
  obtain ⟨y1, y2⟩ := Um.rd_all h X.m (by decide) Y hY
  obtain ⟨t1, t2⟩ := Um.order_all h (by omega) (by omega) (by omega) (by omega) a2 e2 x2 y2
  have HT1 := hide t1
  have HT2 := hide t2
  have HAD := hide a1
  have HDD := hide e1
  have HXD := hide x1
  have HYD := hide y1
  have HHA := hide hA
  have HHD := hide hD
  have HHX := hide hX
  have HHY := hide hY
  have HXX := hide hx
  have HKB := hide hkb
  have HK1 := hide (show -9223372036854775808 ≤ c.k - 1 ∧ c.k - 1 ≤ 9223372036854775807 by omega)
  have hsv := Um.sv_range x
  have HSB := hide (show -9223372036854775808 ≤ Um.svN x ∧ Um.svN x ≤ 9223372036854775807 by omega)
  have HNP := hide (show 0 < c.n from by have := Um.Cf.n_pos h; omega)
  clear a1 a2 e1 e2 x1 x2 y1 y2 t1 t2 hA hD hX hY hx hkb hsv hcb
  have hn := c.n_le
  have HR := hide h
  have HV := hide hv
  obtain ⟨sv, scap, rfl⟩ := words_len hv
  clear hv h
  have hS := Sx.new w
  go_enter Tryz.func8, Tryz.ntmps8
  go_wp2_with (first | (refine ybox hS (h := ?_); clear hS; intro _ _ hS) | (refine yall hS (h := ?_); clear hS; intro _ _ hS) | refine yld hS (h := ?_) | (refine yst hS (h := ?_); clear hS; intro _ hS))
  refine (lOf_x hS c _ ws (unhide HR) (((unhide HV).low.below hS.bel).is hS.bel.size)).mono ?_
  rintro r u ⟨B, C, g, cg, rfl, hc1, hc2, hWn, hSn⟩
  clear hS
  have hS := hSn
  clear hSn
  dsimp only [putL, List.set, List.cons_append, List.nil_append] at hS
  have HW0 := hide hWn
  clear hWn
  go_wp2_with (first | (refine ybox hS (h := ?_); clear hS; intro _ _ hS) | (refine yall hS (h := ?_); clear hS; intro _ _ hS) | refine yld hS (h := ?_) | (refine yst hS (h := ?_); clear hS; intro _ hS))
  refine (lOf_x hS c _ ws (unhide HR) (((unhide HV).low.below hS.bel).is hS.bel.size)).mono ?_
  rintro r u ⟨B2, C2, g2, cg2, rfl, hc3, hc4, hWn, hSn⟩
  clear hS
  have hS := hSn
  clear hSn
  dsimp only [putL, List.set, List.cons_append, List.nil_append] at hS
  have HW2 := hide hWn
  clear hWn
  have hC0 : (C, rowW ws c.n) = (C, rowW m0.ws c.n) := by rw [hws0]
  have hC2 : (C2, rowW ws c.n) = (C2, rowW m0.ws c.n) := by rw [hws0]
  rw [hC0, hC2, ← hm0] at hS
  have HW1 := hide (show WordsOk c m0 by rw [hm0]; exact unhide HW0)
  clear hC0 hC2 hm0 hws0 HW0 HW2
  go_upto_region 6 with (first | (refine ybox hS (h := ?_); clear hS; intro _ _ hS) | (refine yall hS (h := ?_); clear hS; intro _ _ hS) | refine yld hS (h := ?_) | (refine yst hS (h := ?_); clear hS; intro _ hS))
  clear d1 d2 hk3 hk4
  obtain ⟨CF, rfl⟩ := nameB hS 0 rfl
  obtain ⟨PL, rfl⟩ := nameB hS 1 rfl
  have hS2 := (hS.sublist (l' := [_, _, _, _, _, _]) (.cons_cons _ (.cons_cons _ (.cons_cons _ (.cons_cons _ (.cons _ (.cons_cons _ (.cons_cons _ (.cons _ .slnil))))))))).noE
  clear hS
  have hS := hS2
  clear hS2
  go_cut [3, 5, 7, 10, 13, 14, 15] (fun s3 s5 s7 s10 s13 s14 s15 wx => s3 = .pointer (some ⟨CF, 0, none⟩) ∧ s5 = .pointer (some ⟨PL, 0, none⟩) ∧ s7 = .pointer (some ⟨B, 0, none⟩) ∧ s10 = .pointer (some ⟨B2, 0, none⟩) ∧ s13 = .int .i64 (c.k - 1) ∧ ∃ Pa Pb csa csb hba hbb sa sb, s14 = .pointer (some ⟨Pa, 0, none⟩) ∧ s15 = .pointer (some ⟨Pb, 0, none⟩) ∧ RdAt Pa x ky (Um.svN x) sa (Um.rdbeg c x ky m0) csa hba ∧ RdAt Pb x (c.k - 1) (Um.svN x) sb (Um.rdbeg c x (c.k - 1) m0) csb hbb ∧ Sx [] w wx (([(CF, [.int .i64 c.t, .int .i64 c.s, .int .i64 c.k, .int .i64 c.g, .int .u64 c.q]), (PL, [.int .u64 (x : Nat), .int .i64 ky, .int .i64 st, .slice la nl cl]), (B, memL c C m0), (C, rowW m0.ws c.n), (B2, memL c C2 m0), (C2, rowW m0.ws c.n)] ++ ((Pa, csa) :: hba)) ++ ((Pb, csb) :: hbb)) (([] ++ sa) ++ sb))
  case first =>
    have k0 := fun w1 (hq : (BlkAt w1 CF [.int .i64 c.t, .int .i64 c.s, .int .i64 c.k, .int .i64 c.g, .int .u64 c.q] ∧ BlkAt w1 PL [.int .u64 (x : Nat), .int .i64 ky, .int .i64 st, .slice la nl cl])) => hq.1.cell 0 _ rfl
    have k1 := fun w1 (hq : (BlkAt w1 CF [.int .i64 c.t, .int .i64 c.s, .int .i64 c.k, .int .i64 c.g, .int .u64 c.q] ∧ BlkAt w1 PL [.int .u64 (x : Nat), .int .i64 ky, .int .i64 st, .slice la nl cl])) => hq.1.cell 1 _ rfl
    have k2 := fun w1 (hq : (BlkAt w1 CF [.int .i64 c.t, .int .i64 c.s, .int .i64 c.k, .int .i64 c.g, .int .u64 c.q] ∧ BlkAt w1 PL [.int .u64 (x : Nat), .int .i64 ky, .int .i64 st, .slice la nl cl])) => hq.1.cell 2 _ rfl
    have k3 := fun w1 (hq : (BlkAt w1 CF [.int .i64 c.t, .int .i64 c.s, .int .i64 c.k, .int .i64 c.g, .int .u64 c.q] ∧ BlkAt w1 PL [.int .u64 (x : Nat), .int .i64 ky, .int .i64 st, .slice la nl cl])) => hq.1.cell 3 _ rfl
    have k4 := fun w1 (hq : (BlkAt w1 CF [.int .i64 c.t, .int .i64 c.s, .int .i64 c.k, .int .i64 c.g, .int .u64 c.q] ∧ BlkAt w1 PL [.int .u64 (x : Nat), .int .i64 ky, .int .i64 st, .slice la nl cl])) => hq.1.cell 4 _ rfl
    have k5 := fun w1 (hq : (BlkAt w1 CF [.int .i64 c.t, .int .i64 c.s, .int .i64 c.k, .int .i64 c.g, .int .u64 c.q] ∧ BlkAt w1 PL [.int .u64 (x : Nat), .int .i64 ky, .int .i64 st, .slice la nl cl])) => hq.2.cell 0 _ rfl
    have k6 := fun w1 (hq : (BlkAt w1 CF [.int .i64 c.t, .int .i64 c.s, .int .i64 c.k, .int .i64 c.g, .int .u64 c.q] ∧ BlkAt w1 PL [.int .u64 (x : Nat), .int .i64 ky, .int .i64 st, .slice la nl cl])) => hq.2.cell 1 _ rfl
    have HP := hide (And.intro (hS.get 0 rfl) (hS.get 1 rfl))
    have HS3 := hide hS
    clear hS
    go_region_held3 (fun w1 => (BlkAt w1 CF [.int .i64 c.t, .int .i64 c.s, .int .i64 c.k, .int .i64 c.g, .int .u64 c.q] ∧ BlkAt w1 PL [.int .u64 (x : Nat), .int .i64 ky, .int .i64 st, .slice la nl cl])) (first | exact ⟨(unhide HP).1.drew, (unhide HP).2.drew⟩ | exact hPn | assumption) (first | (go_at_call 11; refine (rdNew_p (by first | exact hSa | exact (unhide HS3).drew) c _ _ (unhide HXX) m0).mono ?_; rintro e u5 ⟨Pn, csn, hbn, sbn, rfl, hAn, hSa⟩; have hPn := And.intro (hSa.get 0 rfl) (hSa.get 1 rfl)))
    all_goals
      go_wp2_with fail
      go_meet
      refine ⟨rfl, rfl, rfl, rfl, rfl, _, _, _, _, _, _, _, _, rfl, rfl, by assumption, by assumption, ?_⟩
      first | exact hSa | exact hSa.two12l
  case rest =>
  clear hS
  obtain ⟨rfl, rfl, rfl, rfl, rfl, Pa, Pb, csa, csb, hba, hbb, sa, sb, rfl, rfl, hAa, hAb, hS⟩ := hcut
  have hS2 := hS.perm12 perm_can
  clear hS
  have hS := hS2
  clear hS2
  have hAa2 := hAa.mono (e' := ([] ++ sa) ++ sb) (fun p hp => by simp [hp])
  have hAb2 := hAb.mono (e' := ([] ++ sa) ++ sb) (fun p hp => by simp [hp])
  have HAa := hide hAa2
  have HAb := hide hAb2
  clear hAa hAb hAa2 hAb2
  generalize ([] ++ sa) ++ sb = ee at hS HAa HAb
  go_upto_region 7 with fail
  go_cut [7, 10, 14, 15, 16, 17] (fun s7 s10 s14 s15 s16 s17 wx => s7 = .pointer (some ⟨B, 0, none⟩) ∧ s10 = .pointer (some ⟨B2, 0, none⟩) ∧ s14 = .pointer (some ⟨Pa, 0, none⟩) ∧ s15 = .pointer (some ⟨Pb, 0, none⟩) ∧ ∃ Px Py csx csy hbx hby sx sy, s16 = .pointer (some ⟨Px, 0, none⟩) ∧ s17 = .pointer (some ⟨Py, 0, none⟩) ∧ RdAt Px x (c.k - 1) (Um.svN x) sx (Um.rdbeg c x (c.k - 1) m0) csx hbx ∧ RdAt Py x ky (Um.svN x) sy (Um.rdbeg c x ky m0) csy hby ∧ Sx [] w wx (((([(CF, [.int .i64 c.t, .int .i64 c.s, .int .i64 c.k, .int .i64 c.g, .int .u64 c.q]), (PL, [.int .u64 (x : Nat), .int .i64 ky, .int .i64 st, .slice la nl cl]), (B, memL c C m0), (C, rowW m0.ws c.n), (B2, memL c C2 m0), (C2, rowW m0.ws c.n)] ++ [(Pa, csa), (Pb, csb)]) ++ (hba ++ hbb)) ++ ((Px, csx) :: hbx)) ++ ((Py, csy) :: hby)) ((ee ++ sx) ++ sy))
  case first =>
    have k0 := fun w1 (hq : (BlkAt w1 CF [.int .i64 c.t, .int .i64 c.s, .int .i64 c.k, .int .i64 c.g, .int .u64 c.q] ∧ BlkAt w1 PL [.int .u64 (x : Nat), .int .i64 ky, .int .i64 st, .slice la nl cl])) => hq.1.cell 0 _ rfl
    have k1 := fun w1 (hq : (BlkAt w1 CF [.int .i64 c.t, .int .i64 c.s, .int .i64 c.k, .int .i64 c.g, .int .u64 c.q] ∧ BlkAt w1 PL [.int .u64 (x : Nat), .int .i64 ky, .int .i64 st, .slice la nl cl])) => hq.1.cell 1 _ rfl
    have k2 := fun w1 (hq : (BlkAt w1 CF [.int .i64 c.t, .int .i64 c.s, .int .i64 c.k, .int .i64 c.g, .int .u64 c.q] ∧ BlkAt w1 PL [.int .u64 (x : Nat), .int .i64 ky, .int .i64 st, .slice la nl cl])) => hq.1.cell 2 _ rfl
    have k3 := fun w1 (hq : (BlkAt w1 CF [.int .i64 c.t, .int .i64 c.s, .int .i64 c.k, .int .i64 c.g, .int .u64 c.q] ∧ BlkAt w1 PL [.int .u64 (x : Nat), .int .i64 ky, .int .i64 st, .slice la nl cl])) => hq.1.cell 3 _ rfl
    have k4 := fun w1 (hq : (BlkAt w1 CF [.int .i64 c.t, .int .i64 c.s, .int .i64 c.k, .int .i64 c.g, .int .u64 c.q] ∧ BlkAt w1 PL [.int .u64 (x : Nat), .int .i64 ky, .int .i64 st, .slice la nl cl])) => hq.1.cell 4 _ rfl
    have k5 := fun w1 (hq : (BlkAt w1 CF [.int .i64 c.t, .int .i64 c.s, .int .i64 c.k, .int .i64 c.g, .int .u64 c.q] ∧ BlkAt w1 PL [.int .u64 (x : Nat), .int .i64 ky, .int .i64 st, .slice la nl cl])) => hq.2.cell 0 _ rfl
    have k6 := fun w1 (hq : (BlkAt w1 CF [.int .i64 c.t, .int .i64 c.s, .int .i64 c.k, .int .i64 c.g, .int .u64 c.q] ∧ BlkAt w1 PL [.int .u64 (x : Nat), .int .i64 ky, .int .i64 st, .slice la nl cl])) => hq.2.cell 1 _ rfl
    have HP := hide (And.intro (hS.get 0 rfl) (hS.get 1 rfl))
    have HS3 := hide hS
    clear hS
    go_region_held3 (fun w1 => (BlkAt w1 CF [.int .i64 c.t, .int .i64 c.s, .int .i64 c.k, .int .i64 c.g, .int .u64 c.q] ∧ BlkAt w1 PL [.int .u64 (x : Nat), .int .i64 ky, .int .i64 st, .slice la nl cl])) (first | exact ⟨(unhide HP).1.drew, (unhide HP).2.drew⟩ | exact hPn | assumption) (first | (go_at_call 11; refine (rdNew_p (by first | exact hSa | exact (unhide HS3).drew) c _ _ (unhide HXX) m0).mono ?_; rintro e u5 ⟨Pn, csn, hbn, sbn, rfl, hAn, hSa⟩; have hPn := And.intro (hSa.get 0 rfl) (hSa.get 1 rfl)))
    all_goals
      go_wp2_with fail
      go_meet
      refine ⟨rfl, rfl, rfl, rfl, _, _, _, _, _, _, _, _, rfl, rfl, by assumption, by assumption, ?_⟩
      first | exact hSa | exact hSa.two12l
  case rest =>
  clear hS
  obtain ⟨rfl, rfl, rfl, rfl, Px, Py, csx, csy, hbx, hby, sx, sy, rfl, rfl, hAx, hAy, hS⟩ := hcut
  have hS2 := (hS.perm12 perm_can2).perm12 perm_rot
  clear hS
  have hS := hS2
  clear hS2
  have HAa1 := hide ((unhide HAa).mono (e' := (ee ++ sx) ++ sy) (fun p hp => by simp [hp]))
  have HAb1 := hide (((unhide HAb).beg A.m).mono (e' := (ee ++ sx) ++ sy) (fun p hp => by simp [hp]))
  have HAx1 := hide (hAx.mono (e' := (ee ++ sx) ++ sy) (fun p hp => by simp [hp]))
  have HAy1 := hide ((hAy.beg X.m).mono (e' := (ee ++ sx) ++ sy) (fun p hp => by simp [hp]))
  clear HAa HAb hAx hAy
  generalize (ee ++ sx) ++ sy = e1 at hS HAa1 HAb1 HAx1 HAy1
  dsimp only [List.cons_append, List.nil_append] at hS
  go_wp2_with fail
  refine (rdEnds_x (c := c) (h := x) (sl := Um.svN x) (ky := ky) (l := [(CF, [.int .i64 c.t, .int .i64 c.s, .int .i64 c.k, .int .i64 c.g, .int .u64 c.q]), (PL, [.int .u64 (x : Nat), .int .i64 ky, .int .i64 st, .slice la nl cl]), (B, memL c C m0), (C, rowW m0.ws c.n), (B2, memL c C2 m0), (C2, rowW m0.ws c.n), (Pa, csa), (Pb, csb), (Px, csx), (Py, csy)]) (hx := (hbb ++ (hbx ++ hby))) hS 2 3 6 (Um.rdbeg c x ky m0) (unhide HAa1) (by rw [Um.rdbeg_m]; rfl) (by rw [Um.rdbeg_m]; rfl) rfl (by decide) (by decide) (by decide) (unhide HR) (unhide HXX) (Um.rok_beg (unhide HW1)) (rdbeg_ook (h := x) (ky := ky)) (unhide HSB) (unhide HKB) 300 (by decide) A (unhide HHA)).mono ?_
  rintro r u ⟨K1, rfl, _, _, _, hOn, cs1, hb1, sb1, hA1, hSn⟩
  clear hS
  have hS := hSn
  clear hSn
  dsimp only [putL, List.set, List.cons_append, List.nil_append] at hS
  have HOA := hide hOn
  clear hOn
  have hz1 := hA1.ended (unhide HAD)
  subst hz1
  have HA1 := hide hA1
  have HBb1 := hide ((unhide HAb1).mono (e' := e1 ++ sb1) (fun p hp => List.mem_append_left _ hp))
  have HBx1 := hide ((unhide HAx1).mono (e' := e1 ++ sb1) (fun p hp => List.mem_append_left _ hp))
  have HBy1 := hide ((unhide HAy1).mono (e' := e1 ++ sb1) (fun p hp => List.mem_append_left _ hp))
  clear hA1 HAa1 HAb1 HAx1 HAy1
  have hS2 := hS.perm12 (l' := [(CF, [.int .i64 c.t, .int .i64 c.s, .int .i64 c.k, .int .i64 c.g, .int .u64 c.q]), (PL, [.int .u64 (x : Nat), .int .i64 ky, .int .i64 st, .slice la nl cl]), (B, memL c C A.m), (C, rowW A.m.ws c.n), (B2, memL c C2 m0), (C2, rowW m0.ws c.n), (Pa, cs1), (Pb, csb), (Px, csx), (Py, csy)] ++ ((hbx ++ hby) ++ hbb)) (by rw [List.append_nil]; exact perm_two)
  clear hS
  have hS := hS2
  clear hS2
  go_wp2_with fail
  refine (rdEnds_x (c := c) (h := x) (sl := Um.svN x) (ky := (c.k - 1)) (l := [(CF, [.int .i64 c.t, .int .i64 c.s, .int .i64 c.k, .int .i64 c.g, .int .u64 c.q]), (PL, [.int .u64 (x : Nat), .int .i64 ky, .int .i64 st, .slice la nl cl]), (B, memL c C A.m), (C, rowW A.m.ws c.n), (B2, memL c C2 m0), (C2, rowW m0.ws c.n), (Pa, cs1), (Pb, csb), (Px, csx), (Py, csy)]) (hx := (hbx ++ hby)) hS 2 3 7 (Um.rdbeg c x (c.k - 1) A.m) (unhide HBb1) (by rw [Um.rdbeg_m]; rfl) (by rw [Um.rdbeg_m]; rfl) rfl (by decide) (by decide) (by decide) (unhide HR) (unhide HXX) (Um.rok_beg (unhide HOA).wd) (rdbeg_ook (h := x) (ky := (c.k - 1))) (unhide HSB) (unhide HK1) 300 (by decide) D (unhide HHD)).mono ?_
  rintro r u ⟨K2, rfl, _, _, _, hOn, cs2, hb2, sb2, hA2, hSn⟩
  clear hS
  have hS := hSn
  clear hSn
  dsimp only [putL, List.set, List.cons_append, List.nil_append] at hS
  have HOD := hide hOn
  clear hOn
  have hz2 := hA2.ended (unhide HDD)
  subst hz2
  have HA2 := hide hA2
  have HCa2 := hide ((unhide HA1).mono (e' := (e1 ++ sb1) ++ sb2) (fun p hp => List.mem_append_left _ hp))
  have HCx2 := hide ((unhide HBx1).mono (e' := (e1 ++ sb1) ++ sb2) (fun p hp => List.mem_append_left _ hp))
  have HCy2 := hide ((unhide HBy1).mono (e' := (e1 ++ sb1) ++ sb2) (fun p hp => List.mem_append_left _ hp))
  clear hA2 HBb1 HA1 HBx1 HBy1
  have hS2 := hS.perm12 (l' := [(CF, [.int .i64 c.t, .int .i64 c.s, .int .i64 c.k, .int .i64 c.g, .int .u64 c.q]), (PL, [.int .u64 (x : Nat), .int .i64 ky, .int .i64 st, .slice la nl cl]), (B, memL c C D.m), (C, rowW D.m.ws c.n), (B2, memL c C2 m0), (C2, rowW m0.ws c.n), (Pa, cs1), (Pb, cs2), (Px, csx), (Py, csy)] ++ (hby ++ hbx)) (by rw [List.append_nil]; exact perm_two)
  clear hS
  have hS := hS2
  clear hS2
  go_wp2_with fail
  refine (rdEnds_x (c := c) (h := x) (sl := Um.svN x) (ky := (c.k - 1)) (l := [(CF, [.int .i64 c.t, .int .i64 c.s, .int .i64 c.k, .int .i64 c.g, .int .u64 c.q]), (PL, [.int .u64 (x : Nat), .int .i64 ky, .int .i64 st, .slice la nl cl]), (B, memL c C D.m), (C, rowW D.m.ws c.n), (B2, memL c C2 m0), (C2, rowW m0.ws c.n), (Pa, cs1), (Pb, cs2), (Px, csx), (Py, csy)]) (hx := hby) hS 4 5 8 (Um.rdbeg c x (c.k - 1) m0) (unhide HCx2) (by rw [Um.rdbeg_m]; rfl) (by rw [Um.rdbeg_m]; rfl) rfl (by decide) (by decide) (by decide) (unhide HR) (unhide HXX) (Um.rok_beg (unhide HW1)) (rdbeg_ook (h := x) (ky := (c.k - 1))) (unhide HSB) (unhide HK1) 300 (by decide) X (unhide HHX)).mono ?_
  rintro r u ⟨K3, rfl, _, _, _, hOn, cs3, hb3, sb3, hA3, hSn⟩
  clear hS
  have hS := hSn
  clear hSn
  dsimp only [putL, List.set, List.cons_append, List.nil_append] at hS
  have HOX := hide hOn
  clear hOn
  have hz3 := hA3.ended (unhide HXD)
  subst hz3
  have HA3 := hide hA3
  have HDa3 := hide ((unhide HCa2).mono (e' := ((e1 ++ sb1) ++ sb2) ++ sb3) (fun p hp => List.mem_append_left _ hp))
  have HDb3 := hide ((unhide HA2).mono (e' := ((e1 ++ sb1) ++ sb2) ++ sb3) (fun p hp => List.mem_append_left _ hp))
  have HDy3 := hide ((unhide HCy2).mono (e' := ((e1 ++ sb1) ++ sb2) ++ sb3) (fun p hp => List.mem_append_left _ hp))
  clear hA3 HCx2 HCa2 HA2 HCy2
  have hS2 := hS.perm12 (l' := [(CF, [.int .i64 c.t, .int .i64 c.s, .int .i64 c.k, .int .i64 c.g, .int .u64 c.q]), (PL, [.int .u64 (x : Nat), .int .i64 ky, .int .i64 st, .slice la nl cl]), (B, memL c C D.m), (C, rowW D.m.ws c.n), (B2, memL c C2 X.m), (C2, rowW X.m.ws c.n), (Pa, cs1), (Pb, cs2), (Px, cs3), (Py, csy)] ++ ([] ++ hby)) (by rw [List.append_nil]; exact List.Perm.refl _)
  clear hS
  have hS := hS2
  clear hS2
  go_wp2_with fail
  refine (rdEnds_x (c := c) (h := x) (sl := Um.svN x) (ky := ky) (l := [(CF, [.int .i64 c.t, .int .i64 c.s, .int .i64 c.k, .int .i64 c.g, .int .u64 c.q]), (PL, [.int .u64 (x : Nat), .int .i64 ky, .int .i64 st, .slice la nl cl]), (B, memL c C D.m), (C, rowW D.m.ws c.n), (B2, memL c C2 X.m), (C2, rowW X.m.ws c.n), (Pa, cs1), (Pb, cs2), (Px, cs3), (Py, csy)]) (hx := []) hS 4 5 9 (Um.rdbeg c x ky X.m) (unhide HDy3) (by rw [Um.rdbeg_m]; rfl) (by rw [Um.rdbeg_m]; rfl) rfl (by decide) (by decide) (by decide) (unhide HR) (unhide HXX) (Um.rok_beg (unhide HOX).wd) (rdbeg_ook (h := x) (ky := ky)) (unhide HSB) (unhide HKB) 300 (by decide) Y (unhide HHY)).mono ?_
  rintro r u ⟨K4, rfl, _, _, _, hOn, cs4, hb4, sb4, hA4, hSn⟩
  clear hS
  have hS := hSn
  clear hSn
  dsimp only [putL, List.set, List.cons_append, List.nil_append] at hS
  have HOY := hide hOn
  clear hOn
  have hz4 := hA4.ended (unhide HYD)
  subst hz4
  have HA4 := hide hA4
  have HEa4 := hide ((unhide HDa3).mono (e' := (((e1 ++ sb1) ++ sb2) ++ sb3) ++ sb4) (fun p hp => List.mem_append_left _ hp))
  have HEb4 := hide ((unhide HDb3).mono (e' := (((e1 ++ sb1) ++ sb2) ++ sb3) ++ sb4) (fun p hp => List.mem_append_left _ hp))
  have HEx4 := hide ((unhide HA3).mono (e' := (((e1 ++ sb1) ++ sb2) ++ sb3) ++ sb4) (fun p hp => List.mem_append_left _ hp))
  clear hA4 HDy3 HDa3 HDb3 HA3
  skip
  go_wp2_with fail
  by_cases ha0 : A.e = 0
  · by_cases hb0 : D.e = 0
    · obtain ⟨hx0, hy0⟩ := (unhide HT1).1 ⟨ha0, hb0⟩
      have HWW := hide ((unhide HT2) ⟨ha0, hb0⟩)
      refine (rdError_any (unhide HEa4) (fun q => by rw [unhide HAD] at q; cases q) (hS.get 6 rfl)).mono ?_
      rintro r u ⟨rfl, rfl⟩
      rw [ha0]
      go_wp2_with fail
      refine (rdError_any (unhide HEb4) (fun q => by rw [unhide HDD] at q; cases q) (hS.get 7 rfl)).mono ?_
      rintro r u ⟨rfl, rfl⟩
      rw [hb0]
      go_wp2_with fail
      refine (rAlive_any _).mono ?_
      rintro r u ⟨rfl, hb⟩
      replace hS := hS.call hb
      clear hb
      go_wp2_with fail
      refine (rdError_any (unhide HEx4) (fun q => by rw [unhide HXD] at q; cases q) (hS.get 8 rfl)).mono ?_
      rintro r u ⟨rfl, rfl⟩
      rw [hx0]
      go_wp2_with fail
      refine (rdError_any (unhide HA4) (fun q => by rw [unhide HYD] at q; cases q) (hS.get 9 rfl)).mono ?_
      rintro r u ⟨rfl, rfl⟩
      rw [hy0]
      go_wp2_with fail
      refine (cells_x hS 2 3 rfl rfl (by decide) (unhide HR) (unhide HOD).wd).mono ?_
      rintro r u ⟨Z1, rfl, hSn⟩
      clear hS
      have hS := hSn
      clear hSn
      dsimp only [putL, List.set, List.cons_append, List.nil_append] at hS
      go_wp2_with fail
      refine (cells_x hS 4 5 rfl rfl (by decide) (unhide HR) (unhide HOY).wd).mono ?_
      rintro r u ⟨Z2, rfl, hSn⟩
      clear hS
      have hS := hSn
      clear hSn
      dsimp only [putL, List.set, List.cons_append, List.nil_append] at hS
      go_wp2_with fail
      have hmx : c.n ≤ maxLen := Nat.le_trans hn (by decide)
      refine (rSame_true (isWords_blk (hS.get 10 rfl) (unhide HNP) hmx (unhide HOD).wd) (isWords_blk (hS.get 11 rfl) (unhide HNP) hmx (unhide HOY).wd) (by omega) (fun j _ => by rw [unhide HWW])).mono ?_
      rintro r u ⟨rfl, hb⟩
      replace hS := hS.call hb
      clear hb
      have hB := hS.bel
      clear hS
      go_wp2
      go_ret
      exact ⟨rfl, hB⟩
    · have hno : ¬ (X.e = 0 ∧ Y.e = 0) := fun q => hb0 ((unhide HT1).2 q).2
      refine (rdError_any (unhide HEa4) (fun q => by rw [unhide HAD] at q; cases q) (hS.get 6 rfl)).mono ?_
      rintro r u ⟨rfl, rfl⟩
      rw [ha0]
      go_wp2_with fail
      refine (rdError_any (unhide HEb4) (fun q => by rw [unhide HDD] at q; cases q) (hS.get 7 rfl)).mono ?_
      rintro r u ⟨rfl, rfl⟩
      obtain ⟨bb, hbb⟩ : ∃ bb, bb = D.e := ⟨_, rfl⟩
      rw [← hbb] at hb0 ⊢
      clear hbb
      have hb0b : (bb == 0) = false := by simpa using hb0
      by_cases hx0 : X.e = 0
      · have hy0 : Y.e ≠ 0 := fun q => hno ⟨hx0, q⟩
        clear hno
        go_wp2_with fail
        refine (rAlive_any _).mono ?_
        rintro r u ⟨rfl, hb⟩
        replace hS := hS.call hb
        clear hb
        go_wp2_with fail
        refine (rdError_any (unhide HEx4) (fun q => by rw [unhide HXD] at q; cases q) (hS.get 8 rfl)).mono ?_
        rintro r u ⟨rfl, rfl⟩
        rw [hx0]
        go_wp2_with fail
        refine (rdError_any (unhide HA4) (fun q => by rw [unhide HYD] at q; cases q) (hS.get 9 rfl)).mono ?_
        rintro r u ⟨rfl, rfl⟩
        obtain ⟨yy, hyy⟩ : ∃ yy, yy = Y.e := ⟨_, rfl⟩
        rw [← hyy] at hy0 ⊢
        clear hyy
        have hy0b : (yy == 0) = false := by simpa using hy0
        go_wp2_with fail
        have hB := hS.bel
        clear hS
        go_wp2
        go_ret
        exact ⟨rfl, hB⟩
      · clear hno
        go_wp2_with fail
        refine (rAlive_any _).mono ?_
        rintro r u ⟨rfl, hb⟩
        replace hS := hS.call hb
        clear hb
        go_wp2_with fail
        refine (rdError_any (unhide HEx4) (fun q => by rw [unhide HXD] at q; cases q) (hS.get 8 rfl)).mono ?_
        rintro r u ⟨rfl, rfl⟩
        obtain ⟨xx, hxx⟩ : ∃ xx, xx = X.e := ⟨_, rfl⟩
        rw [← hxx] at hx0 ⊢
        clear hxx
        have hx0b : (xx == 0) = false := by simpa using hx0
        go_wp2_with fail
        have hB := hS.bel
        clear hS
        go_wp2
        go_ret
        exact ⟨rfl, hB⟩
  · have hno : ¬ (X.e = 0 ∧ Y.e = 0) := fun q => ha0 ((unhide HT1).2 q).1
    refine (rdError_any (unhide HEa4) (fun q => by rw [unhide HAD] at q; cases q) (hS.get 6 rfl)).mono ?_
    rintro r u ⟨rfl, rfl⟩
    obtain ⟨aa, haa⟩ : ∃ aa, aa = A.e := ⟨_, rfl⟩
    rw [← haa] at ha0 ⊢
    clear haa
    have ha0b : (aa == 0) = false := by simpa using ha0
    by_cases hx0 : X.e = 0
    · have hy0 : Y.e ≠ 0 := fun q => hno ⟨hx0, q⟩
      clear hno
      go_wp2_with fail
      refine (rAlive_any _).mono ?_
      rintro r u ⟨rfl, hb⟩
      replace hS := hS.call hb
      clear hb
      go_wp2_with fail
      refine (rdError_any (unhide HEx4) (fun q => by rw [unhide HXD] at q; cases q) (hS.get 8 rfl)).mono ?_
      rintro r u ⟨rfl, rfl⟩
      rw [hx0]
      go_wp2_with fail
      refine (rdError_any (unhide HA4) (fun q => by rw [unhide HYD] at q; cases q) (hS.get 9 rfl)).mono ?_
      rintro r u ⟨rfl, rfl⟩
      obtain ⟨yy, hyy⟩ : ∃ yy, yy = Y.e := ⟨_, rfl⟩
      rw [← hyy] at hy0 ⊢
      clear hyy
      have hy0b : (yy == 0) = false := by simpa using hy0
      go_wp2_with fail
      have hB := hS.bel
      clear hS
      go_wp2
      go_ret
      exact ⟨rfl, hB⟩
    · clear hno
      go_wp2_with fail
      refine (rAlive_any _).mono ?_
      rintro r u ⟨rfl, hb⟩
      replace hS := hS.call hb
      clear hb
      go_wp2_with fail
      refine (rdError_any (unhide HEx4) (fun q => by rw [unhide HXD] at q; cases q) (hS.get 8 rfl)).mono ?_
      rintro r u ⟨rfl, rfl⟩
      obtain ⟨xx, hxx⟩ : ∃ xx, xx = X.e := ⟨_, rfl⟩
      rw [← hxx] at hx0 ⊢
      clear hxx
      have hx0b : (xx == 0) = false := by simpa using hx0
      go_wp2_with fail
      have hB := hS.bel
      clear hS
      go_wp2
      go_ret
      exact ⟨rfl, hB⟩

theorem walk {H : Type} {enc : TypeId × Value → H} {base : Nat} {v0 v1 v2 : Value} {d0 d1 d2 : DataW H} {p0 p1 p2 : List MemPlace} (w : World)
    (hv0 : Value.okWide Tryz.prog w .any base 24 v0) (h0 : DataW.Trod enc Tryz.prog w 0 (fun _ => true) true 24 v0 d0 p0)
    (hv1 : Value.okWide Tryz.prog w .any base 25 v1) (h1 : DataW.Trod enc Tryz.prog w 0 (fun _ => true) true 25 v1 d1 p1)
    (hv2 : Value.okWide Tryz.prog w .any base 28 v2) (h2 : DataW.Trod enc Tryz.prog w 0 (fun _ => true) true 28 v2 d2 p2) :
    Calls Tryz.prog 8 #[v0, v1, v2] w fun e w' => e = .returned (.bool true) ∧ Below w.heap.size w w' := by
  obtain ⟨ct, s, k, g, q, rfl, hsb⟩ := open_cfg hv0 h0
  obtain ⟨n, ws, hI⟩ := open_words hv1 h1
  obtain ⟨x, ky, st, la, nl, cl, Z, rfl, hx, hkb, hnc, hZ⟩ := open_play12 hv2 h2
  cases hr : (⟨ct, s, k, g, q⟩ : Um.Cf).r with
  | false =>
    obtain ⟨sw, cap, rfl⟩ := words_len hI
    exact walk_wrong w ⟨ct, s, k, g, q⟩ sw n cap x ky st la nl cl hx hr
  | true =>
    by_cases hn : n = (⟨ct, s, k, g, q⟩ : Um.Cf).n
    · subst hn
      by_cases hk : ky < 0
      · exact walk_k1 w ⟨ct, s, k, g, q⟩ v1 ws x ky st la nl cl hr hI hx hkb hk
      by_cases hk2 : k ≤ ky
      · exact walk_k2 w ⟨ct, s, k, g, q⟩ v1 ws x ky st la nl cl hr hI hx hkb hk hk2
      exact walk_right w ⟨ct, s, k, g, q⟩ v1 ws x ky st la nl cl hr hI hx hkb hk hk2
    · obtain ⟨sw, cap, rfl⟩ := words_len hI
      exact walk_short w ⟨ct, s, k, g, q⟩ sw n cap x ky st la nl cl hx hr hn

set_option maxRecDepth 100000 in
theorem lifted (os : Os) (started : os.Started) (H : Type) (enc : TypeId × Value → H) :
    ReturnsInHanded {} Tryz.checked os 8 .any (Rows.readOrderSpec.pre6 enc Tryz.prog Tryz.f8 Rows.readOrderRow.domain false) (Rows.readOrderSpec.post enc Tryz.prog Tryz.f8 false true false false) := by
  refine returnsInHanded_of_change (C := Tryz.checked) own started (by kernel_rfl) Tryz.func8
    (ChangeSpec.witness6 (enc := enc) (C := Tryz.checked) false ⟨#[], #[.agg #[.int .i64 0, .int .i64 0, .int .i64 0, .int .i64 0, .int .u64 0], .slice none 0 0, .agg #[.int .u64 0, .int .i64 0, .int .i64 0, .slice none 0 0]], []⟩ 8 (by kernel_rfl) (by kernel_rfl) (by kernel_rfl) (by kernel_rfl)) ?_
  intro W base args ds gs before hval0 hW hcnd _
  have hval : ∀ (j : Nat) t v, Tryz.f8.params[j]? = some t → args[j]? = some v → Value.okWide Tryz.prog W .any base t v := hval0
  have hW' := hW
  obtain ⟨p, q, hA0, hV, rfl, hfz, hnd⟩ := hW
  have hA : DataW.TrodAll enc Tryz.prog W 0 (fun _ => true) true Tryz.f8.params.toList args.toList ds p := hA0
  rw [Tryz.params8] at hA hval
  obtain ⟨v0, vs0, d0, ds0, p0, q0, hargs, rfl, rfl, h0, r0⟩ := trodAll_cons hA
  obtain ⟨v1, vs1, d1, ds1, p1, q1, rfl, rfl, rfl, h1, r1⟩ := trodAll_cons r0
  obtain ⟨v2, vs2, d2, ds2, p2, q2, rfl, rfl, rfl, h2, r2⟩ := trodAll_cons r1
  obtain ⟨rfl, rfl, rfl⟩ := trodAll_nil r2
  obtain rfl : args = #[v0, v1, v2] := by cases args; simp_all
  obtain ⟨rfl, rfl⟩ := trodVars_none hV
  have k0 := h0
  have lt0 : ∀ x ∈ p0, x.block < W.heap.size := by obtain ⟨m, hm⟩ := k0; exact DataW.trod_lt m _ _ _ hm
  have k1 := h1
  have lt1 : ∀ x ∈ p1, x.block < W.heap.size := by obtain ⟨m, hm⟩ := k1; exact DataW.trod_lt m _ _ _ hm
  have k2 := h2
  have lt2 : ∀ x ∈ p2, x.block < W.heap.size := by obtain ⟨m, hm⟩ := k2; exact DataW.trod_lt m _ _ _ hm
  refine (walk W (hval 0 24 v0 rfl rfl) h0 (hval 1 25 v1 rfl rfl) h1 (hval 2 28 v2 rfl rfl) h2).mono fun e W' ⟨he, bel⟩ => ?_
  subst he
  exact ⟨_, rfl, _, _, _, [], _, [], hW', trodAll_mk1 (shut_bool Tryz.underlying4 _), (trodAll_cons_mk (Below.trod laidOut (by kernel_rfl) (of_decide_eq_true (by kernel_rfl)) k0 bel lt0) (trodAll_cons_mk (Below.trod laidOut (by kernel_rfl) (of_decide_eq_true (by kernel_rfl)) k1 bel lt1) (trodAll_cons_mk (Below.trod laidOut (by kernel_rfl) (of_decide_eq_true (by kernel_rfl)) k2 bel lt2) trodAll_mk0))), rfl, bel.frame _, fun h => by cases h⟩

theorem ReadOrder_proved : Rows.ReadOrderSaid :=
  OpenClaim.holds_of_wide 8 Tryz.f8 rfl rfl rfl rfl rfl rfl rfl ⟨rfl, rfl, rfl, rfl, rfl⟩ rfl rfl rfl rfl rfl (by kernel_rfl) Tryz.func8 (by kernel_rfl)
    (of_decide_eq_true (by kernel_rfl)) (by unfold Func.isWrapper; first | (rw [if_pos (by decide +kernel)]; kernel_rfl) | (rw [if_neg (by decide +kernel)]; exact ⟨rfl, rfl⟩))
    (fun os started H enc _ => lifted os started H enc)

end Go.Proofs.YtapgghciieloaaaGreat.readOrder
