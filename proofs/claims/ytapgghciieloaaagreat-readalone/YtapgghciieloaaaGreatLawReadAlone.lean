/-
  For every world's size, words and play, the law ReadAlone answers true: alone a read ends: it is told why it may not read; or the key is marked, and there is a conflict, of both ends, to each other one that writes it, and goes on with it; or one of these must not have it: then it is aborted, and told so. Conditions: none.
-/
import Derived.Test.YtapgghciieloaaaGreatRows
import Derived.Test.YtapgghciieloaaaGreatK12
import Derived.Test.YtapgghciieloaaaGreatK1
import Derived.Test.YtapgghciieloaaaGreatK2
import Derived.Test.YtapgghciieloaaaGreatK5
import Derived.Test.YtapgghciieloaaaGreatK13
import Derived.Test.YtapgghciieloaaaGreatK4
import Derived.Test.YtapgghciieloaaaGreatK3
import Derived.WalkKit
import Derived.ProofKit
import Derived.OpenShut
import Derived.ShutString
import Derived.LoopTactic
import Derived.Lib.QuietBelow
import Derived.Deep.DeepCutAuto
namespace Go.Proofs.YtapgghciieloaaaGreat.readAlone
set_option maxRecDepth 100000
open Go.ChangeShapes Go.WideShapes Go.ChangeAt Go.RowKit Go.Sort
set_option linter.unusedVariables false
set_option linter.unusedSimpArgs false

theorem own : ownKnob Tryz.prog.godebug = none := by kernel_rfl
theorem laidOut : laidOutB Tryz.prog = true := by kernel_rfl

theorem isWords_words {W : World} {v : Value} {n : Nat} {ws : Nat → Nat} (h : IsWords W v n ws) : ∀ i, i < n → Um.Word (ws i) := by
  rcases h with ⟨_, _, _, e⟩ | ⟨_, _, _, _, _, _, _, _, e⟩
  · intro i hi; omega
  · exact fun i hi => (e i hi).2

set_option maxHeartbeats 2000000 in
theorem walk_wrong (w : World) (c : Um.Cf) (a : Option Addr) (n cap : Nat) (x : Nat) (ky st : Int) (la : Option Addr) (nl cl : Nat) (hx : Um.Word x) (h : c.r = false) :
    Calls Tryz.prog 4 #[(.agg #[.int .i64 (c.t), .int .i64 (c.s), .int .i64 (c.k), .int .i64 (c.g), .int .u64 (c.q : Int)]), .slice a n cap, .agg #[.int .u64 (x : Nat), .int .i64 ky, .int .i64 st, .slice la nl cl]] w fun e w' => e = .returned (.bool true) ∧ Below w.heap.size w w' := by
  have HL := hide (fun w => lOf_wrong c a n cap w h)
  clear h
  have HXX := hide hx
  clear hx
  have hS := Sx.new w
  go_enter Tryz.func4, Tryz.ntmps4
  go_wp2_with (first | (refine ybox hS (h := ?_); clear hS; intro _ _ hS) | (refine yall hS (h := ?_); clear hS; intro _ _ hS) | refine yld hS (h := ?_) | (refine yst hS (h := ?_); clear hS; intro _ hS))
  refine ((unhide HL) _).mono ?_
  rintro r u ⟨rfl, hb⟩
  replace hS := hS.call hb
  clear hb HL
  go_wp2_with (first | (refine ybox hS (h := ?_); clear hS; intro _ _ hS) | (refine yall hS (h := ?_); clear hS; intro _ _ hS) | refine yld hS (h := ?_) | (refine yst hS (h := ?_); clear hS; intro _ hS))
  refine (rdNew_p hS c x ky (unhide HXX) ⟨fun _ => 0, 0, Um.noT⟩).mono ?_
  rintro r u ⟨P, cs, hb, sb, rfl, _, hSn⟩
  clear hS
  have hS := hSn
  clear hSn
  dsimp only [putL, List.set, List.cons_append, List.nil_append] at hS
  go_wp2_with fail
  refine (rAlive_any _).mono ?_
  rintro r u ⟨rfl, hb⟩
  replace hS := hS.call hb
  have hB := hS.bel
  clear hb hS
  go_wp2
  go_ret
  exact ⟨rfl, hB⟩

set_option maxHeartbeats 2000000 in
theorem walk_short (w : World) (c : Um.Cf) (a : Option Addr) (n cap : Nat) (x : Nat) (ky st : Int) (la : Option Addr) (nl cl : Nat) (hx : Um.Word x) (h : c.r = true) (hn : n ≠ c.n) :
    Calls Tryz.prog 4 #[(.agg #[.int .i64 (c.t), .int .i64 (c.s), .int .i64 (c.k), .int .i64 (c.g), .int .u64 (c.q : Int)]), .slice a n cap, .agg #[.int .u64 (x : Nat), .int .i64 ky, .int .i64 st, .slice la nl cl]] w fun e w' => e = .returned (.bool true) ∧ Below w.heap.size w w' := by
  have HL := hide (fun w => lOf_short c a n cap w h hn)
  clear h hn
  have HXX := hide hx
  clear hx
  have hS := Sx.new w
  go_enter Tryz.func4, Tryz.ntmps4
  go_wp2_with (first | (refine ybox hS (h := ?_); clear hS; intro _ _ hS) | (refine yall hS (h := ?_); clear hS; intro _ _ hS) | refine yld hS (h := ?_) | (refine yst hS (h := ?_); clear hS; intro _ hS))
  refine ((unhide HL) _).mono ?_
  rintro r u ⟨rfl, hb⟩
  replace hS := hS.call hb
  clear hb HL
  go_wp2_with (first | (refine ybox hS (h := ?_); clear hS; intro _ _ hS) | (refine yall hS (h := ?_); clear hS; intro _ _ hS) | refine yld hS (h := ?_) | (refine yst hS (h := ?_); clear hS; intro _ hS))
  refine (rdNew_p hS c x ky (unhide HXX) ⟨fun _ => 0, 0, Um.noT⟩).mono ?_
  rintro r u ⟨P, cs, hb, sb, rfl, _, hSn⟩
  clear hS
  have hS := hSn
  clear hSn
  dsimp only [putL, List.set, List.cons_append, List.nil_append] at hS
  go_wp2_with fail
  refine (rAlive_any _).mono ?_
  rintro r u ⟨rfl, hb⟩
  replace hS := hS.call hb
  have hB := hS.bel
  clear hb hS
  go_wp2
  go_ret
  exact ⟨rfl, hB⟩

set_option maxRecDepth 100000 in
set_option maxHeartbeats 16000000 in
theorem walk_k1 (w : World) (c : Um.Cf) (v : Value) (ws : Nat → Nat) (x : Nat) (ky st : Int) (la : Option Addr) (nl cl : Nat) (h : c.r = true) (hv : IsWords w v c.n ws) (hx : Um.Word x) (hkb : -9223372036854775808 ≤ ky ∧ ky ≤ 9223372036854775807) (hk : ky < 0) :
    Calls Tryz.prog 4 #[(.agg #[.int .i64 (c.t), .int .i64 (c.s), .int .i64 (c.k), .int .i64 (c.g), .int .u64 (c.q : Int)]), v, .agg #[.int .u64 (x : Nat), .int .i64 ky, .int .i64 st, .slice la nl cl]] w fun e w' => e = .returned (.bool true) ∧ Below w.heap.size w w' := by
  have dk : decide (ky < 0) = true := decide_eq_true hk
  obtain ⟨m0, hm0⟩ : ∃ m0 : Um.Mm, m0 = (⟨ws, 0, Um.noT⟩ : Um.Mm) := ⟨_, rfl⟩
  have hws0 : m0.ws = ws := by rw [hm0]
  obtain ⟨A, hA⟩ : ∃ A, A = Um.rdit c x inn12 ky (Um.svN x) (Um.rdbeg c x ky m0) 300 := ⟨_, rfl⟩
  obtain ⟨a1, a2⟩ := Um.rd_all h m0 (by decide) A hA
  rw [hws0] at a2
  have hkk : ky < 0 ∨ c.k ≤ ky := by omega
  have h5 : A.e = 5 ∧ A.m.ws = ws := by
    rcases a2 with ⟨_, p, q⟩ | ⟨p, _⟩ | ⟨p, _⟩ | ⟨p, _⟩
    · exact ⟨p, q⟩
    all_goals exact absurd hkk p
  have H5 := hide h5
  clear h5 hkk
  have HKO := hide (fun u => krOf_any x c.s u hx)
  have HAD := hide a1
  have HHA := hide hA
  have HXX := hide hx
  have HKB := hide hkb
  have hsv := Um.sv_range x
  have HSB := hide (show -9223372036854775808 ≤ Um.svN x ∧ Um.svN x ≤ 9223372036854775807 by omega)
  have HNP := hide (show 0 < c.n from by have := Um.Cf.n_pos h; omega)
  clear a1 a2 hA hx hkb hsv
  have hn := c.n_le
  have hn8 := Um.Cf.n_pos h
  have hX : ∃ g0 off cap, v = .slice (some ⟨g0, off, none⟩) c.n cap ∧ c.n ≤ cap ∧ g0 < w.heap.size ∧ ∀ j, j < c.n → w.cell? ⟨g0, off + j, none⟩ = some (.int .u64 (ws j)) := by
    rcases hv with ⟨_, _, _, e⟩ | ⟨g0, off, cap, e, _, e1, _, e2, e3⟩
    · omega
    · exact ⟨g0, off, cap, e, e1, e2, fun j hj => (e3 j hj).1⟩
  have HV := hide hv
  have HR := hide h
  obtain ⟨g0, off, scap, rfl, hcap, hg0, hxs⟩ := hX
  have HX0 := hide hxs
  clear h hxs
  have hS := Sx.new w
  go_enter Tryz.func4, Tryz.ntmps4
  go_wp2_with (first | (refine ybox hS (h := ?_); clear hS; intro _ _ hS) | (refine yall hS (h := ?_); clear hS; intro _ _ hS) | refine yld hS (h := ?_) | (refine yst hS (h := ?_); clear hS; intro _ hS))
  refine (lOf_x hS c _ ws (unhide HR) (((unhide HV).low.below hS.bel).is hS.bel.size)).mono ?_
  rintro r u ⟨B, C, g, cg, rfl, hc1, hc2, hWn, hSn⟩
  clear hS
  have hS := hSn
  clear hSn
  dsimp only [putL, List.set, List.cons_append, List.nil_append] at hS
  have HW0 := hide hWn
  clear hWn
  go_wp2_with (first | (refine ybox hS (h := ?_); clear hS; intro _ _ hS) | (refine yall hS (h := ?_); clear hS; intro _ _ hS) | refine yld hS (h := ?_) | (refine yst hS (h := ?_); clear hS; intro _ hS))
  have hC0 : (C, rowW ws c.n) = (C, rowW m0.ws c.n) := by rw [hws0]
  rw [hC0, ← hm0] at hS
  have HW1 := hide (show WordsOk c m0 by rw [hm0]; exact unhide HW0)
  clear hC0 hm0 hws0 HW0
  have hS2 := (hS.sublist (l' := [_, _, _, _]) (.cons_cons _ (.cons_cons _ (.cons_cons _ (.cons_cons _ (.cons _ .slnil)))))).noE
  clear hS
  have hS := hS2
  clear hS2
  refine (rdNew_p hS c x ky (unhide HXX) m0).mono ?_
  rintro r u ⟨P, cs, hb, sb, rfl, hA0, hSn⟩
  clear hS
  have hS := hSn
  clear hSn
  dsimp only [putL, List.set, List.cons_append, List.nil_append] at hS
  have HA0 := hide hA0
  clear hA0
  go_wp2_with fail
  obtain ⟨CF, rfl⟩ := nameB hS 0 rfl
  obtain ⟨PL, rfl⟩ := nameB hS 1 rfl
  refine (rdEnds_x (c := c) (h := x) (sl := Um.svN x) (ky := ky) (l := [(CF, [.int .i64 c.t, .int .i64 c.s, .int .i64 c.k, .int .i64 c.g, .int .u64 c.q]), (PL, [.int .u64 (x : Nat), .int .i64 ky, .int .i64 st, .slice la nl cl]), (B, memL c C m0), (C, rowW m0.ws c.n), (P, cs)]) (hx := []) hS 2 3 4 (Um.rdbeg c x ky m0) (unhide HA0) (by rw [Um.rdbeg_m]; rfl) (by rw [Um.rdbeg_m]; rfl) rfl (by decide) (by decide) (by decide) (unhide HR) (unhide HXX) (Um.rok_beg (unhide HW1)) (rdbeg_ook (h := x) (ky := ky)) (unhide HSB) (unhide HKB) 300 (by decide) A (unhide HHA)).mono ?_
  rintro r u ⟨K1, rfl, _, _, _, hOn, cs1, hb1, sb1, hA1, hSn⟩
  clear hS
  have hS := hSn
  clear hSn
  dsimp only [putL, List.set, List.cons_append, List.nil_append] at hS
  have HOA := hide hOn
  clear hOn
  have hz1 := hA1.ended (unhide HAD)
  subst hz1
  have HCS := hide (hA1.done2 (unhide HAD))
  clear hA1 HA0
  have hS2 := hS.noE
  clear hS
  have hS := hS2
  clear hS2
  go_wp2_with (first | (refine ybox hS (h := ?_); clear hS; intro _ _ hS) | (refine yall hS (h := ?_); clear hS; intro _ _ hS) | refine yld hS (h := ?_) | (refine yst hS (h := ?_); clear hS; intro _ hS))
  refine (lBarred_any c x _ (unhide HR) ((unhide HV).below hS.bel (Nat.le_refl _)) (unhide HXX)).mono ?_
  rintro r u ⟨rfl, hb⟩
  replace hS := hS.call hb
  clear hb
  obtain ⟨ee, hee0⟩ : ∃ ee, ee = (if Um.ook x c.s = true then Um.flN x inn12 (ws (c.cl 4 (Um.svN x)).toNat) else 2) := ⟨_, rfl⟩
  rw [← hee0]
  clear hee0
  go_wp2_with (first | (refine ybox hS (h := ?_); clear hS; intro _ _ hS) | (refine yall hS (h := ?_); clear hS; intro _ _ hS) | refine yld hS (h := ?_) | (refine yst hS (h := ?_); clear hS; intro _ hS))
  refine ((unhide HKO) _).mono ?_
  rintro r u ⟨rfl, rfl⟩
  clear HKO
  go_wp2_with (first | (refine ybox hS (h := ?_); clear hS; intro _ _ hS) | (refine yall hS (h := ?_); clear hS; intro _ _ hS) | refine yld hS (h := ?_) | (refine yst hS (h := ?_); clear hS; intro _ hS))
  refine (rAlive_any _).mono ?_
  rintro r u ⟨rfl, hb⟩
  replace hS := hS.call hb
  clear hb
  go_wp2_with fail
  refine (rDone_n (hS.get 4 rfl) (unhide HCS).1).mono ?_
  rintro r u ⟨rfl, rfl⟩
  go_wp2_with fail
  refine (rError_n (hS.get 4 rfl) (unhide HCS).1 (unhide HCS).2).mono ?_
  rintro r u ⟨rfl, rfl⟩
  rw [(unhide H5).1]
  go_wp2_with fail
  refine (cells_x hS 2 3 rfl rfl (by decide) (unhide HR) (unhide HOA).wd).mono ?_
  rintro r u ⟨X, rfl, hSn⟩
  clear hS
  have hS := hSn
  clear hSn
  dsimp only [putL, List.set, List.cons_append, List.nil_append] at hS
  have HB9 := hide hS
  skip
  have hmx : c.n ≤ maxLen := Nat.le_trans hn (by decide)
  go_wp2_with fail
  refine (rSame_true (isWords_blk (hS.get 5 rfl) (unhide HNP) hmx (unhide HOA).wd) ((unhide HV).below hS.bel (Nat.le_refl _)) (by omega) (fun j hj => by rw [(unhide H5).2])).mono ?_
  rintro r u ⟨rfl, hb⟩
  replace hS := hS.call hb
  have hB := hS.bel
  clear hb hS
  go_wp2
  go_ret
  exact ⟨rfl, hB⟩

set_option maxRecDepth 100000 in
set_option maxHeartbeats 16000000 in
theorem walk_k2 (w : World) (c : Um.Cf) (v : Value) (ws : Nat → Nat) (x : Nat) (ky st : Int) (la : Option Addr) (nl cl : Nat) (h : c.r = true) (hv : IsWords w v c.n ws) (hx : Um.Word x) (hkb : -9223372036854775808 ≤ ky ∧ ky ≤ 9223372036854775807) (hk : ¬ ky < 0) (hk2 : c.k ≤ ky) :
    Calls Tryz.prog 4 #[(.agg #[.int .i64 (c.t), .int .i64 (c.s), .int .i64 (c.k), .int .i64 (c.g), .int .u64 (c.q : Int)]), v, .agg #[.int .u64 (x : Nat), .int .i64 ky, .int .i64 st, .slice la nl cl]] w fun e w' => e = .returned (.bool true) ∧ Below w.heap.size w w' := by
  have dk : decide (ky < 0) = false := decide_eq_false hk
  have dk2 : decide (c.k ≤ ky) = true := decide_eq_true hk2
  obtain ⟨m0, hm0⟩ : ∃ m0 : Um.Mm, m0 = (⟨ws, 0, Um.noT⟩ : Um.Mm) := ⟨_, rfl⟩
  have hws0 : m0.ws = ws := by rw [hm0]
  obtain ⟨A, hA⟩ : ∃ A, A = Um.rdit c x inn12 ky (Um.svN x) (Um.rdbeg c x ky m0) 300 := ⟨_, rfl⟩
  obtain ⟨a1, a2⟩ := Um.rd_all h m0 (by decide) A hA
  rw [hws0] at a2
  have hkk : ky < 0 ∨ c.k ≤ ky := by omega
  have h5 : A.e = 5 ∧ A.m.ws = ws := by
    rcases a2 with ⟨_, p, q⟩ | ⟨p, _⟩ | ⟨p, _⟩ | ⟨p, _⟩
    · exact ⟨p, q⟩
    all_goals exact absurd hkk p
  have H5 := hide h5
  clear h5 hkk
  have HKO := hide (fun u => krOf_any x c.s u hx)
  have HAD := hide a1
  have HHA := hide hA
  have HXX := hide hx
  have HKB := hide hkb
  have hsv := Um.sv_range x
  have HSB := hide (show -9223372036854775808 ≤ Um.svN x ∧ Um.svN x ≤ 9223372036854775807 by omega)
  have HNP := hide (show 0 < c.n from by have := Um.Cf.n_pos h; omega)
  clear a1 a2 hA hx hkb hsv
  have hn := c.n_le
  have hn8 := Um.Cf.n_pos h
  have hX : ∃ g0 off cap, v = .slice (some ⟨g0, off, none⟩) c.n cap ∧ c.n ≤ cap ∧ g0 < w.heap.size ∧ ∀ j, j < c.n → w.cell? ⟨g0, off + j, none⟩ = some (.int .u64 (ws j)) := by
    rcases hv with ⟨_, _, _, e⟩ | ⟨g0, off, cap, e, _, e1, _, e2, e3⟩
    · omega
    · exact ⟨g0, off, cap, e, e1, e2, fun j hj => (e3 j hj).1⟩
  have HV := hide hv
  have HR := hide h
  obtain ⟨g0, off, scap, rfl, hcap, hg0, hxs⟩ := hX
  have HX0 := hide hxs
  clear h hxs
  have hS := Sx.new w
  go_enter Tryz.func4, Tryz.ntmps4
  go_wp2_with (first | (refine ybox hS (h := ?_); clear hS; intro _ _ hS) | (refine yall hS (h := ?_); clear hS; intro _ _ hS) | refine yld hS (h := ?_) | (refine yst hS (h := ?_); clear hS; intro _ hS))
  refine (lOf_x hS c _ ws (unhide HR) (((unhide HV).low.below hS.bel).is hS.bel.size)).mono ?_
  rintro r u ⟨B, C, g, cg, rfl, hc1, hc2, hWn, hSn⟩
  clear hS
  have hS := hSn
  clear hSn
  dsimp only [putL, List.set, List.cons_append, List.nil_append] at hS
  have HW0 := hide hWn
  clear hWn
  go_wp2_with (first | (refine ybox hS (h := ?_); clear hS; intro _ _ hS) | (refine yall hS (h := ?_); clear hS; intro _ _ hS) | refine yld hS (h := ?_) | (refine yst hS (h := ?_); clear hS; intro _ hS))
  have hC0 : (C, rowW ws c.n) = (C, rowW m0.ws c.n) := by rw [hws0]
  rw [hC0, ← hm0] at hS
  have HW1 := hide (show WordsOk c m0 by rw [hm0]; exact unhide HW0)
  clear hC0 hm0 hws0 HW0
  have hS2 := (hS.sublist (l' := [_, _, _, _]) (.cons_cons _ (.cons_cons _ (.cons_cons _ (.cons_cons _ (.cons _ .slnil)))))).noE
  clear hS
  have hS := hS2
  clear hS2
  refine (rdNew_p hS c x ky (unhide HXX) m0).mono ?_
  rintro r u ⟨P, cs, hb, sb, rfl, hA0, hSn⟩
  clear hS
  have hS := hSn
  clear hSn
  dsimp only [putL, List.set, List.cons_append, List.nil_append] at hS
  have HA0 := hide hA0
  clear hA0
  go_wp2_with fail
  obtain ⟨CF, rfl⟩ := nameB hS 0 rfl
  obtain ⟨PL, rfl⟩ := nameB hS 1 rfl
  refine (rdEnds_x (c := c) (h := x) (sl := Um.svN x) (ky := ky) (l := [(CF, [.int .i64 c.t, .int .i64 c.s, .int .i64 c.k, .int .i64 c.g, .int .u64 c.q]), (PL, [.int .u64 (x : Nat), .int .i64 ky, .int .i64 st, .slice la nl cl]), (B, memL c C m0), (C, rowW m0.ws c.n), (P, cs)]) (hx := []) hS 2 3 4 (Um.rdbeg c x ky m0) (unhide HA0) (by rw [Um.rdbeg_m]; rfl) (by rw [Um.rdbeg_m]; rfl) rfl (by decide) (by decide) (by decide) (unhide HR) (unhide HXX) (Um.rok_beg (unhide HW1)) (rdbeg_ook (h := x) (ky := ky)) (unhide HSB) (unhide HKB) 300 (by decide) A (unhide HHA)).mono ?_
  rintro r u ⟨K1, rfl, _, _, _, hOn, cs1, hb1, sb1, hA1, hSn⟩
  clear hS
  have hS := hSn
  clear hSn
  dsimp only [putL, List.set, List.cons_append, List.nil_append] at hS
  have HOA := hide hOn
  clear hOn
  have hz1 := hA1.ended (unhide HAD)
  subst hz1
  have HCS := hide (hA1.done2 (unhide HAD))
  clear hA1 HA0
  have hS2 := hS.noE
  clear hS
  have hS := hS2
  clear hS2
  go_wp2_with (first | (refine ybox hS (h := ?_); clear hS; intro _ _ hS) | (refine yall hS (h := ?_); clear hS; intro _ _ hS) | refine yld hS (h := ?_) | (refine yst hS (h := ?_); clear hS; intro _ hS))
  refine (lBarred_any c x _ (unhide HR) ((unhide HV).below hS.bel (Nat.le_refl _)) (unhide HXX)).mono ?_
  rintro r u ⟨rfl, hb⟩
  replace hS := hS.call hb
  clear hb
  obtain ⟨ee, hee0⟩ : ∃ ee, ee = (if Um.ook x c.s = true then Um.flN x inn12 (ws (c.cl 4 (Um.svN x)).toNat) else 2) := ⟨_, rfl⟩
  rw [← hee0]
  clear hee0
  go_wp2_with (first | (refine ybox hS (h := ?_); clear hS; intro _ _ hS) | (refine yall hS (h := ?_); clear hS; intro _ _ hS) | refine yld hS (h := ?_) | (refine yst hS (h := ?_); clear hS; intro _ hS))
  refine ((unhide HKO) _).mono ?_
  rintro r u ⟨rfl, rfl⟩
  clear HKO
  go_wp2_with (first | (refine ybox hS (h := ?_); clear hS; intro _ _ hS) | (refine yall hS (h := ?_); clear hS; intro _ _ hS) | refine yld hS (h := ?_) | (refine yst hS (h := ?_); clear hS; intro _ hS))
  refine (rAlive_any _).mono ?_
  rintro r u ⟨rfl, hb⟩
  replace hS := hS.call hb
  clear hb
  go_wp2_with fail
  refine (rDone_n (hS.get 4 rfl) (unhide HCS).1).mono ?_
  rintro r u ⟨rfl, rfl⟩
  go_wp2_with fail
  refine (rError_n (hS.get 4 rfl) (unhide HCS).1 (unhide HCS).2).mono ?_
  rintro r u ⟨rfl, rfl⟩
  rw [(unhide H5).1]
  go_wp2_with fail
  refine (cells_x hS 2 3 rfl rfl (by decide) (unhide HR) (unhide HOA).wd).mono ?_
  rintro r u ⟨X, rfl, hSn⟩
  clear hS
  have hS := hSn
  clear hSn
  dsimp only [putL, List.set, List.cons_append, List.nil_append] at hS
  have HB9 := hide hS
  skip
  have hmx : c.n ≤ maxLen := Nat.le_trans hn (by decide)
  go_wp2_with fail
  refine (rSame_true (isWords_blk (hS.get 5 rfl) (unhide HNP) hmx (unhide HOA).wd) ((unhide HV).below hS.bel (Nat.le_refl _)) (by omega) (fun j hj => by rw [(unhide H5).2])).mono ?_
  rintro r u ⟨rfl, hb⟩
  replace hS := hS.call hb
  have hB := hS.bel
  clear hb hS
  go_wp2
  go_ret
  exact ⟨rfl, hB⟩

set_option maxRecDepth 100000 in
set_option maxHeartbeats 16000000 in
theorem walk_not (w : World) (c : Um.Cf) (v : Value) (ws : Nat → Nat) (x : Nat) (ky st : Int) (la : Option Addr) (nl cl : Nat) (h : c.r = true) (hv : IsWords w v c.n ws) (hx : Um.Word x) (hkb : -9223372036854775808 ≤ ky ∧ ky ≤ 9223372036854775807) (hk : ¬ ky < 0) (hk2 : ¬ c.k ≤ ky) (he : ¬ (if Um.ook x c.s = true then Um.flN x inn12 (ws (c.cl 4 (Um.svN x)).toNat) else 2) = 0) :
    Calls Tryz.prog 4 #[(.agg #[.int .i64 (c.t), .int .i64 (c.s), .int .i64 (c.k), .int .i64 (c.g), .int .u64 (c.q : Int)]), v, .agg #[.int .u64 (x : Nat), .int .i64 ky, .int .i64 st, .slice la nl cl]] w fun e w' => e = .returned (.bool true) ∧ Below w.heap.size w w' := by
  have dk : decide (ky < 0) = false := decide_eq_false hk
  have dk2 : decide (c.k ≤ ky) = false := decide_eq_false hk2
  obtain ⟨m0, hm0⟩ : ∃ m0 : Um.Mm, m0 = (⟨ws, 0, Um.noT⟩ : Um.Mm) := ⟨_, rfl⟩
  have hws0 : m0.ws = ws := by rw [hm0]
  obtain ⟨A, hA⟩ : ∃ A, A = Um.rdit c x inn12 ky (Um.svN x) (Um.rdbeg c x ky m0) 300 := ⟨_, rfl⟩
  obtain ⟨a1, a2⟩ := Um.rd_all h m0 (by decide) A hA
  rw [hws0] at a2
  have h5 : A.e = (if Um.ook x c.s = true then Um.flN x inn12 (ws (c.cl 4 (Um.svN x)).toNat) else 2) ∧ A.m.ws = ws := by
    rcases a2 with ⟨p, _⟩ | ⟨_, p, q, t⟩ | ⟨_, p, _, q, t⟩ | ⟨_, p, q, _⟩
    · omega
    · rw [p, if_neg (by decide)]
      exact ⟨q, t⟩
    · rw [p, if_pos rfl]
      exact ⟨q, t⟩
    · rw [p, if_pos rfl] at he
      exact absurd q he
  obtain ⟨ee, hee0⟩ : ∃ ee, ee = (if Um.ook x c.s = true then Um.flN x inn12 (ws (c.cl 4 (Um.svN x)).toNat) else 2) := ⟨_, rfl⟩
  rw [← hee0] at h5 he
  have HEE := hide hee0
  have H5 := hide h5
  have he1 : ¬ ee = 0 := he
  have he2 : (ee == 0) = false := by simpa using he1
  clear h5 hee0 he
  have HKO := hide (fun u => krOf_any x c.s u hx)
  have HAD := hide a1
  have HHA := hide hA
  have HXX := hide hx
  have HKB := hide hkb
  have hsv := Um.sv_range x
  have HSB := hide (show -9223372036854775808 ≤ Um.svN x ∧ Um.svN x ≤ 9223372036854775807 by omega)
  have HNP := hide (show 0 < c.n from by have := Um.Cf.n_pos h; omega)
  clear a1 a2 hA hx hkb hsv
  have hn := c.n_le
  have hn8 := Um.Cf.n_pos h
  have hX : ∃ g0 off cap, v = .slice (some ⟨g0, off, none⟩) c.n cap ∧ c.n ≤ cap ∧ g0 < w.heap.size ∧ ∀ j, j < c.n → w.cell? ⟨g0, off + j, none⟩ = some (.int .u64 (ws j)) := by
    rcases hv with ⟨_, _, _, e⟩ | ⟨g0, off, cap, e, _, e1, _, e2, e3⟩
    · omega
    · exact ⟨g0, off, cap, e, e1, e2, fun j hj => (e3 j hj).1⟩
  have HV := hide hv
  have HR := hide h
  obtain ⟨g0, off, scap, rfl, hcap, hg0, hxs⟩ := hX
  have HX0 := hide hxs
  clear h hxs
  have hS := Sx.new w
  go_enter Tryz.func4, Tryz.ntmps4
  go_wp2_with (first | (refine ybox hS (h := ?_); clear hS; intro _ _ hS) | (refine yall hS (h := ?_); clear hS; intro _ _ hS) | refine yld hS (h := ?_) | (refine yst hS (h := ?_); clear hS; intro _ hS))
  refine (lOf_x hS c _ ws (unhide HR) (((unhide HV).low.below hS.bel).is hS.bel.size)).mono ?_
  rintro r u ⟨B, C, g, cg, rfl, hc1, hc2, hWn, hSn⟩
  clear hS
  have hS := hSn
  clear hSn
  dsimp only [putL, List.set, List.cons_append, List.nil_append] at hS
  have HW0 := hide hWn
  clear hWn
  go_wp2_with (first | (refine ybox hS (h := ?_); clear hS; intro _ _ hS) | (refine yall hS (h := ?_); clear hS; intro _ _ hS) | refine yld hS (h := ?_) | (refine yst hS (h := ?_); clear hS; intro _ hS))
  have hC0 : (C, rowW ws c.n) = (C, rowW m0.ws c.n) := by rw [hws0]
  rw [hC0, ← hm0] at hS
  have HW1 := hide (show WordsOk c m0 by rw [hm0]; exact unhide HW0)
  clear hC0 hm0 hws0 HW0
  have hS2 := (hS.sublist (l' := [_, _, _, _]) (.cons_cons _ (.cons_cons _ (.cons_cons _ (.cons_cons _ (.cons _ .slnil)))))).noE
  clear hS
  have hS := hS2
  clear hS2
  refine (rdNew_p hS c x ky (unhide HXX) m0).mono ?_
  rintro r u ⟨P, cs, hb, sb, rfl, hA0, hSn⟩
  clear hS
  have hS := hSn
  clear hSn
  dsimp only [putL, List.set, List.cons_append, List.nil_append] at hS
  have HA0 := hide hA0
  clear hA0
  go_wp2_with fail
  obtain ⟨CF, rfl⟩ := nameB hS 0 rfl
  obtain ⟨PL, rfl⟩ := nameB hS 1 rfl
  refine (rdEnds_x (c := c) (h := x) (sl := Um.svN x) (ky := ky) (l := [(CF, [.int .i64 c.t, .int .i64 c.s, .int .i64 c.k, .int .i64 c.g, .int .u64 c.q]), (PL, [.int .u64 (x : Nat), .int .i64 ky, .int .i64 st, .slice la nl cl]), (B, memL c C m0), (C, rowW m0.ws c.n), (P, cs)]) (hx := []) hS 2 3 4 (Um.rdbeg c x ky m0) (unhide HA0) (by rw [Um.rdbeg_m]; rfl) (by rw [Um.rdbeg_m]; rfl) rfl (by decide) (by decide) (by decide) (unhide HR) (unhide HXX) (Um.rok_beg (unhide HW1)) (rdbeg_ook (h := x) (ky := ky)) (unhide HSB) (unhide HKB) 300 (by decide) A (unhide HHA)).mono ?_
  rintro r u ⟨K1, rfl, _, _, _, hOn, cs1, hb1, sb1, hA1, hSn⟩
  clear hS
  have hS := hSn
  clear hSn
  dsimp only [putL, List.set, List.cons_append, List.nil_append] at hS
  have HOA := hide hOn
  clear hOn
  have hz1 := hA1.ended (unhide HAD)
  subst hz1
  have HCS := hide (hA1.done2 (unhide HAD))
  clear hA1 HA0
  have hS2 := hS.noE
  clear hS
  have hS := hS2
  clear hS2
  go_wp2_with (first | (refine ybox hS (h := ?_); clear hS; intro _ _ hS) | (refine yall hS (h := ?_); clear hS; intro _ _ hS) | refine yld hS (h := ?_) | (refine yst hS (h := ?_); clear hS; intro _ hS))
  refine (lBarred_any c x _ (unhide HR) ((unhide HV).below hS.bel (Nat.le_refl _)) (unhide HXX)).mono ?_
  rintro r u ⟨rfl, hb⟩
  replace hS := hS.call hb
  clear hb
  rw [← unhide HEE]
  go_wp2_with (first | (refine ybox hS (h := ?_); clear hS; intro _ _ hS) | (refine yall hS (h := ?_); clear hS; intro _ _ hS) | refine yld hS (h := ?_) | (refine yst hS (h := ?_); clear hS; intro _ hS))
  refine ((unhide HKO) _).mono ?_
  rintro r u ⟨rfl, rfl⟩
  clear HKO
  go_wp2_with (first | (refine ybox hS (h := ?_); clear hS; intro _ _ hS) | (refine yall hS (h := ?_); clear hS; intro _ _ hS) | refine yld hS (h := ?_) | (refine yst hS (h := ?_); clear hS; intro _ hS))
  clear dk dk2 he2
  refine (rAlive_any _).mono ?_
  rintro r u ⟨rfl, hb⟩
  replace hS := hS.call hb
  clear hb
  go_wp2_with fail
  refine (rDone_n (hS.get 4 rfl) (unhide HCS).1).mono ?_
  rintro r u ⟨rfl, rfl⟩
  go_wp2_with fail
  refine (rError_n (hS.get 4 rfl) (unhide HCS).1 (unhide HCS).2).mono ?_
  rintro r u ⟨rfl, rfl⟩
  rw [(unhide H5).1]
  have hee : (ee == ee) = true := by simp
  go_wp2_with fail
  refine (cells_x hS 2 3 rfl rfl (by decide) (unhide HR) (unhide HOA).wd).mono ?_
  rintro r u ⟨X, rfl, hSn⟩
  clear hS
  have hS := hSn
  clear hSn
  dsimp only [putL, List.set, List.cons_append, List.nil_append] at hS
  have HB9 := hide hS
  skip
  have hmx : c.n ≤ maxLen := Nat.le_trans hn (by decide)
  go_wp2_with fail
  refine (rSame_true (isWords_blk (hS.get 5 rfl) (unhide HNP) hmx (unhide HOA).wd) ((unhide HV).below hS.bel (Nat.le_refl _)) (by omega) (fun j hj => by rw [(unhide H5).2])).mono ?_
  rintro r u ⟨rfl, hb⟩
  replace hS := hS.call hb
  have hB := hS.bel
  clear hb hS
  go_wp2
  go_ret
  exact ⟨rfl, hB⟩

set_option maxRecDepth 100000 in
set_option maxHeartbeats 16000000 in
theorem walk_right (w : World) (c : Um.Cf) (v : Value) (ws : Nat → Nat) (x : Nat) (ky st : Int) (la : Option Addr) (nl cl : Nat) (h : c.r = true) (hv : IsWords w v c.n ws) (hx : Um.Word x) (hkb : -9223372036854775808 ≤ ky ∧ ky ≤ 9223372036854775807) (hk : ¬ ky < 0) (hk2 : ¬ c.k ≤ ky) (he : (if Um.ook x c.s = true then Um.flN x inn12 (ws (c.cl 4 (Um.svN x)).toNat) else 2) = 0) :
    Calls Tryz.prog 4 #[(.agg #[.int .i64 (c.t), .int .i64 (c.s), .int .i64 (c.k), .int .i64 (c.g), .int .u64 (c.q : Int)]), v, .agg #[.int .u64 (x : Nat), .int .i64 ky, .int .i64 st, .slice la nl cl]] w fun e w' => e = .returned (.bool true) ∧ Below w.heap.size w w' := by
  have dk : decide (ky < 0) = false := decide_eq_false hk
  have dk2 : decide (c.k ≤ ky) = false := decide_eq_false hk2
  obtain ⟨m0, hm0⟩ : ∃ m0 : Um.Mm, m0 = (⟨ws, 0, Um.noT⟩ : Um.Mm) := ⟨_, rfl⟩
  have hws0 : m0.ws = ws := by rw [hm0]
  obtain ⟨A, hA⟩ : ∃ A, A = Um.rdit c x inn12 ky (Um.svN x) (Um.rdbeg c x ky m0) 300 := ⟨_, rfl⟩
  obtain ⟨a1, a2⟩ := Um.rd_all h m0 (by decide) A hA
  rw [hws0] at a2
  have hon : Um.ook x c.s = true := by
    cases q : Um.ook x c.s with
    | true => rfl
    | false => rw [q, if_neg (by decide)] at he; cases he
  have hfl : Um.flN x inn12 (m0.ws (c.cl 4 (Um.svN x)).toNat) = 0 := by
    rw [hon, if_pos rfl] at he
    rw [hws0]
    exact he
  obtain ⟨R, hRR⟩ : ∃ R, R = Um.conf c 1 0 (Um.svN x) (Um.mkw c 0 ky (Um.svN x) ws (c.cl 5 (Um.svN x)).toNat) (Um.mkw c 0 ky (Um.svN x) ws) (Um.othersN (ws (c.cl 8 ky).toNat) 1 (Um.svN x)) := ⟨_, rfl⟩
  have h5 := Um.alone_words h hon (show 0 ≤ ky by omega) (show ky < c.k by omega) m0 hfl A hA R (by rw [hws0]; exact hRR)
  have HRC := hide hRR
  have H5 := hide h5
  have HE0 := hide he
  have HON := hide hon
  have hsi := Um.slot_in hon
  have HSI := hide hsi
  have HC8 := hide (show 0 ≤ c.cl 8 ky by have := (Um.key_cells (c := c) h hsi.1 hsi.2 (show 0 ≤ ky by omega) (show ky < c.k by omega)).1; omega)
  have HC4 := hide (show 0 ≤ c.cl 4 (Um.svN x) by have := (Um.sl_cells (c := c) h hsi.1 hsi.2).1; omega)
  have HLM := hide (show (∀ z ∈ Um.othersN (ws (c.cl 8 ky).toNat) 1 (Um.svN x), 0 ≤ z ∧ z ≤ 11) ∧ (Um.othersN (ws (c.cl 8 ky).toNat) 1 (Um.svN x)).length ≤ 12 from ⟨fun z hz => ⟨(Um.others_mem hz).1, (Um.others_mem hz).2.1⟩, Um.others_len _ _ _⟩)
  clear h5 hRR hon hfl he hsi
  have HKO := hide (fun u => krOf_any x c.s u hx)
  rw [unhide HON, Um.os_yes (unhide HON), ← (Um.ook_facts (unhide HON)).2.2] at HKO
  have HAD := hide a1
  have HHA := hide hA
  have HXX := hide hx
  have HKB := hide hkb
  have hsv := Um.sv_range x
  have HSB := hide (show -9223372036854775808 ≤ Um.svN x ∧ Um.svN x ≤ 9223372036854775807 by omega)
  have HNP := hide (show 0 < c.n from by have := Um.Cf.n_pos h; omega)
  clear a1 a2 hA hx hkb hsv
  have hn := c.n_le
  have hn8 := Um.Cf.n_pos h
  have hX : ∃ g0 off cap, v = .slice (some ⟨g0, off, none⟩) c.n cap ∧ c.n ≤ cap ∧ g0 < w.heap.size ∧ ∀ j, j < c.n → w.cell? ⟨g0, off + j, none⟩ = some (.int .u64 (ws j)) := by
    rcases hv with ⟨_, _, _, e⟩ | ⟨g0, off, cap, e, _, e1, _, e2, e3⟩
    · omega
    · exact ⟨g0, off, cap, e, e1, e2, fun j hj => (e3 j hj).1⟩
  have HV := hide hv
  have HR := hide h
  obtain ⟨g0, off, scap, rfl, hcap, hg0, hxs⟩ := hX
  have HX0 := hide hxs
  clear h hxs
  have hS := Sx.new w
  go_enter Tryz.func4, Tryz.ntmps4
  go_wp2_with (first | (refine ybox hS (h := ?_); clear hS; intro _ _ hS) | (refine yall hS (h := ?_); clear hS; intro _ _ hS) | refine yld hS (h := ?_) | (refine yst hS (h := ?_); clear hS; intro _ hS))
  refine (lOf_x hS c _ ws (unhide HR) (((unhide HV).low.below hS.bel).is hS.bel.size)).mono ?_
  rintro r u ⟨B, C, g, cg, rfl, hc1, hc2, hWn, hSn⟩
  clear hS
  have hS := hSn
  clear hSn
  dsimp only [putL, List.set, List.cons_append, List.nil_append] at hS
  have HW0 := hide hWn
  clear hWn
  go_wp2_with (first | (refine ybox hS (h := ?_); clear hS; intro _ _ hS) | (refine yall hS (h := ?_); clear hS; intro _ _ hS) | refine yld hS (h := ?_) | (refine yst hS (h := ?_); clear hS; intro _ hS))
  have hC0 : (C, rowW ws c.n) = (C, rowW m0.ws c.n) := by rw [hws0]
  rw [hC0, ← hm0] at hS
  have HW1 := hide (show WordsOk c m0 by rw [hm0]; exact unhide HW0)
  clear hC0 hm0 hws0 HW0
  have hS2 := (hS.sublist (l' := [_, _, _, _]) (.cons_cons _ (.cons_cons _ (.cons_cons _ (.cons_cons _ (.cons _ .slnil)))))).noE
  clear hS
  have hS := hS2
  clear hS2
  refine (rdNew_p hS c x ky (unhide HXX) m0).mono ?_
  rintro r u ⟨P, cs, hb, sb, rfl, hA0, hSn⟩
  clear hS
  have hS := hSn
  clear hSn
  dsimp only [putL, List.set, List.cons_append, List.nil_append] at hS
  have HA0 := hide hA0
  clear hA0
  go_wp2_with fail
  obtain ⟨CF, rfl⟩ := nameB hS 0 rfl
  obtain ⟨PL, rfl⟩ := nameB hS 1 rfl
  refine (rdEnds_x (c := c) (h := x) (sl := Um.svN x) (ky := ky) (l := [(CF, [.int .i64 c.t, .int .i64 c.s, .int .i64 c.k, .int .i64 c.g, .int .u64 c.q]), (PL, [.int .u64 (x : Nat), .int .i64 ky, .int .i64 st, .slice la nl cl]), (B, memL c C m0), (C, rowW m0.ws c.n), (P, cs)]) (hx := []) hS 2 3 4 (Um.rdbeg c x ky m0) (unhide HA0) (by rw [Um.rdbeg_m]; rfl) (by rw [Um.rdbeg_m]; rfl) rfl (by decide) (by decide) (by decide) (unhide HR) (unhide HXX) (Um.rok_beg (unhide HW1)) (rdbeg_ook (h := x) (ky := ky)) (unhide HSB) (unhide HKB) 300 (by decide) A (unhide HHA)).mono ?_
  rintro r u ⟨K1, rfl, _, _, _, hOn, cs1, hb1, sb1, hA1, hSn⟩
  clear hS
  have hS := hSn
  clear hSn
  dsimp only [putL, List.set, List.cons_append, List.nil_append] at hS
  have HOA := hide hOn
  clear hOn
  have hz1 := hA1.ended (unhide HAD)
  subst hz1
  have HCS := hide (hA1.done2 (unhide HAD))
  clear hA1 HA0
  have hS2 := hS.noE
  clear hS
  have hS := hS2
  clear hS2
  go_wp2_with (first | (refine ybox hS (h := ?_); clear hS; intro _ _ hS) | (refine yall hS (h := ?_); clear hS; intro _ _ hS) | refine yld hS (h := ?_) | (refine yst hS (h := ?_); clear hS; intro _ hS))
  refine (lBarred_any c x _ (unhide HR) ((unhide HV).below hS.bel (Nat.le_refl _)) (unhide HXX)).mono ?_
  rintro r u ⟨rfl, hb⟩
  replace hS := hS.call hb
  clear hb
  rw [unhide HE0]
  go_wp2_with (first | (refine ybox hS (h := ?_); clear hS; intro _ _ hS) | (refine yall hS (h := ?_); clear hS; intro _ _ hS) | refine yld hS (h := ?_) | (refine yst hS (h := ?_); clear hS; intro _ hS))
  refine ((unhide HKO) _).mono ?_
  rintro r u ⟨rfl, rfl⟩
  clear HKO
  go_wp2_with (first | (refine ybox hS (h := ?_); clear hS; intro _ _ hS) | (refine yall hS (h := ?_); clear hS; intro _ _ hS) | refine yld hS (h := ?_) | (refine yst hS (h := ?_); clear hS; intro _ hS))
  clear dk dk2
  have HIW := hide ((unhide HV).below hS.bel (Nat.le_refl _))
  refine (lAt_any c (kd := 8) (i := ky) _ (unhide HIW) (unhide HC8)).mono ?_
  rintro r u ⟨rfl, hb⟩
  have HIWn := hide ((unhide HIW).below hb (Nat.le_refl _))
  replace hS := hS.call hb
  clear hb HIW
  have HIW := HIWn
  clear HIWn
  have HW8 := hide (show Um.Word (ws (c.cl 8 ky).toNat) from words_word12 (unhide HIW) (Um.Cf.cl_lt (unhide HC8)))
  go_wp2_with fail
  have k0 := fun w1 (hq : (BlkAt w1 CF [.int .i64 c.t, .int .i64 c.s, .int .i64 c.k, .int .i64 c.g, .int .u64 c.q] ∧ BlkAt w1 PL [.int .u64 (x : Nat), .int .i64 ky, .int .i64 st, .slice la nl cl])) => hq.1.cell 0 _ rfl
  have k1 := fun w1 (hq : (BlkAt w1 CF [.int .i64 c.t, .int .i64 c.s, .int .i64 c.k, .int .i64 c.g, .int .u64 c.q] ∧ BlkAt w1 PL [.int .u64 (x : Nat), .int .i64 ky, .int .i64 st, .slice la nl cl])) => hq.1.cell 1 _ rfl
  have k2 := fun w1 (hq : (BlkAt w1 CF [.int .i64 c.t, .int .i64 c.s, .int .i64 c.k, .int .i64 c.g, .int .u64 c.q] ∧ BlkAt w1 PL [.int .u64 (x : Nat), .int .i64 ky, .int .i64 st, .slice la nl cl])) => hq.1.cell 2 _ rfl
  have k3 := fun w1 (hq : (BlkAt w1 CF [.int .i64 c.t, .int .i64 c.s, .int .i64 c.k, .int .i64 c.g, .int .u64 c.q] ∧ BlkAt w1 PL [.int .u64 (x : Nat), .int .i64 ky, .int .i64 st, .slice la nl cl])) => hq.1.cell 3 _ rfl
  have k4 := fun w1 (hq : (BlkAt w1 CF [.int .i64 c.t, .int .i64 c.s, .int .i64 c.k, .int .i64 c.g, .int .u64 c.q] ∧ BlkAt w1 PL [.int .u64 (x : Nat), .int .i64 ky, .int .i64 st, .slice la nl cl])) => hq.1.cell 4 _ rfl
  have k6 := fun w1 (hq : (BlkAt w1 CF [.int .i64 c.t, .int .i64 c.s, .int .i64 c.k, .int .i64 c.g, .int .u64 c.q] ∧ BlkAt w1 PL [.int .u64 (x : Nat), .int .i64 ky, .int .i64 st, .slice la nl cl])) => hq.2.cell 1 _ rfl
  have HP := hide (And.intro (hS.get 0 rfl) (hS.get 1 rfl))
  have HS3 := hide hS
  clear hS
  go_region_held3 (fun w1 => (BlkAt w1 CF [.int .i64 c.t, .int .i64 c.s, .int .i64 c.k, .int .i64 c.g, .int .u64 c.q] ∧ BlkAt w1 PL [.int .u64 (x : Nat), .int .i64 ky, .int .i64 st, .slice la nl cl])) (first | exact ⟨(unhide HP).1.drew, (unhide HP).2.drew⟩ | exact hPn | assumption) (first | (go_at_call 25; refine (of12_any _ _ _).mono ?_; rintro e u5 ⟨rfl, hb5⟩; have hIa := IsWords.below (by first | exact hIa | exact isWords_drew (unhide HIW)) hb5 (Nat.le_refl _); have hSa := Sx.call (by first | exact hSa | exact (unhide HS3).drew) hb5; have hPn := And.intro (hSa.get 0 rfl) (hSa.get 1 rfl)) | (go_at_call 26; refine (mrWith_any _ 0 (Um.svN x) _ (unhide HW8)).mono ?_; rintro e u6 ⟨rfl, rfl⟩) | (go_at_call 24; refine (lPut_any c (kd := 8) (i := ky) _ (by first | exact hIa | exact isWords_drew (unhide HIW)) (unhide HC8) (Um.with_word (unhide HW8) _ _)).mono ?_; rintro e u7 ⟨v2, rfl, hI2, hb5⟩; have hSa := Sx.call (by first | exact hSa | exact (unhide HS3).drew) hb5; have hPn := And.intro (hSa.get 0 rfl) (hSa.get 1 rfl)))
  have hS := hSa
  rw [Um.mk_put (unhide HC8)] at hI2
  clear hSa hPn HS3 HP HIW hb5 hIa
  have HIW := hide hI2
  clear hI2
  go_wp2_with fail
  have HP := hide (And.intro (hS.get 0 rfl) (hS.get 1 rfl))
  have HS3 := hide hS
  clear hS
  go_region_held3 (fun w1 => (BlkAt w1 CF [.int .i64 c.t, .int .i64 c.s, .int .i64 c.k, .int .i64 c.g, .int .u64 c.q] ∧ BlkAt w1 PL [.int .u64 (x : Nat), .int .i64 ky, .int .i64 st, .slice la nl cl])) (first | exact ⟨(unhide HP).1.drew, (unhide HP).2.drew⟩ | exact hPn | assumption) (first | (go_at_call 28; refine (mrOthers_any _ 1 (Um.svN x) _ (unhide HW8)).mono ?_; rintro e u5 ⟨vo, rfl, hq, hb5⟩; obtain ⟨oa, on, oc, osb, rfl, hsb, hIr⟩ := row_blk12 hq; have hIr2 := hIr u5 (fun p hp => (hsb p hp).1); have hIa := IsWords.below (isWords_drew (unhide HIW)) hb5 (Nat.le_refl _); have hSa := Sx.call (by first | exact hSa | exact (unhide HS3).drew) hb5; have hPn := And.intro (hSa.get 0 rfl) (hSa.get 1 rfl)) | (go_at_call 27; refine (lConf_any c _ (unhide HR) (unhide HSI).1 (unhide HSI).2 hIa hIr2 (unhide HLM).1 (unhide HLM).2 R (unhide HRC)).mono ?_; rintro e u7 ⟨v3, rfl, hI3, hb6⟩; have hSa := Sx.call (by first | exact hSa | exact (unhide HS3).drew) hb6; have hPn := And.intro (hSa.get 0 rfl) (hSa.get 1 rfl)))
  have hS := hSa
  clear hSa hPn HS3 HP HIW hb5 hb6 hIa hIr hIr2 hsb hq
  have HIW := hide hI3
  clear hI3
  cases hmay : R.2 with
  | true =>
    have H6 := hide (show A.e = 0 ∧ A.m.ws = R.1 by
      obtain ⟨p, q⟩ := unhide H5
      rw [hmay, if_pos rfl] at p q
      exact ⟨p, q⟩)
    clear hmay
    go_wp2_with fail
    refine (rAlive_any _).mono ?_
    rintro r u ⟨rfl, hb⟩
    have HIWn := hide ((unhide HIW).below hb (Nat.le_refl _))
    replace hS := hS.call hb
    clear hb HIW
    have HIW := HIWn
    clear HIWn
    go_wp2_with fail
    refine (rDone_n (hS.get 4 rfl) (unhide HCS).1).mono ?_
    rintro r u ⟨rfl, rfl⟩
    go_wp2_with fail
    refine (rError_n (hS.get 4 rfl) (unhide HCS).1 (unhide HCS).2).mono ?_
    rintro r u ⟨rfl, rfl⟩
    rw [(unhide H6).1]
    go_wp2_with fail
    refine (mCells_any (hS.mem 2 3 rfl rfl (by decide) (unhide HR) (unhide HOA).wd)).mono ?_
    rintro r u ⟨rfl, hg, hb⟩
    have HIWn := hide ((unhide HIW).below hb (Nat.le_refl _))
    have hSn := hS.add hb (blkAt_new hg) (Nat.le_refl _)
    clear hS hb HIW hg
    have hS := hSn
    have HIW := HIWn
    clear HIWn hSn
    dsimp only [List.cons_append, List.nil_append] at hS
    go_wp2_with fail
    have hmx : c.n ≤ maxLen := Nat.le_trans hn (by decide)
    refine (rSame_true (isWords_blk (hS.get 5 rfl) (unhide HNP) hmx (unhide HOA).wd) (unhide HIW) (by omega) (fun j hj => by rw [(unhide H6).2])).mono ?_
    rintro r u ⟨rfl, hb⟩
    replace hS := hS.call hb
    have hB := hS.bel
    clear hb hS
    go_wp2
    go_ret
    exact ⟨rfl, hB⟩
  | false =>
    have H6 := hide (show A.e = 7 ∧ A.m.ws = Um.putW R.1 (c.cl 4 (Um.svN x)).toNat (Um.moveN (R.1 (c.cl 4 (Um.svN x)).toNat) 5 false) by
      obtain ⟨p, q⟩ := unhide H5
      rw [hmay, if_neg (by decide)] at p q
      exact ⟨p, q⟩)
    clear hmay
    go_wp2_with fail
    have HP := hide (And.intro (hS.get 0 rfl) (hS.get 1 rfl))
    have HS3 := hide hS
    clear hS
    go_region_held3 (fun w1 => (BlkAt w1 CF [.int .i64 c.t, .int .i64 c.s, .int .i64 c.k, .int .i64 c.g, .int .u64 c.q] ∧ BlkAt w1 PL [.int .u64 (x : Nat), .int .i64 ky, .int .i64 st, .slice la nl cl])) (first | exact ⟨(unhide HP).1.drew, (unhide HP).2.drew⟩ | exact hPn | assumption) (first | (go_at_call 25; refine (of12_any _ _ _).mono ?_; rintro e u5 ⟨rfl, hb5⟩; have hIa := IsWords.below (by first | exact hIa | exact isWords_drew (unhide HIW)) hb5 (Nat.le_refl _); have hSa := Sx.call (by first | exact hSa | exact (unhide HS3).drew) hb5; have hPn := And.intro (hSa.get 0 rfl) (hSa.get 1 rfl)) | (go_at_call 23; refine (lAt_any c (kd := 4) (i := Um.svN x) _ (by first | exact hIa | exact isWords_drew (unhide HIW)) (unhide HC4)).mono ?_; rintro e u5 ⟨rfl, hb5⟩; have hIa := IsWords.below (by first | exact hIa | exact isWords_drew (unhide HIW)) hb5 (Nat.le_refl _); have hSa := Sx.call (by first | exact hSa | exact (unhide HS3).drew) hb5; have hPn := And.intro (hSa.get 0 rfl) (hSa.get 1 rfl)) | (go_at_call 29; refine (drew_below (refMove_any _ 5 false _ (words_word12 (unhide HIW) (Um.Cf.cl_lt (unhide HC4))))).mono ?_; rintro e u5 ⟨rfl, hb5⟩; have hIa := IsWords.below (by first | exact hIa | exact isWords_drew (unhide HIW)) hb5 (Nat.le_refl _); have hSa := Sx.call (by first | exact hSa | exact (unhide HS3).drew) hb5; have hPn := And.intro (hSa.get 0 rfl) (hSa.get 1 rfl)) | (go_at_call 24; refine (lPut_any c (kd := 4) (i := Um.svN x) _ (by first | exact hIa | exact isWords_drew (unhide HIW)) (unhide HC4) (Um.move_word (words_word12 (unhide HIW) (Um.Cf.cl_lt (unhide HC4))) (by decide))).mono ?_; rintro e u7 ⟨v4, rfl, hI4, hb5⟩; have hSa := Sx.call (by first | exact hSa | exact (unhide HS3).drew) hb5; have hPn := And.intro (hSa.get 0 rfl) (hSa.get 1 rfl)))
    all_goals
      have hS := hSa
      clear hSa hPn HS3 HP HIW
      have HIW := hide hI4
      clear hI4
      go_wp2_with fail
      refine (rAlive_any _).mono ?_
      rintro r u ⟨rfl, hb⟩
      have HIWn := hide ((unhide HIW).below hb (Nat.le_refl _))
      replace hS := hS.call hb
      clear hb HIW
      have HIW := HIWn
      clear HIWn
      go_wp2_with fail
      refine (rDone_n (hS.get 4 rfl) (unhide HCS).1).mono ?_
      rintro r u ⟨rfl, rfl⟩
      go_wp2_with fail
      refine (rError_n (hS.get 4 rfl) (unhide HCS).1 (unhide HCS).2).mono ?_
      rintro r u ⟨rfl, rfl⟩
      rw [(unhide H6).1]
      go_wp2_with fail
      refine (mCells_any (hS.mem 2 3 rfl rfl (by decide) (unhide HR) (unhide HOA).wd)).mono ?_
      rintro r u ⟨rfl, hg, hb⟩
      have HIWn := hide ((unhide HIW).below hb (Nat.le_refl _))
      have hSn := hS.add hb (blkAt_new hg) (Nat.le_refl _)
      clear hS hb HIW hg
      have hS := hSn
      have HIW := HIWn
      clear HIWn hSn
      dsimp only [List.cons_append, List.nil_append] at hS
      go_wp2_with fail
      have hmx : c.n ≤ maxLen := Nat.le_trans hn (by decide)
      refine (rSame_true (isWords_blk (hS.get 5 rfl) (unhide HNP) hmx (unhide HOA).wd) (unhide HIW) (by omega) (fun j hj => by rw [(unhide H6).2])).mono ?_
      rintro r u ⟨rfl, hb⟩
      replace hS := hS.call hb
      have hB := hS.bel
      clear hb hS
      go_wp2
      go_ret
      exact ⟨rfl, hB⟩

theorem walk {H : Type} {enc : TypeId × Value → H} {base : Nat} {v0 v1 v2 : Value} {d0 d1 d2 : DataW H} {p0 p1 p2 : List MemPlace} (w : World)
    (hv0 : Value.okWide Tryz.prog w .any base 24 v0) (h0 : DataW.Trod enc Tryz.prog w 0 (fun _ => true) true 24 v0 d0 p0)
    (hv1 : Value.okWide Tryz.prog w .any base 25 v1) (h1 : DataW.Trod enc Tryz.prog w 0 (fun _ => true) true 25 v1 d1 p1)
    (hv2 : Value.okWide Tryz.prog w .any base 28 v2) (h2 : DataW.Trod enc Tryz.prog w 0 (fun _ => true) true 28 v2 d2 p2) :
    Calls Tryz.prog 4 #[v0, v1, v2] w fun e w' => e = .returned (.bool true) ∧ Below w.heap.size w w' := by
  obtain ⟨ct, s, k, g, q, rfl, hsb⟩ := open_cfg hv0 h0
  obtain ⟨n, ws, hI⟩ := open_words hv1 h1
  obtain ⟨x, ky, st, la, nl, cl, Z, rfl, hx, hkb, hnc, hZ⟩ := open_play12 hv2 h2
  cases hr : (⟨ct, s, k, g, q⟩ : Um.Cf).r with
  | false =>
    obtain ⟨sw, cap, rfl⟩ := words_len hI
    exact walk_wrong w ⟨ct, s, k, g, q⟩ sw n cap x ky st la nl cl hx hr
  | true =>
    by_cases hn : n = (⟨ct, s, k, g, q⟩ : Um.Cf).n
    · subst hn
      by_cases hk : ky < 0
      · exact walk_k1 w ⟨ct, s, k, g, q⟩ v1 ws x ky st la nl cl hr hI hx hkb hk
      by_cases hk2 : k ≤ ky
      · exact walk_k2 w ⟨ct, s, k, g, q⟩ v1 ws x ky st la nl cl hr hI hx hkb hk hk2
      by_cases he : (if Um.ook x s = true then Um.flN x inn12 (ws ((⟨ct, s, k, g, q⟩ : Um.Cf).cl 4 (Um.svN x)).toNat) else 2) = 0
      · exact walk_right w ⟨ct, s, k, g, q⟩ v1 ws x ky st la nl cl hr hI hx hkb hk hk2 he
      · exact walk_not w ⟨ct, s, k, g, q⟩ v1 ws x ky st la nl cl hr hI hx hkb hk hk2 he
    · obtain ⟨sw, cap, rfl⟩ := words_len hI
      exact walk_short w ⟨ct, s, k, g, q⟩ sw n cap x ky st la nl cl hx hr hn

set_option maxRecDepth 100000 in
theorem lifted (os : Os) (started : os.Started) (H : Type) (enc : TypeId × Value → H) :
    ReturnsInHanded {} Tryz.checked os 4 .any (Rows.readAloneSpec.pre6 enc Tryz.prog Tryz.f4 Rows.readAloneRow.domain false) (Rows.readAloneSpec.post enc Tryz.prog Tryz.f4 false true false false) := by
  refine returnsInHanded_of_change (C := Tryz.checked) own started (by kernel_rfl) Tryz.func4
    (ChangeSpec.witness6 (enc := enc) (C := Tryz.checked) false ⟨#[], #[.agg #[.int .i64 0, .int .i64 0, .int .i64 0, .int .i64 0, .int .u64 0], .slice none 0 0, .agg #[.int .u64 0, .int .i64 0, .int .i64 0, .slice none 0 0]], []⟩ 8 (by kernel_rfl) (by kernel_rfl) (by kernel_rfl) (by kernel_rfl)) ?_
  intro W base args ds gs before hval0 hW hcnd _
  have hval : ∀ (j : Nat) t v, Tryz.f4.params[j]? = some t → args[j]? = some v → Value.okWide Tryz.prog W .any base t v := hval0
  have hW' := hW
  obtain ⟨p, q, hA0, hV, rfl, hfz, hnd⟩ := hW
  have hA : DataW.TrodAll enc Tryz.prog W 0 (fun _ => true) true Tryz.f4.params.toList args.toList ds p := hA0
  rw [Tryz.params4] at hA hval
  obtain ⟨v0, vs0, d0, ds0, p0, q0, hargs, rfl, rfl, h0, r0⟩ := trodAll_cons hA
  obtain ⟨v1, vs1, d1, ds1, p1, q1, rfl, rfl, rfl, h1, r1⟩ := trodAll_cons r0
  obtain ⟨v2, vs2, d2, ds2, p2, q2, rfl, rfl, rfl, h2, r2⟩ := trodAll_cons r1
  obtain ⟨rfl, rfl, rfl⟩ := trodAll_nil r2
  obtain rfl : args = #[v0, v1, v2] := by cases args; simp_all
  obtain ⟨rfl, rfl⟩ := trodVars_none hV
  have k0 := h0
  have lt0 : ∀ x ∈ p0, x.block < W.heap.size := by obtain ⟨m, hm⟩ := k0; exact DataW.trod_lt m _ _ _ hm
  have k1 := h1
  have lt1 : ∀ x ∈ p1, x.block < W.heap.size := by obtain ⟨m, hm⟩ := k1; exact DataW.trod_lt m _ _ _ hm
  have k2 := h2
  have lt2 : ∀ x ∈ p2, x.block < W.heap.size := by obtain ⟨m, hm⟩ := k2; exact DataW.trod_lt m _ _ _ hm
  refine (walk W (hval 0 24 v0 rfl rfl) h0 (hval 1 25 v1 rfl rfl) h1 (hval 2 28 v2 rfl rfl) h2).mono fun e W' ⟨he, bel⟩ => ?_
  subst he
  exact ⟨_, rfl, _, _, _, [], _, [], hW', trodAll_mk1 (shut_bool Tryz.underlying4 _), (trodAll_cons_mk (Below.trod laidOut (by kernel_rfl) (of_decide_eq_true (by kernel_rfl)) k0 bel lt0) (trodAll_cons_mk (Below.trod laidOut (by kernel_rfl) (of_decide_eq_true (by kernel_rfl)) k1 bel lt1) (trodAll_cons_mk (Below.trod laidOut (by kernel_rfl) (of_decide_eq_true (by kernel_rfl)) k2 bel lt2) trodAll_mk0))), rfl, bel.frame _, fun h => by cases h⟩

theorem ReadAlone_proved : Rows.ReadAloneSaid :=
  OpenClaim.holds_of_wide 4 Tryz.f4 rfl rfl rfl rfl rfl rfl rfl ⟨rfl, rfl, rfl, rfl, rfl⟩ rfl rfl rfl rfl rfl (by kernel_rfl) Tryz.func4 (by kernel_rfl)
    (of_decide_eq_true (by kernel_rfl)) (by unfold Func.isWrapper; first | (rw [if_pos (by decide +kernel)]; kernel_rfl) | (rw [if_neg (by decide +kernel)]; exact ⟨rfl, rfl⟩))
    (fun os started H enc _ => lifted os started H enc)

end Go.Proofs.YtapgghciieloaaaGreat.readAlone
