/-
  For every world's size, words and play, the law ReadOnly answers true: a read changes nothing but the key's word, and statuses; of these nothing but conflicts, and its own one's state and business. Conditions: none.
-/
import Derived.Test.YtapgghciieloaaaGreatRows
import Derived.Test.YtapgghciieloaaaGreatK12
import Derived.Test.YtapgghciieloaaaGreatK1
import Derived.Test.YtapgghciieloaaaGreatK2
import Derived.Test.YtapgghciieloaaaGreatK5
import Derived.Test.YtapgghciieloaaaGreatK4
import Derived.Test.YtapgghciieloaaaGreatK3
import Derived.WalkKit
import Derived.ProofKit
import Derived.OpenShut
import Derived.ShutString
import Derived.LoopTactic
import Derived.Lib.QuietBelow
import Derived.Deep.DeepCutAuto
namespace Go.Proofs.YtapgghciieloaaaGreat.readOnly
set_option maxRecDepth 100000
open Go.ChangeShapes Go.WideShapes Go.ChangeAt Go.RowKit Go.Sort
set_option linter.unusedVariables false
set_option linter.unusedSimpArgs false

theorem own : ownKnob Tryz.prog.godebug = none := by kernel_rfl
theorem laidOut : laidOutB Tryz.prog = true := by kernel_rfl

theorem isWords_words {W : World} {v : Value} {n : Nat} {ws : Nat → Nat} (h : IsWords W v n ws) : ∀ i, i < n → Um.Word (ws i) := by
  rcases h with ⟨_, _, _, e⟩ | ⟨_, _, _, _, _, _, _, _, e⟩
  · intro i hi; omega
  · exact fun i hi => (e i hi).2

theorem quo12 {z : Nat} (hz : Um.Word z) : (IntKind.u64.wrap ((z : Int) / 4096)).tmod 4096 = ((z / 4096 % 4096 : Nat) : Int) := by
  have e : IntKind.u64.wrap ((z : Int) / 4096) = ((z / 4096 : Nat) : Int) := by
    unfold Um.Word at hz
    rw [IntKind.wrap_u64]
    omega
  rw [e]
  rfl

set_option maxHeartbeats 2000000 in
theorem walk_wrong (w : World) (c : Um.Cf) (a : Option Addr) (n cap : Nat) (x : Nat) (ky st : Int) (la : Option Addr) (nl cl : Nat) (hx : Um.Word x) (h : c.r = false) :
    Calls Tryz.prog 7 #[(.agg #[.int .i64 (c.t), .int .i64 (c.s), .int .i64 (c.k), .int .i64 (c.g), .int .u64 (c.q : Int)]), .slice a n cap, .agg #[.int .u64 (x : Nat), .int .i64 ky, .int .i64 st, .slice la nl cl]] w fun e w' => e = .returned (.bool true) ∧ Below w.heap.size w w' := by
  have HL := hide (fun w => lOf_wrong c a n cap w h)
  clear h
  have HXX := hide hx
  clear hx
  have hS := Sx.new w
  go_enter Tryz.func7, Tryz.ntmps7
  go_wp2_with (first | (refine ybox hS (h := ?_); clear hS; intro _ _ hS) | (refine yall hS (h := ?_); clear hS; intro _ _ hS) | refine yld hS (h := ?_) | (refine yst hS (h := ?_); clear hS; intro _ hS))
  refine ((unhide HL) _).mono ?_
  rintro r u ⟨rfl, hb⟩
  replace hS := hS.call hb
  clear hb HL
  go_wp2_with (first | (refine ybox hS (h := ?_); clear hS; intro _ _ hS) | (refine yall hS (h := ?_); clear hS; intro _ _ hS) | refine yld hS (h := ?_) | (refine yst hS (h := ?_); clear hS; intro _ hS))
  refine (rdNew_p hS c x ky (unhide HXX) ⟨fun _ => 0, 0, Um.noT⟩).mono ?_
  rintro r u ⟨P, cs, hb, sb, rfl, _, hSn⟩
  clear hS
  have hS := hSn
  clear hSn
  dsimp only [putL, List.set, List.cons_append, List.nil_append] at hS
  go_wp2_with fail
  refine (rAlive_any _).mono ?_
  rintro r u ⟨rfl, hb⟩
  replace hS := hS.call hb
  have hB := hS.bel
  clear hb hS
  go_wp2
  go_ret
  exact ⟨rfl, hB⟩

set_option maxHeartbeats 2000000 in
theorem walk_short (w : World) (c : Um.Cf) (a : Option Addr) (n cap : Nat) (x : Nat) (ky st : Int) (la : Option Addr) (nl cl : Nat) (hx : Um.Word x) (h : c.r = true) (hn : n ≠ c.n) :
    Calls Tryz.prog 7 #[(.agg #[.int .i64 (c.t), .int .i64 (c.s), .int .i64 (c.k), .int .i64 (c.g), .int .u64 (c.q : Int)]), .slice a n cap, .agg #[.int .u64 (x : Nat), .int .i64 ky, .int .i64 st, .slice la nl cl]] w fun e w' => e = .returned (.bool true) ∧ Below w.heap.size w w' := by
  have HL := hide (fun w => lOf_short c a n cap w h hn)
  clear h hn
  have HXX := hide hx
  clear hx
  have hS := Sx.new w
  go_enter Tryz.func7, Tryz.ntmps7
  go_wp2_with (first | (refine ybox hS (h := ?_); clear hS; intro _ _ hS) | (refine yall hS (h := ?_); clear hS; intro _ _ hS) | refine yld hS (h := ?_) | (refine yst hS (h := ?_); clear hS; intro _ hS))
  refine ((unhide HL) _).mono ?_
  rintro r u ⟨rfl, hb⟩
  replace hS := hS.call hb
  clear hb HL
  go_wp2_with (first | (refine ybox hS (h := ?_); clear hS; intro _ _ hS) | (refine yall hS (h := ?_); clear hS; intro _ _ hS) | refine yld hS (h := ?_) | (refine yst hS (h := ?_); clear hS; intro _ hS))
  refine (rdNew_p hS c x ky (unhide HXX) ⟨fun _ => 0, 0, Um.noT⟩).mono ?_
  rintro r u ⟨P, cs, hb, sb, rfl, _, hSn⟩
  clear hS
  have hS := hSn
  clear hSn
  dsimp only [putL, List.set, List.cons_append, List.nil_append] at hS
  go_wp2_with fail
  refine (rAlive_any _).mono ?_
  rintro r u ⟨rfl, hb⟩
  replace hS := hS.call hb
  have hB := hS.bel
  clear hb hS
  go_wp2
  go_ret
  exact ⟨rfl, hB⟩

set_option maxRecDepth 100000 in
set_option maxHeartbeats 16000000 in
theorem walk_right (w : World) (c : Um.Cf) (v : Value) (ws : Nat → Nat) (x : Nat) (ky st : Int) (la : Option Addr) (nl cl : Nat) (h : c.r = true) (hv : IsWords w v c.n ws) (hx : Um.Word x) (hkb : -9223372036854775808 ≤ ky ∧ ky ≤ 9223372036854775807) :
    Calls Tryz.prog 7 #[(.agg #[.int .i64 (c.t), .int .i64 (c.s), .int .i64 (c.k), .int .i64 (c.g), .int .u64 (c.q : Int)]), v, .agg #[.int .u64 (x : Nat), .int .i64 ky, .int .i64 st, .slice la nl cl]] w fun e w' => e = .returned (.bool true) ∧ Below w.heap.size w w' := by
  obtain ⟨m0, hm0⟩ : ∃ m0 : Um.Mm, m0 = (⟨ws, 0, Um.noT⟩ : Um.Mm) := ⟨_, rfl⟩
  have hws0 : m0.ws = ws := by rw [hm0]
  obtain ⟨A, hA⟩ : ∃ A, A = Um.rdit c x inn12 ky (Um.svN x) (Um.rdbeg c x ky m0) 300 := ⟨_, rfl⟩
  obtain ⟨a1, a2⟩ := Um.rd_all h m0 (by decide) A hA
  rw [hws0] at a2
  obtain ⟨sl, hsl⟩ : ∃ sl, sl = Um.osN x c.s := ⟨_, rfl⟩
  have HON := hide (show ∀ i, i < c.n → A.m.ws i ≠ ws i → ((Um.atK c.r c.t c.s c.k (i : Int) = 8 ∧ Um.atO c.r c.t c.s c.k (i : Int) = ky) ∧ A.m.ws i = Um.withN (ws i) 0 sl) ∨ ((Um.atK c.r c.t c.s c.k (i : Int) = 4 ∧ Um.atO c.r c.t c.s c.k (i : Int) = sl) ∧ Um.gnN (A.m.ws i) = Um.gnN (ws i) ∧ Um.part (A.m.ws i) 12 12 = Um.part (ws i) 12 12) ∨ ((Um.atK c.r c.t c.s c.k (i : Int) = 4 ∧ Um.atO c.r c.t c.s c.k (i : Int) ≠ sl) ∧ A.m.ws i = Um.withN (ws i) 1 sl) from fun i hi hd => by
    obtain ⟨_, _, o1, o2⟩ := Um.only_all h a2 hi hd
    rw [hsl, Um.os_yes o1, ← (Um.ook_facts o1).2.2]
    exact o2)
  have HKO := hide (fun u => krOf_any x c.s u hx)
  rw [← hsl] at HKO
  have HAD := hide a1
  have HHA := hide hA
  have HXX := hide hx
  have HKB := hide hkb
  have hsv := Um.sv_range x
  have HSB := hide (show -9223372036854775808 ≤ Um.svN x ∧ Um.svN x ≤ 9223372036854775807 by omega)
  have HWW := hide (isWords_words hv)
  clear a1 a2 hA hx hkb hsv hsl
  have hn := c.n_le
  have hn8 := Um.Cf.n_pos h
  have hX : ∃ g0 off cap, v = .slice (some ⟨g0, off, none⟩) c.n cap ∧ c.n ≤ cap ∧ g0 < w.heap.size ∧ ∀ j, j < c.n → w.cell? ⟨g0, off + j, none⟩ = some (.int .u64 (ws j)) := by
    rcases hv with ⟨_, _, _, e⟩ | ⟨g0, off, cap, e, _, e1, _, e2, e3⟩
    · omega
    · exact ⟨g0, off, cap, e, e1, e2, fun j hj => (e3 j hj).1⟩
  have HV := hide hv
  have HR := hide h
  obtain ⟨g0, off, scap, rfl, hcap, hg0, hxs⟩ := hX
  have HX0 := hide hxs
  clear h hxs
  clear hv
  have hS := Sx.new w
  go_enter Tryz.func7, Tryz.ntmps7
  go_wp2_with (first | (refine ybox hS (h := ?_); clear hS; intro _ _ hS) | (refine yall hS (h := ?_); clear hS; intro _ _ hS) | refine yld hS (h := ?_) | (refine yst hS (h := ?_); clear hS; intro _ hS))
  refine (lOf_x hS c _ ws (unhide HR) (((unhide HV).low.below hS.bel).is hS.bel.size)).mono ?_
  rintro r u ⟨B, C, g, cg, rfl, hc1, hc2, hWn, hSn⟩
  clear hS
  have hS := hSn
  clear hSn
  dsimp only [putL, List.set, List.cons_append, List.nil_append] at hS
  have HW0 := hide hWn
  clear hWn
  go_wp2_with (first | (refine ybox hS (h := ?_); clear hS; intro _ _ hS) | (refine yall hS (h := ?_); clear hS; intro _ _ hS) | refine yld hS (h := ?_) | (refine yst hS (h := ?_); clear hS; intro _ hS))
  have hC0 : (C, rowW ws c.n) = (C, rowW m0.ws c.n) := by rw [hws0]
  rw [hC0, ← hm0] at hS
  have HW1 := hide (show WordsOk c m0 by rw [hm0]; exact unhide HW0)
  clear hC0 hm0 hws0 HW0
  have hS2 := (hS.sublist (l' := [_, _, _, _]) (.cons_cons _ (.cons_cons _ (.cons_cons _ (.cons_cons _ (.cons _ .slnil)))))).noE
  clear hS
  have hS := hS2
  clear hS2
  refine (rdNew_p hS c x ky (unhide HXX) m0).mono ?_
  rintro r u ⟨P, cs, hb, sb, rfl, hA0, hSn⟩
  clear hS
  have hS := hSn
  clear hSn
  dsimp only [putL, List.set, List.cons_append, List.nil_append] at hS
  have HA0 := hide hA0
  clear hA0
  go_wp2_with fail
  obtain ⟨CF, rfl⟩ := nameB hS 0 rfl
  obtain ⟨PL, rfl⟩ := nameB hS 1 rfl
  refine (rdEnds_x (c := c) (h := x) (sl := Um.svN x) (ky := ky) (l := [(CF, [.int .i64 c.t, .int .i64 c.s, .int .i64 c.k, .int .i64 c.g, .int .u64 c.q]), (PL, [.int .u64 (x : Nat), .int .i64 ky, .int .i64 st, .slice la nl cl]), (B, memL c C m0), (C, rowW m0.ws c.n), (P, cs)]) (hx := []) hS 2 3 4 (Um.rdbeg c x ky m0) (unhide HA0) (by rw [Um.rdbeg_m]; rfl) (by rw [Um.rdbeg_m]; rfl) rfl (by decide) (by decide) (by decide) (unhide HR) (unhide HXX) (Um.rok_beg (unhide HW1)) (rdbeg_ook (h := x) (ky := ky)) (unhide HSB) (unhide HKB) 300 (by decide) A (unhide HHA)).mono ?_
  rintro r u ⟨K1, rfl, _, _, _, hOn, cs1, hb1, sb1, hA1, hSn⟩
  clear hS
  have hS := hSn
  clear hSn
  dsimp only [putL, List.set, List.cons_append, List.nil_append] at hS
  have HOA := hide hOn
  clear hOn
  have hz1 := hA1.ended (unhide HAD)
  subst hz1
  have HCS := hide (hA1.done2 (unhide HAD))
  clear hA1 HA0
  have hS2 := hS.noE
  clear hS
  have hS := hS2
  clear hS2
  go_wp2_with (first | (refine ybox hS (h := ?_); clear hS; intro _ _ hS) | (refine yall hS (h := ?_); clear hS; intro _ _ hS) | refine yld hS (h := ?_) | (refine yst hS (h := ?_); clear hS; intro _ hS))
  refine ((unhide HKO) _).mono ?_
  rintro r u ⟨rfl, rfl⟩
  clear HKO
  go_wp2_with fail
  refine (cells_x hS 2 3 rfl rfl (by decide) (unhide HR) (unhide HOA).wd).mono ?_
  rintro r u ⟨X, rfl, hSn⟩
  clear hS
  have hS := hSn
  clear hSn
  dsimp only [putL, List.set, List.cons_append, List.nil_append] at hS
  go_wp2_with fail
  go_loopw [56] (fun iv wr => ∃ j : Nat, j ≤ c.n ∧ iv = .int .i64 j ∧ Hid (Sx [] w wr [(CF, [.int .i64 c.t, .int .i64 c.s, .int .i64 c.k, .int .i64 c.g, .int .u64 c.q]), (PL, [.int .u64 (x : Nat), .int .i64 ky, .int .i64 st, .slice la nl cl]), (B, memL c C A.m), (C, rowW A.m.ws c.n), (P, cs1), (X, rowW A.m.ws c.n)] [])) (fun iv _ => c.n - (intOf iv).toNat)
  case atStart => exact ⟨0, by omega, rfl, hide hS⟩
  case round =>
    clear hS
    rename_i wr
    obtain ⟨j, hj, rfl, HS⟩ := hrel
    have hS := unhide HS
    clear HS
    by_cases hlt : j < c.n
    · have hlti : (j : Int) < (c.n : Int) := by omega
      have c0 := (hS.get 5 rfl).cell j _ (rowW_get A.m.ws c.n j hlt)
      have HQ9 := hide (show ∀ w', Below w.heap.size w w' → w'.cell? ⟨g0, off + j, none⟩ = some (.int .u64 (ws j)) from fun w' hb => (hb.cell (p := ⟨g0, off + j, none⟩) hg0).trans ((unhide HX0) j hlt))
      have HA5 := hide (show ∀ W, Calls Tryz.prog 36 #[(.agg #[.int .i64 (c.t), .int .i64 (c.s), .int .i64 (c.k), .int .i64 (c.g), .int .u64 (c.q : Int)]), .int .i64 (j : Int)] W fun e w' => e = .returned (.agg #[.int .i64 (Um.atK c.r c.t c.s c.k j), .int .i64 (Um.atO c.r c.t c.s c.k j)]) ∧ Below W.heap.size W w' from fun W => cAt_any c.t c.s c.k c.g c.q (j : Int) W (by omega))
      have HMA := hide ((unhide HON) j hlt)
      have HXW := hide ((unhide HWW) j hlt)
      have HYW := hide ((unhide HOA).wd j hlt)
      generalize Um.atK c.r c.t c.s c.k (j : Int) = ak at HA5 HMA
      generalize Um.atO c.r c.t c.s c.k (j : Int) = ao at HA5 HMA
      generalize hxj : ws j = xj at HQ9 HMA HXW
      generalize hyj : A.m.ws j = yj at c0 HMA HYW
      clear hxj hyj
      go_wp2_with (first | (refine ybox hS (h := ?_); clear hS; intro _ _ hS) | (refine yall hS (h := ?_); clear hS; intro _ _ hS) | refine yld hS (h := ?_) | (refine yst hS (h := ?_); clear hS; intro _ hS))
      clear c0
      refine ((unhide HA5) _).mono ?_
      rintro r u ⟨rfl, hb⟩
      replace hS := hS.call hb
      clear hb
      clear HA5
      by_cases hv : yj = xj
      · subst hv
        have hvb : ((yj : Int) == (yj : Int)) = true := by simp
        go_upto_region 12 with (first | (refine ybox hS (h := ?_); clear hS; intro _ _ hS) | (refine yall hS (h := ?_); clear hS; intro _ _ hS) | refine yld hS (h := ?_) | (refine yst hS (h := ?_); clear hS; intro _ hS))
        have q9 := (unhide HQ9) _ hS.bel
        go_wp2_with fail
        have HS6 := hide (hS.take 6)
        clear hS q9
        go_wp2
        exact ⟨⟨j + 1, by omega, by go_num, HS6⟩, by simp [intOf]; omega⟩
      · have hvi : ¬ (yj : Int) = (xj : Int) := by omega
        have hvb : ((yj : Int) == (xj : Int)) = false := by simpa using hvi
        have hM := (unhide HMA) hv
        clear hv HMA
        go_upto_region 12 with (first | (refine ybox hS (h := ?_); clear hS; intro _ _ hS) | (refine yall hS (h := ?_); clear hS; intro _ _ hS) | refine yld hS (h := ?_) | (refine yst hS (h := ?_); clear hS; intro _ hS))
        have q9 := (unhide HQ9) _ hS.bel
        go_wp2_with fail
        clear q9
        obtain ⟨S, rfl⟩ := nameB hS 6 rfl
        rcases hM with ⟨⟨g1, g2⟩, g3⟩ | ⟨⟨g1, g2⟩, g3, g4⟩ | ⟨⟨g1, g2⟩, g3⟩
        · have HG := hide g3
          have G1 := hide (And.intro g1 g2)
          clear g1 g2 g3 hvi hvb
          have t1 : ∀ w, (binOp .eql 67 (.agg #[.int .i64 ak, .int .i64 ao]) (.agg #[.int .i64 8, .int .i64 ky])).run Tryz.prog w = .ok (.bool true) w := eqlSpot _ (Or.inl rfl) (r := true) (decide_eq_true (unhide G1)).symm
          obtain ⟨u5, rfl⟩ := nameW hS
          have ks0 := cell_regrown ((hS.get 6 rfl).cell 0 _ rfl)
          have ks1 := cell_regrown ((hS.get 6 rfl).cell 1 _ rfl)
          have kp1 := cell_regrown ((hS.get 1 rfl).cell 1 _ rfl)
          have HSQ := hide hS
          clear hS
          refine wp_region_quiet_below (by kernel_rfl) (by kernel_rfl) ?_
          repeat (go_big_quiet_step (first | (go_at_call 25; exact Calls.regrown_of (of12_any _ _ _))))
          refine wpQuiet_nil ?_
          intro _ hw'
          obtain ⟨⟨dq, osq⟩, hw''⟩ := hw'
          subst hw''
          have hS := (unhide HSQ).call (below_regrown u5 dq osq)
          clear HSQ ks0 ks1 kp1 t1
          generalize grow (redrawn u5 dq) osq = u8 at *
          have q9 := (unhide HQ9) _ hS.bel
          go_wp2_with fail
          refine (mrWith_any xj 0 sl _ (unhide HXW)).mono ?_
          rintro r u7 ⟨rfl, rfl⟩
          rw [← unhide HG]
          have hbb : ((yj : Int) != (yj : Int)) = false := by simp
          go_wp2_with fail
          clear q9 hbb
          have HS6 := hide (hS.take 6)
          clear hS
          go_wp2
          exact ⟨⟨j + 1, by omega, by go_num, HS6⟩, by simp [intOf]; omega⟩
        · have G1 := hide (And.intro g1 g2)
          have G3 := hide (And.intro g3 g4)
          clear g1 g2 g3 g4 hvi hvb
          have t1 : ∀ w, (binOp .eql 67 (.agg #[.int .i64 ak, .int .i64 ao]) (.agg #[.int .i64 8, .int .i64 ky])).run Tryz.prog w = .ok (.bool false) w := eqlSpot _ (Or.inl rfl) (r := false) (decide_eq_false ((fun q => by have := (unhide G1).1; omega))).symm
          obtain ⟨u5, rfl⟩ := nameW hS
          have ks0 := cell_regrown ((hS.get 6 rfl).cell 0 _ rfl)
          have ks1 := cell_regrown ((hS.get 6 rfl).cell 1 _ rfl)
          have kp1 := cell_regrown ((hS.get 1 rfl).cell 1 _ rfl)
          have HSQ := hide hS
          clear hS
          refine wp_region_quiet_below (by kernel_rfl) (by kernel_rfl) ?_
          repeat (go_big_quiet_step (first | (go_at_call 25; exact Calls.regrown_of (of12_any _ _ _))))
          refine wpQuiet_nil ?_
          intro _ hw'
          obtain ⟨⟨dq, osq⟩, hw''⟩ := hw'
          subst hw''
          have hS := (unhide HSQ).call (below_regrown u5 dq osq)
          clear HSQ ks0 ks1 kp1 t1
          generalize grow (redrawn u5 dq) osq = u8 at *
          go_wp2_with fail
          have t2 : ∀ w, (binOp .eql 67 (.agg #[.int .i64 ak, .int .i64 ao]) (.agg #[.int .i64 4, .int .i64 sl])).run Tryz.prog w = .ok (.bool true) w := eqlSpot _ (Or.inl rfl) (r := true) (decide_eq_true (unhide G1)).symm
          obtain ⟨u5, rfl⟩ := nameW hS
          have ks0 := cell_regrown ((hS.get 6 rfl).cell 0 _ rfl)
          have ks1 := cell_regrown ((hS.get 6 rfl).cell 1 _ rfl)
          have HSQ := hide hS
          clear hS
          refine wp_region_quiet_below (by kernel_rfl) (by kernel_rfl) ?_
          repeat (go_big_quiet_step (first | (go_at_call 25; exact Calls.regrown_of (of12_any _ _ _))))
          refine wpQuiet_nil ?_
          intro _ hw'
          obtain ⟨⟨dq, osq⟩, hw''⟩ := hw'
          subst hw''
          have hS := (unhide HSQ).call (below_regrown u5 dq osq)
          clear HSQ ks0 ks1 t2
          generalize grow (redrawn u5 dq) osq = u9 at *
          go_wp2_with fail
          have hgg : (((Um.gnN yj : Nat) : Int) != ((Um.gnN xj : Nat) : Int)) = false := by rw [(unhide G3).1]; simp
          have hpp : ((IntKind.u64.wrap ((yj : Int) / 4096)).tmod 4096 != (IntKind.u64.wrap ((xj : Int) / 4096)).tmod 4096) = false := by
            have h9 : Um.part yj 12 12 = Um.part xj 12 12 := (unhide G3).2
            unfold Um.part at h9
            rw [quo12 (unhide HYW), quo12 (unhide HXW), show yj / 4096 % 4096 = xj / 4096 % 4096 from h9]
            simp
          have HQC := hide ((unhide HQ9) _ hS.bel)
          obtain ⟨u5, rfl⟩ := nameW hS
          have q9 := cell_regrown (unhide HQC)
          have HSQ := hide hS
          clear hS
          refine wp_region_quiet_below (by kernel_rfl) (by kernel_rfl) ?_
          repeat (go_big_quiet_step (first | (go_at_call 37; exact Calls.regrown_of (rGen_b _ _ (by first | exact unhide HXW | exact unhide HYW)))))
          refine wpQuiet_nil ?_
          intro _ hw'
          obtain ⟨⟨dq, osq⟩, hw''⟩ := hw'
          subst hw''
          have hS := (unhide HSQ).call (below_regrown u5 dq osq)
          clear HSQ  
          generalize grow (redrawn u5 dq) osq = u8 at *
          clear hgg hpp
          have HS6 := hide (hS.take 6)
          clear hS
          go_wp2
          exact ⟨⟨j + 1, by omega, by go_num, HS6⟩, by simp [intOf]; omega⟩
        · subst g1
          have G2 := hide g2
          have HG := hide g3
          clear g2 g3 hvi hvb
          have t1 : ∀ w, (binOp .eql 67 (.agg #[.int .i64 4, .int .i64 ao]) (.agg #[.int .i64 8, .int .i64 ky])).run Tryz.prog w = .ok (.bool false) w := eqlSpot _ (Or.inl rfl) (r := false) (decide_eq_false ((fun q => by have := q.1; omega))).symm
          obtain ⟨u5, rfl⟩ := nameW hS
          have ks0 := cell_regrown ((hS.get 6 rfl).cell 0 _ rfl)
          have ks1 := cell_regrown ((hS.get 6 rfl).cell 1 _ rfl)
          have kp1 := cell_regrown ((hS.get 1 rfl).cell 1 _ rfl)
          have HSQ := hide hS
          clear hS
          refine wp_region_quiet_below (by kernel_rfl) (by kernel_rfl) ?_
          repeat (go_big_quiet_step (first | (go_at_call 25; exact Calls.regrown_of (of12_any _ _ _))))
          refine wpQuiet_nil ?_
          intro _ hw'
          obtain ⟨⟨dq, osq⟩, hw''⟩ := hw'
          subst hw''
          have hS := (unhide HSQ).call (below_regrown u5 dq osq)
          clear HSQ ks0 ks1 kp1 t1
          generalize grow (redrawn u5 dq) osq = u8 at *
          go_wp2_with fail
          have t2 : ∀ w, (binOp .eql 67 (.agg #[.int .i64 4, .int .i64 ao]) (.agg #[.int .i64 4, .int .i64 sl])).run Tryz.prog w = .ok (.bool false) w := eqlSpot _ (Or.inl rfl) (r := false) (decide_eq_false ((fun q => (unhide G2) q.2))).symm
          obtain ⟨u5, rfl⟩ := nameW hS
          have ks0 := cell_regrown ((hS.get 6 rfl).cell 0 _ rfl)
          have ks1 := cell_regrown ((hS.get 6 rfl).cell 1 _ rfl)
          have HSQ := hide hS
          clear hS
          refine wp_region_quiet_below (by kernel_rfl) (by kernel_rfl) ?_
          repeat (go_big_quiet_step (first | (go_at_call 25; exact Calls.regrown_of (of12_any _ _ _))))
          refine wpQuiet_nil ?_
          intro _ hw'
          obtain ⟨⟨dq, osq⟩, hw''⟩ := hw'
          subst hw''
          have hS := (unhide HSQ).call (below_regrown u5 dq osq)
          clear HSQ ks0 ks1 t2
          generalize grow (redrawn u5 dq) osq = u9 at *
          go_upto_region 20 with (first | (refine ybox hS (h := ?_); clear hS; intro _ _ hS) | (refine yall hS (h := ?_); clear hS; intro _ _ hS) | refine yld hS (h := ?_) | (refine yst hS (h := ?_); clear hS; intro _ hS))
          have q9 := (unhide HQ9) _ hS.bel
          go_wp2_with fail
          refine (refWith_any xj 1 sl _ (unhide HXW)).mono ?_
          rintro r u7 ⟨rfl, rfl⟩
          rw [← unhide HG]
          have hbb : ((yj : Int) != (yj : Int)) = false := by simp
          go_wp2_with fail
          clear q9 hbb
          have HS6 := hide (hS.take 6)
          clear hS
          go_wp2
          exact ⟨⟨j + 1, by omega, by go_num, HS6⟩, by simp [intOf]; omega⟩
    · have hge : ¬ (j : Int) < (c.n : Int) := by omega
      go_wp2_with fail
      refine (rAlive_any _).mono ?_
      rintro r u ⟨rfl, hb⟩
      replace hS := hS.call hb
      clear hb
      go_wp2_with fail
      refine (rDone_n (hS.get 4 rfl) (unhide HCS).1).mono ?_
      rintro r u ⟨rfl, rfl⟩
      have hB := hS.bel
      clear hS
      go_wp2
      go_ret
      exact ⟨rfl, hB⟩

theorem walk {H : Type} {enc : TypeId × Value → H} {base : Nat} {v0 v1 v2 : Value} {d0 d1 d2 : DataW H} {p0 p1 p2 : List MemPlace} (w : World)
    (hv0 : Value.okWide Tryz.prog w .any base 24 v0) (h0 : DataW.Trod enc Tryz.prog w 0 (fun _ => true) true 24 v0 d0 p0)
    (hv1 : Value.okWide Tryz.prog w .any base 25 v1) (h1 : DataW.Trod enc Tryz.prog w 0 (fun _ => true) true 25 v1 d1 p1)
    (hv2 : Value.okWide Tryz.prog w .any base 28 v2) (h2 : DataW.Trod enc Tryz.prog w 0 (fun _ => true) true 28 v2 d2 p2) :
    Calls Tryz.prog 7 #[v0, v1, v2] w fun e w' => e = .returned (.bool true) ∧ Below w.heap.size w w' := by
  obtain ⟨ct, s, k, g, q, rfl, hsb⟩ := open_cfg hv0 h0
  obtain ⟨n, ws, hI⟩ := open_words hv1 h1
  obtain ⟨x, ky, st, la, nl, cl, Z, rfl, hx, hkb, hnc, hZ⟩ := open_play12 hv2 h2
  cases hr : (⟨ct, s, k, g, q⟩ : Um.Cf).r with
  | false =>
    obtain ⟨sw, cap, rfl⟩ := words_len hI
    exact walk_wrong w ⟨ct, s, k, g, q⟩ sw n cap x ky st la nl cl hx hr
  | true =>
    by_cases hn : n = (⟨ct, s, k, g, q⟩ : Um.Cf).n
    · subst hn
      exact walk_right w ⟨ct, s, k, g, q⟩ v1 ws x ky st la nl cl hr hI hx hkb
    · obtain ⟨sw, cap, rfl⟩ := words_len hI
      exact walk_short w ⟨ct, s, k, g, q⟩ sw n cap x ky st la nl cl hx hr hn

set_option maxRecDepth 100000 in
theorem lifted (os : Os) (started : os.Started) (H : Type) (enc : TypeId × Value → H) :
    ReturnsInHanded {} Tryz.checked os 7 .any (Rows.readOnlySpec.pre6 enc Tryz.prog Tryz.f7 Rows.readOnlyRow.domain false) (Rows.readOnlySpec.post enc Tryz.prog Tryz.f7 false true false false) := by
  refine returnsInHanded_of_change (C := Tryz.checked) own started (by kernel_rfl) Tryz.func7
    (ChangeSpec.witness6 (enc := enc) (C := Tryz.checked) false ⟨#[], #[.agg #[.int .i64 0, .int .i64 0, .int .i64 0, .int .i64 0, .int .u64 0], .slice none 0 0, .agg #[.int .u64 0, .int .i64 0, .int .i64 0, .slice none 0 0]], []⟩ 8 (by kernel_rfl) (by kernel_rfl) (by kernel_rfl) (by kernel_rfl)) ?_
  intro W base args ds gs before hval0 hW hcnd _
  have hval : ∀ (j : Nat) t v, Tryz.f7.params[j]? = some t → args[j]? = some v → Value.okWide Tryz.prog W .any base t v := hval0
  have hW' := hW
  obtain ⟨p, q, hA0, hV, rfl, hfz, hnd⟩ := hW
  have hA : DataW.TrodAll enc Tryz.prog W 0 (fun _ => true) true Tryz.f7.params.toList args.toList ds p := hA0
  rw [Tryz.params7] at hA hval
  obtain ⟨v0, vs0, d0, ds0, p0, q0, hargs, rfl, rfl, h0, r0⟩ := trodAll_cons hA
  obtain ⟨v1, vs1, d1, ds1, p1, q1, rfl, rfl, rfl, h1, r1⟩ := trodAll_cons r0
  obtain ⟨v2, vs2, d2, ds2, p2, q2, rfl, rfl, rfl, h2, r2⟩ := trodAll_cons r1
  obtain ⟨rfl, rfl, rfl⟩ := trodAll_nil r2
  obtain rfl : args = #[v0, v1, v2] := by cases args; simp_all
  obtain ⟨rfl, rfl⟩ := trodVars_none hV
  have k0 := h0
  have lt0 : ∀ x ∈ p0, x.block < W.heap.size := by obtain ⟨m, hm⟩ := k0; exact DataW.trod_lt m _ _ _ hm
  have k1 := h1
  have lt1 : ∀ x ∈ p1, x.block < W.heap.size := by obtain ⟨m, hm⟩ := k1; exact DataW.trod_lt m _ _ _ hm
  have k2 := h2
  have lt2 : ∀ x ∈ p2, x.block < W.heap.size := by obtain ⟨m, hm⟩ := k2; exact DataW.trod_lt m _ _ _ hm
  refine (walk W (hval 0 24 v0 rfl rfl) h0 (hval 1 25 v1 rfl rfl) h1 (hval 2 28 v2 rfl rfl) h2).mono fun e W' ⟨he, bel⟩ => ?_
  subst he
  exact ⟨_, rfl, _, _, _, [], _, [], hW', trodAll_mk1 (shut_bool Tryz.underlying4 _), (trodAll_cons_mk (Below.trod laidOut (by kernel_rfl) (of_decide_eq_true (by kernel_rfl)) k0 bel lt0) (trodAll_cons_mk (Below.trod laidOut (by kernel_rfl) (of_decide_eq_true (by kernel_rfl)) k1 bel lt1) (trodAll_cons_mk (Below.trod laidOut (by kernel_rfl) (of_decide_eq_true (by kernel_rfl)) k2 bel lt2) trodAll_mk0))), rfl, bel.frame _, fun h => by cases h⟩

theorem ReadOnly_proved : Rows.ReadOnlySaid :=
  OpenClaim.holds_of_wide 7 Tryz.f7 rfl rfl rfl rfl rfl rfl rfl ⟨rfl, rfl, rfl, rfl, rfl⟩ rfl rfl rfl rfl rfl (by kernel_rfl) Tryz.func7 (by kernel_rfl)
    (of_decide_eq_true (by kernel_rfl)) (by unfold Func.isWrapper; first | (rw [if_pos (by decide +kernel)]; kernel_rfl) | (rw [if_neg (by decide +kernel)]; exact ⟨rfl, rfl⟩))
    (fun os started H enc _ => lifted os started H enc)

end Go.Proofs.YtapgghciieloaaaGreat.readOnly
