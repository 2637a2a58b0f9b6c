/-
  Texts that the laws stand on, merged (JoinMath4, ReadL, ReadMath8, ReadL2, ReadMath9, ReadMath12).
-/
import Derived.Test.YtapgghciieloaaaGreatP10
import Derived.Test.YtapgghciieloaaaGreatP2
import Derived.Test.YtapgghciieloaaaGreatP3
import Derived.Test.YtapgghciieloaaaGreatP4
import Derived.Test.YtapgghciieloaaaGreatP5
import Derived.Test.YtapgghciieloaaaGreatP6
import Derived.Test.YtapgghciieloaaaGreatP8
import Derived.Test.YtapgghciieloaaaGreatP9
import Derived.Lib.QuietBelow

/-
  Plain arithmetic of layer 11: a join that is alone, as a law asks of it; laid again. No Go in sight.
-/
namespace Um
set_option maxRecDepth 100000

/-- one that is not there, or was committed ahead -/
def goneN (W N sn : Nat) : Prop := stN W < 2 ∨ 4 < stN W ∨ (stN W = 4 ∧ past N sn = true)

theorem jtg_gone {sd b : Int} {sn W N : Nat} (h : goneN W N sn) : jtg sd b sn W N = 1 := by
  unfold goneN at h
  unfold jtg
  rw [if_pos h]

section
variable {c : Cf} {sl sd b : Int} {sn : Nat}

end

end Um

/-
  The walks of what layer 12's laws are made of: the word of a spot, words with another one at a spot, does a transaction not go on, why is it not entered.
-/
namespace Go.Proofs.YtapgghciieloaaaGreat
set_option maxRecDepth 100000
open Go.RowKit Go.Sort Go.Shelf
set_option linter.unusedVariables false
set_option linter.unusedSimpArgs false

/-- a spot's cell, as a number -/
theorem cell_num {c : Um.Cf} {kd i : Int} (hp : 0 ≤ c.cl kd i) : ∃ n0 : Nat, (n0 : Int) = c.cl kd i ∧ n0 < c.n ∧ (c.cl kd i).toNat = n0 := ⟨(c.cl kd i).toNat, by omega, Um.Cf.cl_lt (by omega), rfl⟩

theorem rCellC (c : Um.Cf) {kd i : Int} {n0 : Nat} (hn : (n0 : Int) = c.cl kd i) (W : World) :
    Calls Tryz.prog 62 #[(.agg #[.int .i64 (c.t), .int .i64 (c.s), .int .i64 (c.k), .int .i64 (c.g), .int .u64 (c.q : Int)]), .int .i64 kd, .int .i64 i] W fun e w' => e = .returned (.int .i64 (n0 : Int)) ∧ Below W.heap.size W w' :=
  (rCell_any c.t c.s c.k c.g c.q kd i W).mono (fun r w' h => ⟨h.1.trans (by rw [hn]; rfl), h.2⟩)

/-- a slice of words that is not empty: its block, its cells -/
theorem words_at {W : World} {v : Value} {n : Nat} {ws : Nat → Nat} (h : IsWords W v n ws) (hn : 0 < n) : ∃ b off cap, v = .slice (some ⟨b, off, none⟩) n cap ∧ n ≤ cap ∧ cap ≤ maxLen ∧ b < W.heap.size ∧ ∀ j, j < n → W.cell? ⟨b, off + j, none⟩ = some (.int .u64 (ws j)) ∧ Um.Word (ws j) := by
  rcases h with ⟨_, _, _, e⟩ | ⟨b, off, cap, e, _, h1, h2, h3, h4⟩
  · omega
  · exact ⟨b, off, cap, e, h1, h2, h3, h4⟩

theorem words_word12 {W : World} {v : Value} {n : Nat} {ws : Nat → Nat} (h : IsWords W v n ws) {i : Nat} (hi : i < n) : Um.Word (ws i) := by
  obtain ⟨_, _, _, _, _, _, _, h4⟩ := words_at h (by omega)
  exact (h4 i hi).2

set_option maxHeartbeats 2000000 in
theorem lAt_any (c : Um.Cf) {v : Value} {ws : Nat → Nat} {kd i : Int} (w : World) (hI : IsWords w v c.n ws) (hp : 0 ≤ c.cl kd i) :
    Calls Tryz.prog 23 #[(.agg #[.int .i64 (c.t), .int .i64 (c.s), .int .i64 (c.k), .int .i64 (c.g), .int .u64 (c.q : Int)]), v, .int .i64 kd, .int .i64 i] w fun r w' => r = .returned (.int .u64 (ws (c.cl kd i).toNat : Nat)) ∧ Below w.heap.size w w' := by
  obtain ⟨n0, e0, l0, t0⟩ := cell_num hp
  obtain ⟨b, off, cap, rfl, h1, h2, h3, h4⟩ := words_at hI (by omega)
  have HC := hide (rCellC c e0)
  have l0' : (n0 : Int) < (c.n : Int) := by omega
  have HX := hide (h4 n0 l0).1
  rw [t0]
  clear hI e0 hp h4
  have hS := Sx.new w
  go_enter Tryz.func23, Tryz.ntmps23
  go_wp2_with (first | (refine ybox hS (h := ?_); clear hS; intro _ _ hS) | (refine yall hS (h := ?_); clear hS; intro _ _ hS) | refine yld hS (h := ?_) | (refine yst hS (h := ?_); clear hS; intro _ hS))
  refine ((unhide HC) _).mono ?_
  rintro r u ⟨rfl, hb⟩
  replace hS := hS.call hb
  clear hb HC
  have q9 := (hS.bel.cell (p := ⟨b, off + n0, none⟩) h3).trans (unhide HX)
  go_wp2_with fail
  have hB := hS.bel
  clear hS q9
  go_wp2
  go_ret
  exact ⟨rfl, hB⟩

set_option maxHeartbeats 2000000 in
theorem lBarred_g (c : Um.Cf) {v : Value} {ws : Nat → Nat} (h : Nat) (w : World) (hr : c.r = true) (hI : IsWords w v c.n ws) (hh : Um.Word h) (hn : Um.ook h c.s = true) (hf : ¬ ((Um.gnN (ws (c.cl 4 (Um.svN h)).toNat) : Nat) : Int) = Um.tgN h) :
    Calls Tryz.prog 21 #[(.agg #[.int .i64 (c.t), .int .i64 (c.s), .int .i64 (c.k), .int .i64 (c.g), .int .u64 (c.q : Int)]), v, .int .u64 (h : Nat)] w fun r w' => r = .returned (.int .i64 2) ∧ Below w.heap.size w w' := by
  obtain ⟨c4, _⟩ := Um.sl_cells (c := c) hr (Um.ook_facts hn).1 (Um.ook_facts hn).2.1
  obtain ⟨W, hW⟩ : ∃ W, W = ws (c.cl 4 (Um.svN h)).toNat := ⟨_, rfl⟩
  have HK := hide (fun u => krOf_any h c.s u hh)
  rw [hn, Um.os_yes hn, Um.og_yes hn, ← (Um.ook_facts hn).2.2] at HK
  have HA := hide (fun u (hI : IsWords u v c.n ws) => lAt_any c (kd := 4) (i := Um.svN h) u hI (by omega))
  have HWW := hide (show Um.Word W by rw [hW]; exact words_word12 hI (Um.Cf.cl_lt (by omega)))
  rw [← hW] at HA hf
  have HI := hide hI
  clear hW hI c4 hr hn hh
  have a1 : (((Um.gnN W : Nat) : Int) != Um.tgN h) = true := by simpa using hf
  clear hf
  have hS := Sx.new w
  go_enter Tryz.func21, Tryz.ntmps21
  go_wp2_with (first | (refine ybox hS (h := ?_); clear hS; intro _ _ hS) | (refine yall hS (h := ?_); clear hS; intro _ _ hS) | refine yld hS (h := ?_) | (refine yst hS (h := ?_); clear hS; intro _ hS))
  refine ((unhide HK) _).mono ?_
  rintro r u ⟨rfl, rfl⟩
  go_wp2_with (first | (refine ybox hS (h := ?_); clear hS; intro _ _ hS) | (refine yall hS (h := ?_); clear hS; intro _ _ hS) | refine yld hS (h := ?_) | (refine yst hS (h := ?_); clear hS; intro _ hS))
  refine ((unhide HA) _ ((unhide HI).below hS.bel (Nat.le_refl _))).mono ?_
  rintro r u ⟨rfl, hb⟩
  replace hS := hS.call hb
  clear hb HA HK
  go_wp2_with fail
  refine (rGen_b W _ (unhide HWW)).mono ?_
  rintro r u ⟨rfl, hb⟩
  replace hS := hS.call hb
  clear hb
  have hB := hS.bel
  clear hS
  go_wp2
  go_ret
  exact ⟨rfl, hB⟩

set_option maxHeartbeats 2000000 in
theorem lBarred_s (c : Um.Cf) {v : Value} {ws : Nat → Nat} (h : Nat) (w : World) (hr : c.r = true) (hI : IsWords w v c.n ws) (hh : Um.Word h) (hn : Um.ook h c.s = true) (hg : ((Um.gnN (ws (c.cl 4 (Um.svN h)).toNat) : Nat) : Int) = Um.tgN h) (hf : Um.stN (ws (c.cl 4 (Um.svN h)).toNat) < 2) :
    Calls Tryz.prog 21 #[(.agg #[.int .i64 (c.t), .int .i64 (c.s), .int .i64 (c.k), .int .i64 (c.g), .int .u64 (c.q : Int)]), v, .int .u64 (h : Nat)] w fun r w' => r = .returned (.int .i64 2) ∧ Below w.heap.size w w' := by
  obtain ⟨c4, _⟩ := Um.sl_cells (c := c) hr (Um.ook_facts hn).1 (Um.ook_facts hn).2.1
  obtain ⟨W, hW⟩ : ∃ W, W = ws (c.cl 4 (Um.svN h)).toNat := ⟨_, rfl⟩
  have HK := hide (fun u => krOf_any h c.s u hh)
  rw [hn, Um.os_yes hn, Um.og_yes hn, ← (Um.ook_facts hn).2.2] at HK
  have HA := hide (fun u (hI : IsWords u v c.n ws) => lAt_any c (kd := 4) (i := Um.svN h) u hI (by omega))
  have HWW := hide (show Um.Word W by rw [hW]; exact words_word12 hI (Um.Cf.cl_lt (by omega)))
  rw [← hW] at HA hf hg
  have HI := hide hI
  clear hW hI c4 hr hn hh
  have a1p : ((Um.gnN W : Nat) : Int) = Um.tgN h := hg
  have a1 : (((Um.gnN W : Nat) : Int) != Um.tgN h) = false := by rw [hg]; simp
  have a2p : ((Um.stN W : Nat) : Int) < 2 := by omega
  have a2 : decide (((Um.stN W : Nat) : Int) < 2) = true := decide_eq_true a2p
  clear hf hg
  have hS := Sx.new w
  go_enter Tryz.func21, Tryz.ntmps21
  go_wp2_with (first | (refine ybox hS (h := ?_); clear hS; intro _ _ hS) | (refine yall hS (h := ?_); clear hS; intro _ _ hS) | refine yld hS (h := ?_) | (refine yst hS (h := ?_); clear hS; intro _ hS))
  refine ((unhide HK) _).mono ?_
  rintro r u ⟨rfl, rfl⟩
  go_wp2_with (first | (refine ybox hS (h := ?_); clear hS; intro _ _ hS) | (refine yall hS (h := ?_); clear hS; intro _ _ hS) | refine yld hS (h := ?_) | (refine yst hS (h := ?_); clear hS; intro _ hS))
  refine ((unhide HA) _ ((unhide HI).below hS.bel (Nat.le_refl _))).mono ?_
  rintro r u ⟨rfl, hb⟩
  replace hS := hS.call hb
  clear hb HA HK
  go_wp2_with fail
  refine (rGen_b W _ (unhide HWW)).mono ?_
  rintro r u ⟨rfl, hb⟩
  replace hS := hS.call hb
  clear hb
  go_wp2_with fail
  refine (rState_b W _ (unhide HWW)).mono ?_
  rintro r u ⟨rfl, hb⟩
  replace hS := hS.call hb
  clear hb
  have hB := hS.bel
  clear hS
  go_wp2
  go_ret
  exact ⟨rfl, hB⟩

set_option maxHeartbeats 2000000 in
theorem lBarred_b (c : Um.Cf) {v : Value} {ws : Nat → Nat} (h : Nat) (w : World) (hr : c.r = true) (hI : IsWords w v c.n ws) (hh : Um.Word h) (hn : Um.ook h c.s = true) (hg : ((Um.gnN (ws (c.cl 4 (Um.svN h)).toNat) : Nat) : Int) = Um.tgN h) (h2 : ¬ Um.stN (ws (c.cl 4 (Um.svN h)).toNat) < 2) (hf : (ws (c.cl 4 (Um.svN h)).toNat).testBit 26 = true) :
    Calls Tryz.prog 21 #[(.agg #[.int .i64 (c.t), .int .i64 (c.s), .int .i64 (c.k), .int .i64 (c.g), .int .u64 (c.q : Int)]), v, .int .u64 (h : Nat)] w fun r w' => r = .returned (.int .i64 3) ∧ Below w.heap.size w w' := by
  obtain ⟨c4, _⟩ := Um.sl_cells (c := c) hr (Um.ook_facts hn).1 (Um.ook_facts hn).2.1
  obtain ⟨W, hW⟩ : ∃ W, W = ws (c.cl 4 (Um.svN h)).toNat := ⟨_, rfl⟩
  have HK := hide (fun u => krOf_any h c.s u hh)
  rw [hn, Um.os_yes hn, Um.og_yes hn, ← (Um.ook_facts hn).2.2] at HK
  have HA := hide (fun u (hI : IsWords u v c.n ws) => lAt_any c (kd := 4) (i := Um.svN h) u hI (by omega))
  have HWW := hide (show Um.Word W by rw [hW]; exact words_word12 hI (Um.Cf.cl_lt (by omega)))
  rw [← hW] at HA hf hg h2
  have HI := hide hI
  clear hW hI c4 hr hn hh
  have a1p : ((Um.gnN W : Nat) : Int) = Um.tgN h := hg
  have a1 : (((Um.gnN W : Nat) : Int) != Um.tgN h) = false := by rw [hg]; simp
  have a2p : ¬ ((Um.stN W : Nat) : Int) < 2 := by omega
  have a2 : decide (((Um.stN W : Nat) : Int) < 2) = false := decide_eq_false a2p
  have HB := hide hf
  clear hf hg h2
  have hS := Sx.new w
  go_enter Tryz.func21, Tryz.ntmps21
  go_wp2_with (first | (refine ybox hS (h := ?_); clear hS; intro _ _ hS) | (refine yall hS (h := ?_); clear hS; intro _ _ hS) | refine yld hS (h := ?_) | (refine yst hS (h := ?_); clear hS; intro _ hS))
  refine ((unhide HK) _).mono ?_
  rintro r u ⟨rfl, rfl⟩
  go_wp2_with (first | (refine ybox hS (h := ?_); clear hS; intro _ _ hS) | (refine yall hS (h := ?_); clear hS; intro _ _ hS) | refine yld hS (h := ?_) | (refine yst hS (h := ?_); clear hS; intro _ hS))
  refine ((unhide HA) _ ((unhide HI).below hS.bel (Nat.le_refl _))).mono ?_
  rintro r u ⟨rfl, hb⟩
  replace hS := hS.call hb
  clear hb HA HK
  go_wp2_with fail
  refine (rGen_b W _ (unhide HWW)).mono ?_
  rintro r u ⟨rfl, hb⟩
  replace hS := hS.call hb
  clear hb
  go_wp2_with fail
  refine (rState_b W _ (unhide HWW)).mono ?_
  rintro r u ⟨rfl, hb⟩
  replace hS := hS.call hb
  clear hb
  go_wp2_with fail
  refine (rBusy_x hS W (unhide HWW)).mono ?_
  rintro r u ⟨rfl, hSn⟩
  clear hS
  have hS := hSn
  clear hSn
  rw [unhide HB]
  have hB := hS.bel
  clear hS
  go_wp2
  go_ret
  exact ⟨rfl, hB⟩

set_option maxHeartbeats 2000000 in
theorem lBarred_n (c : Um.Cf) {v : Value} {ws : Nat → Nat} (h : Nat) (w : World) (hr : c.r = true) (hI : IsWords w v c.n ws) (hh : Um.Word h) (hn : Um.ook h c.s = true) (hg : ((Um.gnN (ws (c.cl 4 (Um.svN h)).toNat) : Nat) : Int) = Um.tgN h) (h2 : ¬ Um.stN (ws (c.cl 4 (Um.svN h)).toNat) < 2) (h3 : (ws (c.cl 4 (Um.svN h)).toNat).testBit 26 = false) (hf : ¬ Um.stN (ws (c.cl 4 (Um.svN h)).toNat) = 2) :
    Calls Tryz.prog 21 #[(.agg #[.int .i64 (c.t), .int .i64 (c.s), .int .i64 (c.k), .int .i64 (c.g), .int .u64 (c.q : Int)]), v, .int .u64 (h : Nat)] w fun r w' => r = .returned (.int .i64 4) ∧ Below w.heap.size w w' := by
  obtain ⟨c4, _⟩ := Um.sl_cells (c := c) hr (Um.ook_facts hn).1 (Um.ook_facts hn).2.1
  obtain ⟨W, hW⟩ : ∃ W, W = ws (c.cl 4 (Um.svN h)).toNat := ⟨_, rfl⟩
  have HK := hide (fun u => krOf_any h c.s u hh)
  rw [hn, Um.os_yes hn, Um.og_yes hn, ← (Um.ook_facts hn).2.2] at HK
  have HA := hide (fun u (hI : IsWords u v c.n ws) => lAt_any c (kd := 4) (i := Um.svN h) u hI (by omega))
  have HWW := hide (show Um.Word W by rw [hW]; exact words_word12 hI (Um.Cf.cl_lt (by omega)))
  rw [← hW] at HA hf hg h2 h3
  have HI := hide hI
  clear hW hI c4 hr hn hh
  have a1p : ((Um.gnN W : Nat) : Int) = Um.tgN h := hg
  have a1 : (((Um.gnN W : Nat) : Int) != Um.tgN h) = false := by rw [hg]; simp
  have a2p : ¬ ((Um.stN W : Nat) : Int) < 2 := by omega
  have a2 : decide (((Um.stN W : Nat) : Int) < 2) = false := decide_eq_false a2p
  have HB := hide h3
  have a3p : ¬ ((Um.stN W : Nat) : Int) = 2 := by omega
  have a3 : (((Um.stN W : Nat) : Int) != 2) = true := by simpa using a3p
  clear hf hg h2 h3
  have hS := Sx.new w
  go_enter Tryz.func21, Tryz.ntmps21
  go_wp2_with (first | (refine ybox hS (h := ?_); clear hS; intro _ _ hS) | (refine yall hS (h := ?_); clear hS; intro _ _ hS) | refine yld hS (h := ?_) | (refine yst hS (h := ?_); clear hS; intro _ hS))
  refine ((unhide HK) _).mono ?_
  rintro r u ⟨rfl, rfl⟩
  go_wp2_with (first | (refine ybox hS (h := ?_); clear hS; intro _ _ hS) | (refine yall hS (h := ?_); clear hS; intro _ _ hS) | refine yld hS (h := ?_) | (refine yst hS (h := ?_); clear hS; intro _ hS))
  refine ((unhide HA) _ ((unhide HI).below hS.bel (Nat.le_refl _))).mono ?_
  rintro r u ⟨rfl, hb⟩
  replace hS := hS.call hb
  clear hb HA HK
  go_wp2_with fail
  refine (rGen_b W _ (unhide HWW)).mono ?_
  rintro r u ⟨rfl, hb⟩
  replace hS := hS.call hb
  clear hb
  go_wp2_with fail
  refine (rState_b W _ (unhide HWW)).mono ?_
  rintro r u ⟨rfl, hb⟩
  replace hS := hS.call hb
  clear hb
  go_wp2_with fail
  refine (rBusy_x hS W (unhide HWW)).mono ?_
  rintro r u ⟨rfl, hSn⟩
  clear hS
  have hS := hSn
  clear hSn
  rw [unhide HB]
  go_wp2_with fail
  refine (rState_b W _ (unhide HWW)).mono ?_
  rintro r u ⟨rfl, hb⟩
  replace hS := hS.call hb
  clear hb
  have hB := hS.bel
  clear hS
  go_wp2
  go_ret
  exact ⟨rfl, hB⟩

set_option maxHeartbeats 2000000 in
theorem lBarred_o (c : Um.Cf) {v : Value} {ws : Nat → Nat} (h : Nat) (w : World) (hr : c.r = true) (hI : IsWords w v c.n ws) (hh : Um.Word h) (hn : Um.ook h c.s = true) (hg : ((Um.gnN (ws (c.cl 4 (Um.svN h)).toNat) : Nat) : Int) = Um.tgN h) (h3 : (ws (c.cl 4 (Um.svN h)).toNat).testBit 26 = false) (hf : Um.stN (ws (c.cl 4 (Um.svN h)).toNat) = 2) :
    Calls Tryz.prog 21 #[(.agg #[.int .i64 (c.t), .int .i64 (c.s), .int .i64 (c.k), .int .i64 (c.g), .int .u64 (c.q : Int)]), v, .int .u64 (h : Nat)] w fun r w' => r = .returned (.int .i64 0) ∧ Below w.heap.size w w' := by
  obtain ⟨c4, _⟩ := Um.sl_cells (c := c) hr (Um.ook_facts hn).1 (Um.ook_facts hn).2.1
  obtain ⟨W, hW⟩ : ∃ W, W = ws (c.cl 4 (Um.svN h)).toNat := ⟨_, rfl⟩
  have HK := hide (fun u => krOf_any h c.s u hh)
  rw [hn, Um.os_yes hn, Um.og_yes hn, ← (Um.ook_facts hn).2.2] at HK
  have HA := hide (fun u (hI : IsWords u v c.n ws) => lAt_any c (kd := 4) (i := Um.svN h) u hI (by omega))
  have HWW := hide (show Um.Word W by rw [hW]; exact words_word12 hI (Um.Cf.cl_lt (by omega)))
  rw [← hW] at HA hf hg h3
  have HI := hide hI
  clear hW hI c4 hr hn hh
  have a1p : ((Um.gnN W : Nat) : Int) = Um.tgN h := hg
  have a1 : (((Um.gnN W : Nat) : Int) != Um.tgN h) = false := by rw [hg]; simp
  have a2p : ¬ ((Um.stN W : Nat) : Int) < 2 := by omega
  have a2 : decide (((Um.stN W : Nat) : Int) < 2) = false := decide_eq_false a2p
  have HB := hide h3
  have a3p : ((Um.stN W : Nat) : Int) = 2 := by omega
  have a3 : (((Um.stN W : Nat) : Int) != 2) = false := by rw [a3p]; simp
  clear hf hg h3
  have hS := Sx.new w
  go_enter Tryz.func21, Tryz.ntmps21
  go_wp2_with (first | (refine ybox hS (h := ?_); clear hS; intro _ _ hS) | (refine yall hS (h := ?_); clear hS; intro _ _ hS) | refine yld hS (h := ?_) | (refine yst hS (h := ?_); clear hS; intro _ hS))
  refine ((unhide HK) _).mono ?_
  rintro r u ⟨rfl, rfl⟩
  go_wp2_with (first | (refine ybox hS (h := ?_); clear hS; intro _ _ hS) | (refine yall hS (h := ?_); clear hS; intro _ _ hS) | refine yld hS (h := ?_) | (refine yst hS (h := ?_); clear hS; intro _ hS))
  refine ((unhide HA) _ ((unhide HI).below hS.bel (Nat.le_refl _))).mono ?_
  rintro r u ⟨rfl, hb⟩
  replace hS := hS.call hb
  clear hb HA HK
  go_wp2_with fail
  refine (rGen_b W _ (unhide HWW)).mono ?_
  rintro r u ⟨rfl, hb⟩
  replace hS := hS.call hb
  clear hb
  go_wp2_with fail
  refine (rState_b W _ (unhide HWW)).mono ?_
  rintro r u ⟨rfl, hb⟩
  replace hS := hS.call hb
  clear hb
  go_wp2_with fail
  refine (rBusy_x hS W (unhide HWW)).mono ?_
  rintro r u ⟨rfl, hSn⟩
  clear hS
  have hS := hSn
  clear hSn
  rw [unhide HB]
  go_wp2_with fail
  refine (rState_b W _ (unhide HWW)).mono ?_
  rintro r u ⟨rfl, hb⟩
  replace hS := hS.call hb
  clear hb
  have hB := hS.bel
  clear hS
  go_wp2
  go_ret
  exact ⟨rfl, hB⟩

set_option maxHeartbeats 2000000 in
theorem lBarred_none (c : Um.Cf) (v : Value) (h : Nat) (w : World) (hh : Um.Word h) (hn : Um.ook h c.s = false) :
    Calls Tryz.prog 21 #[(.agg #[.int .i64 (c.t), .int .i64 (c.s), .int .i64 (c.k), .int .i64 (c.g), .int .u64 (c.q : Int)]), v, .int .u64 (h : Nat)] w fun r w' => r = .returned (.int .i64 2) ∧ Below w.heap.size w w' := by
  have HK := hide (fun u => krOf_any h c.s u hh)
  rw [hn] at HK
  clear hn hh
  have hS := Sx.new w
  go_enter Tryz.func21, Tryz.ntmps21
  go_wp2_with (first | (refine ybox hS (h := ?_); clear hS; intro _ _ hS) | (refine yall hS (h := ?_); clear hS; intro _ _ hS) | refine yld hS (h := ?_) | (refine yst hS (h := ?_); clear hS; intro _ hS))
  refine ((unhide HK) _).mono ?_
  rintro r u ⟨rfl, rfl⟩
  have hB := hS.bel
  clear hS HK
  go_wp2
  go_ret
  exact ⟨rfl, hB⟩

/-- why a read is not entered, if its ticket names a transaction -/
theorem lBarred_any (c : Um.Cf) {v : Value} {ws : Nat → Nat} (h : Nat) (w : World) (hr : c.r = true) (hI : IsWords w v c.n ws) (hh : Um.Word h) :
    Calls Tryz.prog 21 #[(.agg #[.int .i64 (c.t), .int .i64 (c.s), .int .i64 (c.k), .int .i64 (c.g), .int .u64 (c.q : Int)]), v, .int .u64 (h : Nat)] w fun r w' => r = .returned (.int .i64 (if Um.ook h c.s = true then Um.flN h inn12 (ws (c.cl 4 (Um.svN h)).toNat) else 2)) ∧ Below w.heap.size w w' := by
  cases hn : Um.ook h c.s with
  | false =>
    rw [if_neg (by decide)]
    exact lBarred_none c v h w hh hn
  | true =>
    rw [if_pos rfl]
    unfold Um.flN
    by_cases hg : ((Um.gnN (ws (c.cl 4 (Um.svN h)).toNat) : Nat) : Int) = Um.tgN h
    · by_cases h2 : Um.stN (ws (c.cl 4 (Um.svN h)).toNat) < 2
      · rw [if_pos (by omega)]
        exact lBarred_s c h w hr hI hh hn hg h2
      · rw [if_neg (by omega)]
        cases h3 : (ws (c.cl 4 (Um.svN h)).toNat).testBit 26 with
        | true =>
          rw [if_pos rfl]
          exact lBarred_b c h w hr hI hh hn hg h2 h3
        | false =>
          rw [if_neg (by decide)]
          by_cases h4 : Um.stN (ws (c.cl 4 (Um.svN h)).toNat) = 2
          · rw [h4, show inn12 2 = true by decide +kernel, if_pos rfl]
            exact lBarred_o c h w hr hI hh hn hg h3 h4
          · have hlt : Um.stN (ws (c.cl 4 (Um.svN h)).toNat) < 8 := Um.part_lt _ 27 3
            have hi : inn12 (Um.stN (ws (c.cl 4 (Um.svN h)).toNat)) = false := by
              generalize Um.stN (ws (c.cl 4 (Um.svN h)).toNat) = z at h2 h4 hlt
              rcases (by omega : z = 3 ∨ z = 4 ∨ z = 5 ∨ z = 6 ∨ z = 7) with rfl | rfl | rfl | rfl | rfl <;> decide +kernel
            rw [hi, if_neg (by decide)]
            exact lBarred_n c h w hr hI hh hn hg h2 h3 h4
    · rw [if_pos (.inl hg)]
      exact lBarred_g c h w hr hI hh hn hg

end Go.Proofs.YtapgghciieloaaaGreat

/-
  Plain arithmetic of layer 12: what a read comes to, whatever its ticket and its key; twice; in either order. No Go in sight.
-/
namespace Um
set_option maxRecDepth 100000

/-- what a read comes to, alone: from these words to those, and what it tells -/
def RdSum (c : Cf) (h : Nat) (inn : Nat → Bool) (ky : Int) (ws ws' : Nat → Nat) (e : Int) : Prop :=
  ((ky < 0 ∨ c.k ≤ ky) ∧ e = 5 ∧ ws' = ws) ∨ (¬ (ky < 0 ∨ c.k ≤ ky) ∧ ook h c.s = false ∧ e = 2 ∧ ws' = ws) ∨
  (¬ (ky < 0 ∨ c.k ≤ ky) ∧ ook h c.s = true ∧ flN h inn (ws (c.cl 4 (svN h)).toNat) ≠ 0 ∧ e = flN h inn (ws (c.cl 4 (svN h)).toNat) ∧ ws' = ws) ∨
  (¬ (ky < 0 ∨ c.k ≤ ky) ∧ ook h c.s = true ∧ flN h inn (ws (c.cl 4 (svN h)).toNat) = 0 ∧ Rsum c ky (svN h) ws ws' e)

section
variable {c : Cf} {h : Nat} {inn : Nat → Bool} {ky : Int}

theorem reach_end {o o' : Rd} {key slot : Int} {B k : Nat} (h1 : Rch c h inn key slot o o' B) (hd : o'.dn = true) (hk : B ≤ k) : rdit c h inn key slot o k = o' := by
  obtain ⟨q, hq, e⟩ := h1
  rw [rdit_done (q := q) (by rw [e]; exact hd) (by omega), e]

theorem rd_all (hr : c.r = true) (m : Mm) {k : Nat} (hk : 70 ≤ k) (A : Rd) (hA : A = rdit c h inn ky (svN h) (rdbeg c h ky m) k) : A.dn = true ∧ RdSum c h inn ky m.ws A.m.ws A.e := by
  by_cases hk1 : ky < 0 ∨ c.k ≤ ky
  · have e : A = { rdnew m with dn := true, e := 5 } := by rw [hA, rdbeg_key hk1]; exact rdit_done (q := 0) rfl (Nat.zero_le k)
    rw [e]
    exact ⟨rfl, .inl ⟨hk1, rfl, rfl⟩⟩
  · cases hn : ook h c.s with
    | false =>
      have e : A = { rdnew m with dn := true, e := 2 } := by rw [hA, rdbeg_no hk1 hn]; exact rdit_done (q := 0) rfl (Nat.zero_le k)
      rw [e]
      exact ⟨rfl, .inr (.inl ⟨hk1, hn, rfl, rfl⟩)⟩
    | true =>
      rw [rdbeg_yes hk1 hn] at hA
      by_cases hf : flN h inn (m.ws (c.cl 4 (svN h)).toNat) = 0
      · obtain ⟨o', r1, r2, r3⟩ := read_sum (key := ky) hr hn rfl (by omega) (by omega) m hf
        have e : A = o' := by rw [hA]; exact reach_end r1 r2 hk
        rw [e]
        exact ⟨r2, .inr (.inr (.inr ⟨hk1, hn, hf, r3⟩))⟩
      · obtain ⟨o', r1, r2, r3, r4⟩ := read_barred (key := ky) (slot := svN h) hr hn m hf
        have e : A = o' := by rw [hA]; exact reach_end r1 r2 (by omega)
        rw [e]
        exact ⟨r2, .inr (.inr (.inl ⟨hk1, hn, hf, r3, r4⟩))⟩

theorem slot_in (hn : ook h c.s = true) : 0 ≤ svN h ∧ svN h < c.s := ⟨(ook_facts hn).1, (ook_facts hn).2.1⟩

end

end Um

/-
  The walk of Put, told by the block of the new words; words in a block that is only read.
-/
namespace Go.Proofs.YtapgghciieloaaaGreat
set_option maxRecDepth 100000
open Go.RowKit Go.Sort Go.Shelf
set_option linter.unusedVariables false
set_option linter.unusedSimpArgs false

set_option maxHeartbeats 4000000 in
theorem lPut_b (c : Um.Cf) {v : Value} {ws : Nat → Nat} {kd i : Int} {y : Nat} (w : World) (hI : IsWords w v c.n ws) (hp : 0 ≤ c.cl kd i) (hy : Um.Word y) :
    Calls Tryz.prog 24 #[(.agg #[.int .i64 (c.t), .int .i64 (c.s), .int .i64 (c.k), .int .i64 (c.g), .int .u64 (c.q : Int)]), v, (.agg #[.int .i64 kd, .int .i64 i]), .int .u64 (y : Nat)] w fun r w' => ∃ g cg, r = .returned (.slice (some ⟨g, 0, none⟩) c.n cg) ∧ c.n ≤ cg ∧ cg ≤ maxLen ∧ w.heap.size ≤ g ∧ BlkAt w' g (rowW (Um.putW ws (c.cl kd i).toNat y) c.n) ∧ (∀ j, j < c.n → Um.Word (Um.putW ws (c.cl kd i).toNat y j)) ∧ Below w.heap.size w w' := by
  obtain ⟨n0, e0, l0, t0⟩ := cell_num hp
  obtain ⟨g, off, cap, rfl, h1, h2, hg, h4⟩ := words_at hI (by omega)
  have HC := hide (rCellC c e0)
  have l0' : (n0 : Int) < (c.n : Int) := by omega
  have hn0 : 0 < c.n := by omega
  have hn1 := c.n_le
  have hb8 : c.n * 8 ≤ 140737488355328 := by omega
  have HX := hide h4
  rw [t0]
  clear hI e0 hp h4
  have hS := St.new w
  go_enter Tryz.func24, Tryz.ntmps24
  go_wp2_with (first | (refine wpl_empty hS rfl rfl ?_; clear hS; intro _ _ hS) | (refine wpl_clone hS rfl _ _ rfl _ rfl _ _ _ _ rfl ws (fun j hj => (hS.bel.cell (p := ⟨g, off + j, none⟩) hg).trans ((unhide HX) j hj).1) hn0 hb8 ?_; clear hS; intro g' cg w' hS hc1 hc2; dsimp only [List.cons_append, List.nil_append] at hS) | (first | (refine wpl_box hS rfl _ _ rfl _ rfl _ (by intro _; simp only [Act.put, List.setIfInBounds_toArray, List.set_cons_zero, List.set_cons_succ]; first | done | exact rfl) ?_; clear hS; intro _ _ hS; dsimp only [blit, List.set, List.cons_append, List.nil_append, Value.cells, List.toList_toArray] at hS) | (refine wpl_alloc hS rfl _ rfl _ (zer_any rfl) _ (by intro _; simp only [Act.put, List.setIfInBounds_toArray, List.set_cons_zero, List.set_cons_succ]; first | done | exact rfl) ?_; clear hS; intro _ _ hS; dsimp only [blit, List.set, List.cons_append, List.nil_append, Value.cells, List.toList_toArray] at hS) | (refine wpl_ld hS rfl _ _ rfl _ _ rfl ?_; (first | refine ⟨0, _, rfl, ?_⟩ | refine ⟨1, _, rfl, ?_⟩ | refine ⟨2, _, rfl, ?_⟩ | refine ⟨3, _, rfl, ?_⟩ | refine ⟨4, _, rfl, ?_⟩ | refine ⟨5, _, rfl, ?_⟩ | refine ⟨6, _, rfl, ?_⟩ | refine ⟨7, _, rfl, ?_⟩ | refine ⟨8, _, rfl, ?_⟩ | refine ⟨9, _, rfl, ?_⟩); first | refine .inl ⟨_, one_any rfl, rfl, _, (by simp only [Act.put, List.setIfInBounds_toArray, List.set_cons_zero, List.set_cons_succ]; first | done | exact rfl), ?_⟩ | refine .inr ⟨_, _, row_any rfl, rfl, (by dsimp only [cutL, List.drop, List.take]; first | done | exact rfl), _, (by simp only [Act.put, List.setIfInBounds_toArray, List.set_cons_zero, List.set_cons_succ]; first | done | exact rfl), ?_⟩) | (refine wpl_st hS rfl _ _ _ rfl rfl _ _ rfl ?_; (first | refine ⟨0, _, rfl, ?_⟩ | refine ⟨1, _, rfl, ?_⟩ | refine ⟨2, _, rfl, ?_⟩ | refine ⟨3, _, rfl, ?_⟩ | refine ⟨4, _, rfl, ?_⟩ | refine ⟨5, _, rfl, ?_⟩ | refine ⟨6, _, rfl, ?_⟩ | refine ⟨7, _, rfl, ?_⟩ | refine ⟨8, _, rfl, ?_⟩ | refine ⟨9, _, rfl, ?_⟩); refine ⟨_, (by first | exact shA rfl | exact shI rfl | exact shB rfl | exact shS rfl | exact shP rfl | exact shF rfl | exact shN rfl), _, siz_any rfl, (by exact rfl), (by exact rfl), (by exact rfl), ?_⟩; clear hS; intro _ hS; dsimp only [blit, List.set, List.cons_append, List.nil_append, Value.cells, List.toList_toArray] at hS)))
  refine ((unhide HC) _).mono ?_
  rintro r u ⟨rfl, hb⟩
  replace hS := hS.call hb
  clear hb HC
  have x1 : (n0 : Int) < (c.n : Int) := by omega
  go_wp2_with (first | (refine wpl_storeW hS 2 rfl _ _ rfl rfl _ _ rfl _ _ rfl l0 _ rfl ?_; clear hS; intro _ hS; dsimp only [List.set] at hS) | (first | (refine wpl_box hS rfl _ _ rfl _ rfl _ (by intro _; simp only [Act.put, List.setIfInBounds_toArray, List.set_cons_zero, List.set_cons_succ]; first | done | exact rfl) ?_; clear hS; intro _ _ hS; dsimp only [blit, List.set, List.cons_append, List.nil_append, Value.cells, List.toList_toArray] at hS) | (refine wpl_alloc hS rfl _ rfl _ (zer_any rfl) _ (by intro _; simp only [Act.put, List.setIfInBounds_toArray, List.set_cons_zero, List.set_cons_succ]; first | done | exact rfl) ?_; clear hS; intro _ _ hS; dsimp only [blit, List.set, List.cons_append, List.nil_append, Value.cells, List.toList_toArray] at hS) | (refine wpl_ld hS rfl _ _ rfl _ _ rfl ?_; (first | refine ⟨0, _, rfl, ?_⟩ | refine ⟨1, _, rfl, ?_⟩ | refine ⟨2, _, rfl, ?_⟩ | refine ⟨3, _, rfl, ?_⟩ | refine ⟨4, _, rfl, ?_⟩ | refine ⟨5, _, rfl, ?_⟩ | refine ⟨6, _, rfl, ?_⟩ | refine ⟨7, _, rfl, ?_⟩ | refine ⟨8, _, rfl, ?_⟩ | refine ⟨9, _, rfl, ?_⟩); first | refine .inl ⟨_, one_any rfl, rfl, _, (by simp only [Act.put, List.setIfInBounds_toArray, List.set_cons_zero, List.set_cons_succ]; first | done | exact rfl), ?_⟩ | refine .inr ⟨_, _, row_any rfl, rfl, (by dsimp only [cutL, List.drop, List.take]; first | done | exact rfl), _, (by simp only [Act.put, List.setIfInBounds_toArray, List.set_cons_zero, List.set_cons_succ]; first | done | exact rfl), ?_⟩) | (refine wpl_st hS rfl _ _ _ rfl rfl _ _ rfl ?_; (first | refine ⟨0, _, rfl, ?_⟩ | refine ⟨1, _, rfl, ?_⟩ | refine ⟨2, _, rfl, ?_⟩ | refine ⟨3, _, rfl, ?_⟩ | refine ⟨4, _, rfl, ?_⟩ | refine ⟨5, _, rfl, ?_⟩ | refine ⟨6, _, rfl, ?_⟩ | refine ⟨7, _, rfl, ?_⟩ | refine ⟨8, _, rfl, ?_⟩ | refine ⟨9, _, rfl, ?_⟩); refine ⟨_, (by first | exact shA rfl | exact shI rfl | exact shB rfl | exact shS rfl | exact shP rfl | exact shF rfl | exact shN rfl), _, siz_any rfl, (by exact rfl), (by exact rfl), (by exact rfl), ?_⟩; clear hS; intro _ hS; dsimp only [blit, List.set, List.cons_append, List.nil_append, Value.cells, List.toList_toArray] at hS)))
  have HS := hide hS
  clear hS
  go_wp2
  go_ret
  have hB := (unhide HS).get 2 rfl
  refine ⟨g', cg, rfl, hc1, hc2, (unhide HS).low _ (List.mem_of_getElem? (i := 2) rfl), hB, fun j hj => ?_, (unhide HS).bel⟩
  unfold Um.putW
  split
  · exact hy
  · exact ((unhide HX) j hj).2

theorem St.sx {w0 w : World} {l : List (Nat × List Value)} (h : St w0 w l) : Sx [] w0 w l [] :=
  ⟨Turn.of_below h.bel, (fun p hp => .inr (h.low p hp)), h.blk, h.nd, (fun p hp => by cases hp), (fun p hp => by cases hp)⟩

theorem isWords_e {W : World} {g n cg : Nat} {ws : Nat → Nat} (hB : BlkAt W g (rowW ws n)) (h0 : 0 < n) (h1 : n ≤ cg) (h2 : cg ≤ maxLen) (hw : ∀ i, i < n → Um.Word (ws i)) : IsWords W (.slice (some ⟨g, 0, none⟩) n cg) n ws :=
  .inr ⟨g, 0, cg, rfl, h0, h1, h2, hB.lt, fun q hq => ⟨by rw [Nat.zero_add]; exact hB.cell q _ (rowW_get _ n q hq), hw q hq⟩⟩

end Go.Proofs.YtapgghciieloaaaGreat

/-
  Plain arithmetic of layer 12: two that read one key at once. No Go in sight.
-/
namespace Um
set_option maxRecDepth 100000

/-- two reads of one key over a memory -/
structure TwoR (c : Cf) (m : Mm) (a b : Rd) : Prop where
  k : m.ws (c.cl 8 0).toNat < 4
  a : Sr 0 (m.ws (c.cl 8 0).toNat) (m.ws (c.cl 4 0).toNat) a
  b : Sr 1 (m.ws (c.cl 8 0).toNat) (m.ws (c.cl 4 1).toNat) b

section
variable {c : Cf} {inn : Nat → Bool}

end

end Um

/-
  Plain arithmetic of layer 12: words of which all others are past. No Go in sight.
-/
namespace Um
set_option maxRecDepth 100000
set_option linter.unusedVariables false

section
variable {c : Cf} {h : Nat} {inn : Nat → Bool} {ky slot : Int} {nn : Nat}

/-- so far all others are past -/
structure PastI (c : Cf) (slot : Int) (nn : Nat) (W : Nat → Nat) (j : Int) : Prop where
  n : W (c.cl 5 slot).toNat = nn
  g : ∀ x, 0 ≤ x → x < j → x ≠ slot → goneN (W (c.cl 4 x).toNat) (W (c.cl 6 x).toNat) nn

theorem past_start (hr : c.r = true) (h0 : 0 ≤ slot) (h1 : slot < c.s) (ws : Nat → Nat) : PastI c slot nn (putW ws (c.cl 5 slot).toNat nn) 0 :=
  ⟨putW_same _ _ _, fun x x0 x1 => by omega⟩

theorem past_skip {W : Nat → Nat} (hP : PastI c slot nn W slot) : PastI c slot nn W (slot + 1) :=
  ⟨hP.n, fun x x0 x1 hx => hP.g x x0 (by omega) hx⟩

theorem past_next (hr : c.r = true) (h0 : 0 ≤ slot) (h1 : slot < c.s) {W : Nat → Nat} {j : Int} (j0 : 0 ≤ j) (j1 : j < c.s) (hj : j ≠ slot) (hP : PastI c slot nn W j) {st num : Nat} (hg : (st = 5 ∧ num = 0) ∨ (st = 4 ∧ num = nn ∧ 0 < nn)) :
    PastI c slot nn (putW (putW W (c.cl 4 j).toNat (moveN (W (c.cl 4 j).toNat) st false)) (c.cl 6 j).toNat num) (j + 1) := by
  obtain ⟨j4, j5, _⟩ := sl_cells (c := c) hr j0 j1
  obtain ⟨s4, s5, _⟩ := sl_cells (c := c) hr h0 h1
  have n5 := cl5_ne (c := c) hr h0 h1 j0 j1
  have e5 := nat6 (c := c) hr h0 h1
  have e6 := nat6 (c := c) hr j0 j1
  have n56 : c.cl 5 slot ≠ c.cl 6 j := by
    have hb := c.rb hr
    unfold Cf.cl cellN
    rw [hr]
    simp [h0, h1, j0, j1]
    omega
  have hst8 : st < 8 := by omega
  refine ⟨?_, fun x x0 x1 hx => ?_⟩
  · rw [putW_other (by omega), putW_other (by omega)]
    exact hP.n
  · by_cases e : x = j
    · subst e
      have n46 := cl46_ne (c := c) hr j0 j1 j0 j1
      rw [putW_other (i := (c.cl 4 x).toNat) (by omega), putW_same, putW_same]
      have hs : stN (moveN (W (c.cl 4 x).toNat) st false) = st := (move_parts _ st false hst8).2.1
      unfold goneN
      rw [hs]
      rcases hg with ⟨g1, g2⟩ | ⟨g1, g2, g3⟩
      · exact .inr (.inl (by omega))
      · refine .inr (.inr ⟨g1, ?_⟩)
        rw [g2]
        exact decide_eq_true ⟨g3, Nat.le_refl _⟩
    · have hxj : x < j := by omega
      have a1 := cl4_ne (c := c) hr x0 (by omega) j0 j1 e
      have a2 := cl46_ne (c := c) hr (x := j) (y := x) j0 j1 x0 (by omega)
      have a3 := cl46_ne (c := c) hr (x := x) (y := j) x0 (by omega) j0 j1
      obtain ⟨x4, _⟩ := sl_cells (c := c) hr x0 (show x < c.s by omega)
      have e6x := nat6 (c := c) hr x0 (show x < c.s by omega)
      have a4 : c.cl 6 x ≠ c.cl 6 j := by
        have hb := c.rb hr
        unfold Cf.cl cellN
        rw [hr]
        simp [j0, j1, x0, show x < c.s by omega]
        omega
      rw [putW_other (i := (c.cl 4 x).toNat) (by omega), putW_other (i := (c.cl 4 x).toNat) (by omega), putW_other (i := (c.cl 6 x).toNat) (by omega), putW_other (i := (c.cl 6 x).toNat) (by omega)]
      exact hP.g x x0 hxj hx

theorem past_all (hr : c.r = true) (hn : ook h c.s = true) (k0 : 0 ≤ ky) (k1 : ky < c.k) {W W' : Nat → Nat} {e : Int} (hP : PastI c (svN h) nn W c.s) (hA : RdSum c h inn ky W W' e) :
    e = flN h inn (W (c.cl 4 (svN h)).toNat) ∧ ∀ i : Nat, i < c.n → W' i ≠ W i → (atK c.r c.t c.s c.k (i : Int) = 8 ∧ atO c.r c.t c.s c.k (i : Int) = ky) := by
  rcases hA with ⟨q, _⟩ | ⟨_, q, _⟩ | ⟨_, _, _, q, q2⟩ | ⟨_, _, q, q2⟩
  · omega
  · rw [hn] at q
    cases q
  · exact ⟨q, fun i _ hd => absurd (by rw [q2]) hd⟩
  · obtain ⟨h0, h1⟩ := slot_in hn
    have hg : ∀ x ∈ othersN (W (c.cl 8 ky).toNat) 1 (svN h), cfl c 1 (svN h) (W (c.cl 5 (svN h)).toNat) W x = 1 := by
      intro x hx
      unfold cfl
      split
      · rw [hP.n]
        exact jtg_gone (hP.g x (ot_facts x hx).1 (by assumption) (ot_facts x hx).2)
      · rfl
    obtain ⟨t1, t2⟩ := read_past q2 hg
    refine ⟨by rw [t1, q], fun i hi hd => ?_⟩
    have d8 := (key_cells (c := c) hr h0 h1 k0 k1).1
    refine (at_iff hr (by omega) hi).1 (Decidable.byContradiction fun hne => hd ?_)
    rw [t2]
    exact if_neg hne

end

end Um
