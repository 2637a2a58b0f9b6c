/-
  For every world's size, words and play, the law ReadPast answers true: alone, of a key whose writers were all committed ahead of its snapshot, or were aborted, a read has no conflict, and does not fail. Conditions: none.
-/
import Derived.Test.YtapgghciieloaaaGreatRows
import Derived.Test.YtapgghciieloaaaGreatP10
import Derived.Test.YtapgghciieloaaaGreatP3
import Derived.Test.YtapgghciieloaaaGreatP4
import Derived.Test.YtapgghciieloaaaGreatP5
import Derived.Test.YtapgghciieloaaaGreatP11
import Derived.LoopTactic
import Derived.WalkKit
import Derived.ProofKit
import Derived.OpenShut
import Derived.ShutString
import Derived.Lib.QuietBelow
import Derived.Deep.DeepCutAuto
namespace Go.Proofs.YtapgghciieloaaaGreat.readPast
set_option maxRecDepth 100000
open Go.ChangeShapes Go.WideShapes Go.ChangeAt Go.RowKit Go.Sort
set_option linter.unusedVariables false
set_option linter.unusedSimpArgs false

theorem own : ownKnob Tryz.prog.godebug = none := by kernel_rfl
theorem laidOut : laidOutB Tryz.prog = true := by kernel_rfl

theorem isWords_words {W : World} {v : Value} {n : Nat} {ws : Nat → Nat} (h : IsWords W v n ws) : ∀ i, i < n → Um.Word (ws i) := by
  rcases h with ⟨_, _, _, e⟩ | ⟨_, _, _, _, _, _, _, _, e⟩
  · intro i hi; omega
  · exact fun i hi => (e i hi).2

theorem refRight_c (c : Um.Cf) (w : World) : Calls Tryz.prog 39 #[(.agg #[.int .i64 (c.t), .int .i64 (c.s), .int .i64 (c.k), .int .i64 (c.g), .int .u64 (c.q : Int)])] w fun e w' => e = .returned (.bool c.r) ∧ Below w.heap.size w w' := rRight_any c.t c.s c.k c.g c.q w

theorem refLen_c (c : Um.Cf) (w : World) : Calls Tryz.prog 40 #[(.agg #[.int .i64 (c.t), .int .i64 (c.s), .int .i64 (c.k), .int .i64 (c.g), .int .u64 (c.q : Int)])] w fun e w' => e = .returned (.int .i64 (c.n : Int)) ∧ Below w.heap.size w w' :=
  (rLen_any c.t c.s c.k c.g c.q w).mono (fun r w' h2 => ⟨h2.1.trans (by rw [Cf_len]), h2.2⟩)

set_option maxHeartbeats 4000000 in
theorem walk_wrong (w : World) (c : Um.Cf) (a : Option Addr) (n cap : Nat) (x : Nat) (ky st : Int) (la : Option Addr) (nl cl : Nat) (hx : Um.Word x) (hr : c.r = false) :
    Calls Tryz.prog 9 #[(.agg #[.int .i64 (c.t), .int .i64 (c.s), .int .i64 (c.k), .int .i64 (c.g), .int .u64 (c.q : Int)]), .slice a n cap, .agg #[.int .u64 (x : Nat), .int .i64 ky, .int .i64 st, .slice la nl cl]] w fun e w' => e = .returned (.bool true) ∧ Below w.heap.size w w' := by
  have HKO := hide (fun u => krOf_any x c.s u hx)
  clear hx
  have hS := Sx.new w
  go_enter Tryz.func9, Tryz.ntmps9
  go_wp2_with (first | (refine ybox hS (h := ?_); clear hS; intro _ _ hS) | (refine yall hS (h := ?_); clear hS; intro _ _ hS) | refine yld hS (h := ?_) | (refine yst hS (h := ?_); clear hS; intro _ hS))
  refine ((unhide HKO) _).mono ?_
  rintro r u ⟨rfl, rfl⟩
  clear HKO
  obtain ⟨ob, hob⟩ : ∃ ob, ob = Um.ook x c.s := ⟨_, rfl⟩
  rw [← hob]
  clear hob
  go_wp2_with (first | (refine ybox hS (h := ?_); clear hS; intro _ _ hS) | (refine yall hS (h := ?_); clear hS; intro _ _ hS) | refine yld hS (h := ?_) | (refine yst hS (h := ?_); clear hS; intro _ hS))
  refine (refRight_c c _).mono ?_
  rintro r u ⟨rfl, hb⟩
  replace hS := hS.call hb
  clear hb
  rw [hr]
  go_wp2_with (first | (refine ybox hS (h := ?_); clear hS; intro _ _ hS) | (refine yall hS (h := ?_); clear hS; intro _ _ hS) | refine yld hS (h := ?_) | (refine yst hS (h := ?_); clear hS; intro _ hS))
  refine (rAlive_any _).mono ?_
  rintro r u ⟨rfl, hb⟩
  replace hS := hS.call hb
  have hB := hS.bel
  clear hb hS
  go_wp2
  go_ret
  exact ⟨rfl, hB⟩

set_option maxHeartbeats 4000000 in
theorem walk_short (w : World) (c : Um.Cf) (a : Option Addr) (n cap : Nat) (x : Nat) (ky st : Int) (la : Option Addr) (nl cl : Nat) (hx : Um.Word x) (hr : c.r = true) (hn : n ≠ c.n) :
    Calls Tryz.prog 9 #[(.agg #[.int .i64 (c.t), .int .i64 (c.s), .int .i64 (c.k), .int .i64 (c.g), .int .u64 (c.q : Int)]), .slice a n cap, .agg #[.int .u64 (x : Nat), .int .i64 ky, .int .i64 st, .slice la nl cl]] w fun e w' => e = .returned (.bool true) ∧ Below w.heap.size w w' := by
  have n1 : ¬ ((n : Nat) : Int) = ((c.n : Nat) : Int) := by omega
  have n2 : (((n : Nat) : Int) != ((c.n : Nat) : Int)) = true := by simpa using n1
  have HKO := hide (fun u => krOf_any x c.s u hx)
  clear hx
  have hS := Sx.new w
  go_enter Tryz.func9, Tryz.ntmps9
  go_wp2_with (first | (refine ybox hS (h := ?_); clear hS; intro _ _ hS) | (refine yall hS (h := ?_); clear hS; intro _ _ hS) | refine yld hS (h := ?_) | (refine yst hS (h := ?_); clear hS; intro _ hS))
  refine ((unhide HKO) _).mono ?_
  rintro r u ⟨rfl, rfl⟩
  clear HKO
  obtain ⟨ob, hob⟩ : ∃ ob, ob = Um.ook x c.s := ⟨_, rfl⟩
  rw [← hob]
  clear hob
  go_wp2_with (first | (refine ybox hS (h := ?_); clear hS; intro _ _ hS) | (refine yall hS (h := ?_); clear hS; intro _ _ hS) | refine yld hS (h := ?_) | (refine yst hS (h := ?_); clear hS; intro _ hS))
  refine (refRight_c c _).mono ?_
  rintro r u ⟨rfl, hb⟩
  replace hS := hS.call hb
  clear hb
  rw [hr]
  go_wp2_with (first | (refine ybox hS (h := ?_); clear hS; intro _ _ hS) | (refine yall hS (h := ?_); clear hS; intro _ _ hS) | refine yld hS (h := ?_) | (refine yst hS (h := ?_); clear hS; intro _ hS))
  refine (refLen_c c _).mono ?_
  rintro r u ⟨rfl, hb⟩
  replace hS := hS.call hb
  clear hb
  go_wp2_with (first | (refine ybox hS (h := ?_); clear hS; intro _ _ hS) | (refine yall hS (h := ?_); clear hS; intro _ _ hS) | refine yld hS (h := ?_) | (refine yst hS (h := ?_); clear hS; intro _ hS))
  refine (rAlive_any _).mono ?_
  rintro r u ⟨rfl, hb⟩
  replace hS := hS.call hb
  have hB := hS.bel
  clear hb hS
  go_wp2
  go_ret
  exact ⟨rfl, hB⟩

set_option maxHeartbeats 4000000 in
theorem walk_no (w : World) (c : Um.Cf) (a : Option Addr) (cap : Nat) (x : Nat) (ky st : Int) (la : Option Addr) (nl cl : Nat) (hx : Um.Word x) (hr : c.r = true) (hn : Um.ook x c.s = false) :
    Calls Tryz.prog 9 #[(.agg #[.int .i64 (c.t), .int .i64 (c.s), .int .i64 (c.k), .int .i64 (c.g), .int .u64 (c.q : Int)]), .slice a c.n cap, .agg #[.int .u64 (x : Nat), .int .i64 ky, .int .i64 st, .slice la nl cl]] w fun e w' => e = .returned (.bool true) ∧ Below w.heap.size w w' := by
  have n2 : (((c.n : Nat) : Int) != ((c.n : Nat) : Int)) = false := by simp
  have HN := hide hn
  clear hn
  have HKO := hide (fun u => krOf_any x c.s u hx)
  clear hx
  have hS := Sx.new w
  go_enter Tryz.func9, Tryz.ntmps9
  go_wp2_with (first | (refine ybox hS (h := ?_); clear hS; intro _ _ hS) | (refine yall hS (h := ?_); clear hS; intro _ _ hS) | refine yld hS (h := ?_) | (refine yst hS (h := ?_); clear hS; intro _ hS))
  refine ((unhide HKO) _).mono ?_
  rintro r u ⟨rfl, rfl⟩
  clear HKO
  rw [unhide HN]
  go_wp2_with (first | (refine ybox hS (h := ?_); clear hS; intro _ _ hS) | (refine yall hS (h := ?_); clear hS; intro _ _ hS) | refine yld hS (h := ?_) | (refine yst hS (h := ?_); clear hS; intro _ hS))
  refine (refRight_c c _).mono ?_
  rintro r u ⟨rfl, hb⟩
  replace hS := hS.call hb
  clear hb
  rw [hr]
  go_wp2_with (first | (refine ybox hS (h := ?_); clear hS; intro _ _ hS) | (refine yall hS (h := ?_); clear hS; intro _ _ hS) | refine yld hS (h := ?_) | (refine yst hS (h := ?_); clear hS; intro _ hS))
  refine (refLen_c c _).mono ?_
  rintro r u ⟨rfl, hb⟩
  replace hS := hS.call hb
  clear hb
  go_wp2_with (first | (refine ybox hS (h := ?_); clear hS; intro _ _ hS) | (refine yall hS (h := ?_); clear hS; intro _ _ hS) | refine yld hS (h := ?_) | (refine yst hS (h := ?_); clear hS; intro _ hS))
  refine (rAlive_any _).mono ?_
  rintro r u ⟨rfl, hb⟩
  replace hS := hS.call hb
  have hB := hS.bel
  clear hb hS
  go_wp2
  go_ret
  exact ⟨rfl, hB⟩

set_option maxHeartbeats 4000000 in
theorem walk_k1 (w : World) (c : Um.Cf) (a : Option Addr) (cap : Nat) (x : Nat) (ky st : Int) (la : Option Addr) (nl cl : Nat) (hx : Um.Word x) (hr : c.r = true) (hn : Um.ook x c.s = true) (hk : ky < 0) :
    Calls Tryz.prog 9 #[(.agg #[.int .i64 (c.t), .int .i64 (c.s), .int .i64 (c.k), .int .i64 (c.g), .int .u64 (c.q : Int)]), .slice a c.n cap, .agg #[.int .u64 (x : Nat), .int .i64 ky, .int .i64 st, .slice la nl cl]] w fun e w' => e = .returned (.bool true) ∧ Below w.heap.size w w' := by
  have n2 : (((c.n : Nat) : Int) != ((c.n : Nat) : Int)) = false := by simp
  have HN := hide hn
  clear hn
  have dk : decide (ky < 0) = true := decide_eq_true hk
  have HKO := hide (fun u => krOf_any x c.s u hx)
  clear hx
  have hS := Sx.new w
  go_enter Tryz.func9, Tryz.ntmps9
  go_wp2_with (first | (refine ybox hS (h := ?_); clear hS; intro _ _ hS) | (refine yall hS (h := ?_); clear hS; intro _ _ hS) | refine yld hS (h := ?_) | (refine yst hS (h := ?_); clear hS; intro _ hS))
  refine ((unhide HKO) _).mono ?_
  rintro r u ⟨rfl, rfl⟩
  clear HKO
  rw [unhide HN]
  go_wp2_with (first | (refine ybox hS (h := ?_); clear hS; intro _ _ hS) | (refine yall hS (h := ?_); clear hS; intro _ _ hS) | refine yld hS (h := ?_) | (refine yst hS (h := ?_); clear hS; intro _ hS))
  refine (refRight_c c _).mono ?_
  rintro r u ⟨rfl, hb⟩
  replace hS := hS.call hb
  clear hb
  rw [hr]
  go_wp2_with (first | (refine ybox hS (h := ?_); clear hS; intro _ _ hS) | (refine yall hS (h := ?_); clear hS; intro _ _ hS) | refine yld hS (h := ?_) | (refine yst hS (h := ?_); clear hS; intro _ hS))
  refine (refLen_c c _).mono ?_
  rintro r u ⟨rfl, hb⟩
  replace hS := hS.call hb
  clear hb
  go_wp2_with (first | (refine ybox hS (h := ?_); clear hS; intro _ _ hS) | (refine yall hS (h := ?_); clear hS; intro _ _ hS) | refine yld hS (h := ?_) | (refine yst hS (h := ?_); clear hS; intro _ hS))
  refine (rAlive_any _).mono ?_
  rintro r u ⟨rfl, hb⟩
  replace hS := hS.call hb
  have hB := hS.bel
  clear hb hS
  go_wp2
  go_ret
  exact ⟨rfl, hB⟩

set_option maxHeartbeats 4000000 in
theorem walk_k2 (w : World) (c : Um.Cf) (a : Option Addr) (cap : Nat) (x : Nat) (ky st : Int) (la : Option Addr) (nl cl : Nat) (hx : Um.Word x) (hr : c.r = true) (hn : Um.ook x c.s = true) (hk : ¬ ky < 0) (hk2 : c.k ≤ ky) :
    Calls Tryz.prog 9 #[(.agg #[.int .i64 (c.t), .int .i64 (c.s), .int .i64 (c.k), .int .i64 (c.g), .int .u64 (c.q : Int)]), .slice a c.n cap, .agg #[.int .u64 (x : Nat), .int .i64 ky, .int .i64 st, .slice la nl cl]] w fun e w' => e = .returned (.bool true) ∧ Below w.heap.size w w' := by
  have n2 : (((c.n : Nat) : Int) != ((c.n : Nat) : Int)) = false := by simp
  have HN := hide hn
  clear hn
  have dk : decide (ky < 0) = false := decide_eq_false hk
  have dk2 : decide (c.k ≤ ky) = true := decide_eq_true hk2
  have HKO := hide (fun u => krOf_any x c.s u hx)
  clear hx
  have hS := Sx.new w
  go_enter Tryz.func9, Tryz.ntmps9
  go_wp2_with (first | (refine ybox hS (h := ?_); clear hS; intro _ _ hS) | (refine yall hS (h := ?_); clear hS; intro _ _ hS) | refine yld hS (h := ?_) | (refine yst hS (h := ?_); clear hS; intro _ hS))
  refine ((unhide HKO) _).mono ?_
  rintro r u ⟨rfl, rfl⟩
  clear HKO
  rw [unhide HN]
  go_wp2_with (first | (refine ybox hS (h := ?_); clear hS; intro _ _ hS) | (refine yall hS (h := ?_); clear hS; intro _ _ hS) | refine yld hS (h := ?_) | (refine yst hS (h := ?_); clear hS; intro _ hS))
  refine (refRight_c c _).mono ?_
  rintro r u ⟨rfl, hb⟩
  replace hS := hS.call hb
  clear hb
  rw [hr]
  go_wp2_with (first | (refine ybox hS (h := ?_); clear hS; intro _ _ hS) | (refine yall hS (h := ?_); clear hS; intro _ _ hS) | refine yld hS (h := ?_) | (refine yst hS (h := ?_); clear hS; intro _ hS))
  refine (refLen_c c _).mono ?_
  rintro r u ⟨rfl, hb⟩
  replace hS := hS.call hb
  clear hb
  go_wp2_with (first | (refine ybox hS (h := ?_); clear hS; intro _ _ hS) | (refine yall hS (h := ?_); clear hS; intro _ _ hS) | refine yld hS (h := ?_) | (refine yst hS (h := ?_); clear hS; intro _ hS))
  refine (rAlive_any _).mono ?_
  rintro r u ⟨rfl, hb⟩
  replace hS := hS.call hb
  have hB := hS.bel
  clear hb hS
  go_wp2
  go_ret
  exact ⟨rfl, hB⟩

set_option maxRecDepth 100000 in
set_option maxHeartbeats 16000000 in
theorem walk_right (w : World) (c : Um.Cf) (v : Value) (ws : Nat → Nat) (x : Nat) (ky st : Int) (la : Option Addr) (nl cl : Nat) (h : c.r = true) (hv : IsWords w v c.n ws) (hx : Um.Word x) (hkb : -9223372036854775808 ≤ ky ∧ ky ≤ 9223372036854775807) (hk : ¬ ky < 0) (hk2 : ¬ c.k ≤ ky) (hno : Um.ook x c.s = true) :
    Calls Tryz.prog 9 #[(.agg #[.int .i64 (c.t), .int .i64 (c.s), .int .i64 (c.k), .int .i64 (c.g), .int .u64 (c.q : Int)]), v, .agg #[.int .u64 (x : Nat), .int .i64 ky, .int .i64 st, .slice la nl cl]] w fun e w' => e = .returned (.bool true) ∧ Below w.heap.size w w' := by
  have n2 : (((c.n : Nat) : Int) != ((c.n : Nat) : Int)) = false := by simp
  have dk : decide (ky < 0) = false := decide_eq_false hk
  have dk2 : decide (c.k ≤ ky) = false := decide_eq_false hk2
  have hsi := Um.slot_in hno
  obtain ⟨c4, c5, _⟩ := Um.sl_cells (c := c) h hsi.1 hsi.2
  have HC5 := hide (show 0 ≤ c.cl 5 (Um.svN x) by omega)
  have HC4 := hide (show 0 ≤ c.cl 4 (Um.svN x) by omega)
  have HKN := hide (show 0 ≤ ky ∧ ky < c.k by omega)
  have HSI := hide hsi
  have HKO := hide (fun u => krOf_any x c.s u hx)
  rw [hno, Um.os_yes hno, ← (Um.ook_facts hno).2.2] at HKO
  have HNO := hide hno
  have HXX := hide hx
  have HKB := hide hkb
  have hsv := Um.sv_range x
  have HSB := hide (show -9223372036854775808 ≤ Um.svN x ∧ Um.svN x ≤ 9223372036854775807 by omega)
  have hn0 : 0 < c.n := by have := Um.Cf.n_pos h; omega
  have hcs : 0 ≤ c.s ∧ c.s ≤ 12 := by have := c.rb h; omega
  have hr := h
  have HWW := hide (isWords_words hv)
  obtain ⟨m0n, hm0n⟩ : ∃ nn, nn = ws (c.cl 5 (Um.svN x)).toNat % 1000 := ⟨_, rfl⟩
  have HP0 := hide (Um.past_start (nn := m0n) h hsi.1 hsi.2 ws)
  have HNN := hide hm0n
  clear hm0n hsi c4 c5 hno hx hkb hsv
  have hn := c.n_le
  have hn8 := Um.Cf.n_pos h
  have hX : ∃ g0 off cap, v = .slice (some ⟨g0, off, none⟩) c.n cap ∧ c.n ≤ cap ∧ g0 < w.heap.size ∧ ∀ j, j < c.n → w.cell? ⟨g0, off + j, none⟩ = some (.int .u64 (ws j)) := by
    rcases hv with ⟨_, _, _, e⟩ | ⟨g0, off, cap, e, _, e1, _, e2, e3⟩
    · omega
    · exact ⟨g0, off, cap, e, e1, e2, fun j hj => (e3 j hj).1⟩
  have HV := hide hv
  have HR := hide h
  obtain ⟨g0, off, scap, rfl, hcap, hg0, hxs⟩ := hX
  have HX0 := hide hxs
  clear h hxs
  clear hv
  have hb8 : c.n * 8 ≤ 140737488355328 := by omega
  have hS := St.new w
  go_enter Tryz.func9, Tryz.ntmps9
  go_wp2_with (first | (refine wpl_box hS rfl _ _ rfl _ rfl _ (by intro _; simp only [Act.put, List.setIfInBounds_toArray, List.set_cons_zero, List.set_cons_succ]; first | done | exact rfl) ?_; clear hS; intro _ _ hS; dsimp only [blit, List.set, List.cons_append, List.nil_append, Value.cells, List.toList_toArray] at hS) | (refine wpl_alloc hS rfl _ rfl _ (zer_any rfl) _ (by intro _; simp only [Act.put, List.setIfInBounds_toArray, List.set_cons_zero, List.set_cons_succ]; first | done | exact rfl) ?_; clear hS; intro _ _ hS; dsimp only [blit, List.set, List.cons_append, List.nil_append, Value.cells, List.toList_toArray] at hS) | (refine wpl_ld hS rfl _ _ rfl _ _ rfl ?_; (first | refine ⟨0, _, rfl, ?_⟩ | refine ⟨1, _, rfl, ?_⟩ | refine ⟨2, _, rfl, ?_⟩ | refine ⟨3, _, rfl, ?_⟩ | refine ⟨4, _, rfl, ?_⟩ | refine ⟨5, _, rfl, ?_⟩ | refine ⟨6, _, rfl, ?_⟩ | refine ⟨7, _, rfl, ?_⟩ | refine ⟨8, _, rfl, ?_⟩ | refine ⟨9, _, rfl, ?_⟩); first | refine .inl ⟨_, one_any rfl, rfl, _, (by simp only [Act.put, List.setIfInBounds_toArray, List.set_cons_zero, List.set_cons_succ]; first | done | exact rfl), ?_⟩ | refine .inr ⟨_, _, row_any rfl, rfl, (by dsimp only [cutL, List.drop, List.take]; first | done | exact rfl), _, (by simp only [Act.put, List.setIfInBounds_toArray, List.set_cons_zero, List.set_cons_succ]; first | done | exact rfl), ?_⟩) | (refine wpl_st hS rfl _ _ _ rfl rfl _ _ rfl ?_; (first | refine ⟨0, _, rfl, ?_⟩ | refine ⟨1, _, rfl, ?_⟩ | refine ⟨2, _, rfl, ?_⟩ | refine ⟨3, _, rfl, ?_⟩ | refine ⟨4, _, rfl, ?_⟩ | refine ⟨5, _, rfl, ?_⟩ | refine ⟨6, _, rfl, ?_⟩ | refine ⟨7, _, rfl, ?_⟩ | refine ⟨8, _, rfl, ?_⟩ | refine ⟨9, _, rfl, ?_⟩); refine ⟨_, (by first | exact shA rfl | exact shI rfl | exact shB rfl | exact shS rfl | exact shP rfl | exact shF rfl | exact shN rfl), _, siz_any rfl, (by exact rfl), (by exact rfl), (by exact rfl), ?_⟩; clear hS; intro _ hS; dsimp only [blit, List.set, List.cons_append, List.nil_append, Value.cells, List.toList_toArray] at hS))
  refine ((unhide HKO) _).mono ?_
  rintro r u ⟨rfl, rfl⟩
  clear HKO
  go_wp2_with (first | (refine wpl_box hS rfl _ _ rfl _ rfl _ (by intro _; simp only [Act.put, List.setIfInBounds_toArray, List.set_cons_zero, List.set_cons_succ]; first | done | exact rfl) ?_; clear hS; intro _ _ hS; dsimp only [blit, List.set, List.cons_append, List.nil_append, Value.cells, List.toList_toArray] at hS) | (refine wpl_alloc hS rfl _ rfl _ (zer_any rfl) _ (by intro _; simp only [Act.put, List.setIfInBounds_toArray, List.set_cons_zero, List.set_cons_succ]; first | done | exact rfl) ?_; clear hS; intro _ _ hS; dsimp only [blit, List.set, List.cons_append, List.nil_append, Value.cells, List.toList_toArray] at hS) | (refine wpl_ld hS rfl _ _ rfl _ _ rfl ?_; (first | refine ⟨0, _, rfl, ?_⟩ | refine ⟨1, _, rfl, ?_⟩ | refine ⟨2, _, rfl, ?_⟩ | refine ⟨3, _, rfl, ?_⟩ | refine ⟨4, _, rfl, ?_⟩ | refine ⟨5, _, rfl, ?_⟩ | refine ⟨6, _, rfl, ?_⟩ | refine ⟨7, _, rfl, ?_⟩ | refine ⟨8, _, rfl, ?_⟩ | refine ⟨9, _, rfl, ?_⟩); first | refine .inl ⟨_, one_any rfl, rfl, _, (by simp only [Act.put, List.setIfInBounds_toArray, List.set_cons_zero, List.set_cons_succ]; first | done | exact rfl), ?_⟩ | refine .inr ⟨_, _, row_any rfl, rfl, (by dsimp only [cutL, List.drop, List.take]; first | done | exact rfl), _, (by simp only [Act.put, List.setIfInBounds_toArray, List.set_cons_zero, List.set_cons_succ]; first | done | exact rfl), ?_⟩) | (refine wpl_st hS rfl _ _ _ rfl rfl _ _ rfl ?_; (first | refine ⟨0, _, rfl, ?_⟩ | refine ⟨1, _, rfl, ?_⟩ | refine ⟨2, _, rfl, ?_⟩ | refine ⟨3, _, rfl, ?_⟩ | refine ⟨4, _, rfl, ?_⟩ | refine ⟨5, _, rfl, ?_⟩ | refine ⟨6, _, rfl, ?_⟩ | refine ⟨7, _, rfl, ?_⟩ | refine ⟨8, _, rfl, ?_⟩ | refine ⟨9, _, rfl, ?_⟩); refine ⟨_, (by first | exact shA rfl | exact shI rfl | exact shB rfl | exact shS rfl | exact shP rfl | exact shF rfl | exact shN rfl), _, siz_any rfl, (by exact rfl), (by exact rfl), (by exact rfl), ?_⟩; clear hS; intro _ hS; dsimp only [blit, List.set, List.cons_append, List.nil_append, Value.cells, List.toList_toArray] at hS))
  refine (refRight_c c _).mono ?_
  rintro r u ⟨rfl, hb⟩
  replace hS := hS.call hb
  clear hb
  rw [hr]
  go_wp2_with (first | (refine wpl_box hS rfl _ _ rfl _ rfl _ (by intro _; simp only [Act.put, List.setIfInBounds_toArray, List.set_cons_zero, List.set_cons_succ]; first | done | exact rfl) ?_; clear hS; intro _ _ hS; dsimp only [blit, List.set, List.cons_append, List.nil_append, Value.cells, List.toList_toArray] at hS) | (refine wpl_alloc hS rfl _ rfl _ (zer_any rfl) _ (by intro _; simp only [Act.put, List.setIfInBounds_toArray, List.set_cons_zero, List.set_cons_succ]; first | done | exact rfl) ?_; clear hS; intro _ _ hS; dsimp only [blit, List.set, List.cons_append, List.nil_append, Value.cells, List.toList_toArray] at hS) | (refine wpl_ld hS rfl _ _ rfl _ _ rfl ?_; (first | refine ⟨0, _, rfl, ?_⟩ | refine ⟨1, _, rfl, ?_⟩ | refine ⟨2, _, rfl, ?_⟩ | refine ⟨3, _, rfl, ?_⟩ | refine ⟨4, _, rfl, ?_⟩ | refine ⟨5, _, rfl, ?_⟩ | refine ⟨6, _, rfl, ?_⟩ | refine ⟨7, _, rfl, ?_⟩ | refine ⟨8, _, rfl, ?_⟩ | refine ⟨9, _, rfl, ?_⟩); first | refine .inl ⟨_, one_any rfl, rfl, _, (by simp only [Act.put, List.setIfInBounds_toArray, List.set_cons_zero, List.set_cons_succ]; first | done | exact rfl), ?_⟩ | refine .inr ⟨_, _, row_any rfl, rfl, (by dsimp only [cutL, List.drop, List.take]; first | done | exact rfl), _, (by simp only [Act.put, List.setIfInBounds_toArray, List.set_cons_zero, List.set_cons_succ]; first | done | exact rfl), ?_⟩) | (refine wpl_st hS rfl _ _ _ rfl rfl _ _ rfl ?_; (first | refine ⟨0, _, rfl, ?_⟩ | refine ⟨1, _, rfl, ?_⟩ | refine ⟨2, _, rfl, ?_⟩ | refine ⟨3, _, rfl, ?_⟩ | refine ⟨4, _, rfl, ?_⟩ | refine ⟨5, _, rfl, ?_⟩ | refine ⟨6, _, rfl, ?_⟩ | refine ⟨7, _, rfl, ?_⟩ | refine ⟨8, _, rfl, ?_⟩ | refine ⟨9, _, rfl, ?_⟩); refine ⟨_, (by first | exact shA rfl | exact shI rfl | exact shB rfl | exact shS rfl | exact shP rfl | exact shF rfl | exact shN rfl), _, siz_any rfl, (by exact rfl), (by exact rfl), (by exact rfl), ?_⟩; clear hS; intro _ hS; dsimp only [blit, List.set, List.cons_append, List.nil_append, Value.cells, List.toList_toArray] at hS))
  refine (refLen_c c _).mono ?_
  rintro r u ⟨rfl, hb⟩
  replace hS := hS.call hb
  clear hb
  go_wp2_with (first | (refine wpl_empty hS rfl rfl ?_; clear hS; intro _ _ hS) | (refine wpl_clone hS rfl _ _ rfl _ rfl _ _ _ _ rfl ws (fun j hj => (hS.bel.cell (p := ⟨g0, off + j, none⟩) hg0).trans ((unhide HX0) j hj)) hn0 hb8 ?_; clear hS; intro g cg w' hS hc1 hc2; dsimp only [List.cons_append, List.nil_append] at hS) | (first | (refine wpl_box hS rfl _ _ rfl _ rfl _ (by intro _; simp only [Act.put, List.setIfInBounds_toArray, List.set_cons_zero, List.set_cons_succ]; first | done | exact rfl) ?_; clear hS; intro _ _ hS; dsimp only [blit, List.set, List.cons_append, List.nil_append, Value.cells, List.toList_toArray] at hS) | (refine wpl_alloc hS rfl _ rfl _ (zer_any rfl) _ (by intro _; simp only [Act.put, List.setIfInBounds_toArray, List.set_cons_zero, List.set_cons_succ]; first | done | exact rfl) ?_; clear hS; intro _ _ hS; dsimp only [blit, List.set, List.cons_append, List.nil_append, Value.cells, List.toList_toArray] at hS) | (refine wpl_ld hS rfl _ _ rfl _ _ rfl ?_; (first | refine ⟨0, _, rfl, ?_⟩ | refine ⟨1, _, rfl, ?_⟩ | refine ⟨2, _, rfl, ?_⟩ | refine ⟨3, _, rfl, ?_⟩ | refine ⟨4, _, rfl, ?_⟩ | refine ⟨5, _, rfl, ?_⟩ | refine ⟨6, _, rfl, ?_⟩ | refine ⟨7, _, rfl, ?_⟩ | refine ⟨8, _, rfl, ?_⟩ | refine ⟨9, _, rfl, ?_⟩); first | refine .inl ⟨_, one_any rfl, rfl, _, (by simp only [Act.put, List.setIfInBounds_toArray, List.set_cons_zero, List.set_cons_succ]; first | done | exact rfl), ?_⟩ | refine .inr ⟨_, _, row_any rfl, rfl, (by dsimp only [cutL, List.drop, List.take]; first | done | exact rfl), _, (by simp only [Act.put, List.setIfInBounds_toArray, List.set_cons_zero, List.set_cons_succ]; first | done | exact rfl), ?_⟩) | (refine wpl_st hS rfl _ _ _ rfl rfl _ _ rfl ?_; (first | refine ⟨0, _, rfl, ?_⟩ | refine ⟨1, _, rfl, ?_⟩ | refine ⟨2, _, rfl, ?_⟩ | refine ⟨3, _, rfl, ?_⟩ | refine ⟨4, _, rfl, ?_⟩ | refine ⟨5, _, rfl, ?_⟩ | refine ⟨6, _, rfl, ?_⟩ | refine ⟨7, _, rfl, ?_⟩ | refine ⟨8, _, rfl, ?_⟩ | refine ⟨9, _, rfl, ?_⟩); refine ⟨_, (by first | exact shA rfl | exact shI rfl | exact shB rfl | exact shS rfl | exact shP rfl | exact shF rfl | exact shN rfl), _, siz_any rfl, (by exact rfl), (by exact rfl), (by exact rfl), ?_⟩; clear hS; intro _ hS; dsimp only [blit, List.set, List.cons_append, List.nil_append, Value.cells, List.toList_toArray] at hS)))
  have hS2 := hS.sx
  clear hS
  have hS := Sx.shelve (l := [_, _]) (by exact hS2)
  clear hS2 dk dk2 n2
  dsimp only [List.cons_append, List.nil_append] at hS
  obtain ⟨CF, rfl⟩ := nameB hS 0 rfl
  obtain ⟨PL, rfl⟩ := nameB hS 1 rfl
  have HWD := hide (unhide HWW)
  refine (lAt_any c (kd := 5) (i := Um.svN x) _ (isWords_e (hS.getE 0 rfl) hn0 hc1 hc2 (unhide HWD)) (unhide HC5)).mono ?_
  rintro r u ⟨rfl, hb⟩
  replace hS := hS.call hb
  clear hb
  go_wp2_with fail
  rw [show (((ws (c.cl 5 (Um.svN x)).toNat : Nat) : Int) % 1000) = ((m0n : Nat) : Int) by rw [unhide HNN]; rfl]
  have HNW := hide (show Um.Word m0n by rw [unhide HNN]; unfold Um.Word; omega)
  have k0 := fun w1 (hq : (BlkAt w1 CF [.int .i64 c.t, .int .i64 c.s, .int .i64 c.k, .int .i64 c.g, .int .u64 c.q] ∧ BlkAt w1 PL [.int .u64 (x : Nat), .int .i64 ky, .int .i64 st, .slice la nl cl])) => hq.1.cell 0 _ rfl
  have k1 := fun w1 (hq : (BlkAt w1 CF [.int .i64 c.t, .int .i64 c.s, .int .i64 c.k, .int .i64 c.g, .int .u64 c.q] ∧ BlkAt w1 PL [.int .u64 (x : Nat), .int .i64 ky, .int .i64 st, .slice la nl cl])) => hq.1.cell 1 _ rfl
  have k2 := fun w1 (hq : (BlkAt w1 CF [.int .i64 c.t, .int .i64 c.s, .int .i64 c.k, .int .i64 c.g, .int .u64 c.q] ∧ BlkAt w1 PL [.int .u64 (x : Nat), .int .i64 ky, .int .i64 st, .slice la nl cl])) => hq.1.cell 2 _ rfl
  have k3 := fun w1 (hq : (BlkAt w1 CF [.int .i64 c.t, .int .i64 c.s, .int .i64 c.k, .int .i64 c.g, .int .u64 c.q] ∧ BlkAt w1 PL [.int .u64 (x : Nat), .int .i64 ky, .int .i64 st, .slice la nl cl])) => hq.1.cell 3 _ rfl
  have k4 := fun w1 (hq : (BlkAt w1 CF [.int .i64 c.t, .int .i64 c.s, .int .i64 c.k, .int .i64 c.g, .int .u64 c.q] ∧ BlkAt w1 PL [.int .u64 (x : Nat), .int .i64 ky, .int .i64 st, .slice la nl cl])) => hq.1.cell 4 _ rfl
  have k6 := fun w1 (hq : (BlkAt w1 CF [.int .i64 c.t, .int .i64 c.s, .int .i64 c.k, .int .i64 c.g, .int .u64 c.q] ∧ BlkAt w1 PL [.int .u64 (x : Nat), .int .i64 ky, .int .i64 st, .slice la nl cl])) => hq.2.cell 1 _ rfl
  have HP := hide (And.intro (hS.get 0 rfl) (hS.get 1 rfl))
  have HS3 := hide hS
  clear hS
  go_region_held3 (fun w1 => (BlkAt w1 CF [.int .i64 c.t, .int .i64 c.s, .int .i64 c.k, .int .i64 c.g, .int .u64 c.q] ∧ BlkAt w1 PL [.int .u64 (x : Nat), .int .i64 ky, .int .i64 st, .slice la nl cl])) (first | exact ⟨(unhide HP).1.drew, (unhide HP).2.drew⟩ | exact hPn | assumption) (first | (go_at_call 25; refine (of12_any _ _ _).mono ?_; rintro e u5 ⟨rfl, hb5⟩; have hSa := Sx.call (by first | exact hSa | exact (unhide HS3).drew) hb5; have hPn := And.intro (hSa.get 0 rfl) (hSa.get 1 rfl)) | (go_at_call 24; refine (lPut_b c (kd := 5) (i := Um.svN x) (y := m0n) _ (isWords_e (Sx.getE (by first | exact hSa | exact (unhide HS3).drew) 0 rfl) hn0 hc1 hc2 (unhide HWD)) (unhide HC5) (unhide HNW)).mono ?_; rintro e u7 ⟨g6, cg6, rfl, hc3, hc4, hfr, hB, hwd, hb5⟩; have hSa := Sx.ref (by first | exact hSa | exact (unhide HS3).drew) hb5 0 rfl (Or.inr hfr) hB; have hPn := And.intro (hSa.get 0 rfl) (hSa.get 1 rfl)))
  have hS := hSa
  have HWD2 := hide hwd
  clear hSa hPn HS3 HP HWD hwd hB hfr hb5 hc1 hc2
  have HWD := HWD2
  have hc1 := hc3
  have hc2 := hc4
  clear HWD2 hc3 hc4
  dsimp only [List.set] at hS
  clear k0 k1 k2 k3 k4 k6
  obtain ⟨sn, hsn⟩ : ∃ sn : Nat, (sn : Int) = c.s := ⟨c.s.toNat, by omega⟩
  go_wp2_with (first | (refine ybox hS (h := ?_); clear hS; intro _ _ hS) | (refine yall hS (h := ?_); clear hS; intro _ _ hS) | refine yld hS (h := ?_) | (refine yst hS (h := ?_); clear hS; intro _ hS))
  go_loopw [10, 75] (fun v1 iv wr => ∃ (j gw cw : Nat) (W : Nat → Nat), j ≤ sn ∧ iv = .int .i64 j ∧ v1 = .slice (some ⟨gw, 0, none⟩) c.n cw ∧ c.n ≤ cw ∧ cw ≤ maxLen ∧ Hid (∀ i, i < c.n → Um.Word (W i)) ∧ Hid (Um.PastI c (Um.svN x) m0n W j) ∧ Hid (Sx [] w wr [(CF, [.int .i64 c.t, .int .i64 c.s, .int .i64 c.k, .int .i64 c.g, .int .u64 c.q]), (PL, [.int .u64 (x : Nat), .int .i64 ky, .int .i64 st, .slice la nl cl])] [(gw, rowW W c.n)])) (fun _ iv _ => sn - (intOf iv).toNat)
  case atStart => exact ⟨0, _, _, _, Nat.zero_le _, rfl, rfl, hc1, hc2, HWD, HP0, hide hS⟩
  case round =>
    clear hS HWD HP0 hc1 hc2
    rename_i v1 wr
    obtain ⟨j, gw, cw, W, hj, rfl, rfl, hc1, hc2, HWD, HPI, HS⟩ := hrel
    have hS := unhide HS
    clear HS
    by_cases hlt : j < sn
    · have hlti : (j : Int) < c.s := by omega
      by_cases hjs : (j : Int) = Um.svN x
      · have HP6 := hide (show Um.PastI c (Um.svN x) m0n W ((j + 1 : Nat) : Int) by
          have e := unhide HPI
          rw [hjs] at e
          have e2 := Um.past_skip e
          rw [show ((j + 1 : Nat) : Int) = Um.svN x + 1 by omega]
          exact e2)
        have e1 : ((j : Int) == Um.svN x) = true := by simpa using hjs
        have HS6 := hide hS
        clear hS
        go_wp2
        exact ⟨⟨j + 1, gw, cw, W, by omega, by go_num, rfl, hc1, hc2, HWD, HP6, HS6⟩, by simp [intOf]; omega⟩
      · have e1 : ((j : Int) == Um.svN x) = false := by simpa using hjs
        have HJ := hide (And.intro hlti hjs)
        have hj4 := (Um.sl_cells (c := c) (unhide HR) (f := (j : Int)) (by omega) hlti).1
        have hj6 : 0 ≤ c.cl 6 (j : Int) := by have := Um.sl_cells (c := c) (unhide HR) (f := (j : Int)) (by omega) hlti; omega
        have HJ4 := hide (show 0 ≤ c.cl 4 (j : Int) by omega)
        have HJ6 := hide hj6
        clear hj4 hj6
        have HWJ := hide ((unhide HWD) _ (Um.Cf.cl_lt (unhide HJ4)))
        by_cases h2 : j % 2 = 0
        · have e2 : (j : Int) % 2 = 0 := by omega
          have e3 : ((j : Int) % 2 == 0) = true := by simpa using e2
          by_cases hp : 0 < m0n
          · have e4 : (0 : Int) < (m0n : Int) := by omega
            have e5 : decide ((0 : Int) < (m0n : Int)) = true := decide_eq_true e4
            have HPP := hide hp
            go_wp2_with fail
            have k0 := fun w1 (hq : (BlkAt w1 CF [.int .i64 c.t, .int .i64 c.s, .int .i64 c.k, .int .i64 c.g, .int .u64 c.q] ∧ BlkAt w1 PL [.int .u64 (x : Nat), .int .i64 ky, .int .i64 st, .slice la nl cl])) => hq.1.cell 0 _ rfl
            have k1 := fun w1 (hq : (BlkAt w1 CF [.int .i64 c.t, .int .i64 c.s, .int .i64 c.k, .int .i64 c.g, .int .u64 c.q] ∧ BlkAt w1 PL [.int .u64 (x : Nat), .int .i64 ky, .int .i64 st, .slice la nl cl])) => hq.1.cell 1 _ rfl
            have k2 := fun w1 (hq : (BlkAt w1 CF [.int .i64 c.t, .int .i64 c.s, .int .i64 c.k, .int .i64 c.g, .int .u64 c.q] ∧ BlkAt w1 PL [.int .u64 (x : Nat), .int .i64 ky, .int .i64 st, .slice la nl cl])) => hq.1.cell 2 _ rfl
            have k3 := fun w1 (hq : (BlkAt w1 CF [.int .i64 c.t, .int .i64 c.s, .int .i64 c.k, .int .i64 c.g, .int .u64 c.q] ∧ BlkAt w1 PL [.int .u64 (x : Nat), .int .i64 ky, .int .i64 st, .slice la nl cl])) => hq.1.cell 3 _ rfl
            have k4 := fun w1 (hq : (BlkAt w1 CF [.int .i64 c.t, .int .i64 c.s, .int .i64 c.k, .int .i64 c.g, .int .u64 c.q] ∧ BlkAt w1 PL [.int .u64 (x : Nat), .int .i64 ky, .int .i64 st, .slice la nl cl])) => hq.1.cell 4 _ rfl
            have k6 := fun w1 (hq : (BlkAt w1 CF [.int .i64 c.t, .int .i64 c.s, .int .i64 c.k, .int .i64 c.g, .int .u64 c.q] ∧ BlkAt w1 PL [.int .u64 (x : Nat), .int .i64 ky, .int .i64 st, .slice la nl cl])) => hq.2.cell 1 _ rfl
            have HP := hide (And.intro (hS.get 0 rfl) (hS.get 1 rfl))
            have HS3 := hide hS
            clear hS
            go_region_held3 (fun w1 => (BlkAt w1 CF [.int .i64 c.t, .int .i64 c.s, .int .i64 c.k, .int .i64 c.g, .int .u64 c.q] ∧ BlkAt w1 PL [.int .u64 (x : Nat), .int .i64 ky, .int .i64 st, .slice la nl cl])) (first | exact ⟨(unhide HP).1.drew, (unhide HP).2.drew⟩ | exact hPn | assumption) (first | (go_at_call 25; refine (of12_any _ _ _).mono ?_; rintro e u5 ⟨rfl, hb5⟩; have hSa := Sx.call (by first | exact hSa | exact (unhide HS3).drew) hb5; have hPn := And.intro (hSa.get 0 rfl) (hSa.get 1 rfl)) | (go_at_call 23; refine (lAt_any c (kd := 4) (i := (j : Int)) _ (isWords_e (Sx.getE (by first | exact hSa | exact (unhide HS3).drew) 0 rfl) hn0 hc1 hc2 (unhide HWD)) (unhide HJ4)).mono ?_; rintro e u5 ⟨rfl, hb5⟩; have hSa := Sx.call (by first | exact hSa | exact (unhide HS3).drew) hb5; have hPn := And.intro (hSa.get 0 rfl) (hSa.get 1 rfl)) | (go_at_call 29; refine (drew_below (refMove_any (W (c.cl 4 (j : Int)).toNat) 4 false _ (unhide HWJ))).mono ?_; rintro e u5 ⟨rfl, hb5⟩; have hSa := Sx.call (by first | exact hSa | exact (unhide HS3).drew) hb5; have hPn := And.intro (hSa.get 0 rfl) (hSa.get 1 rfl)) | (go_at_call 24; refine (lPut_b c (kd := 4) (i := (j : Int)) (y := Um.moveN (W (c.cl 4 (j : Int)).toNat) 4 false) _ (isWords_e (Sx.getE (by first | exact hSa | exact (unhide HS3).drew) 0 rfl) hn0 hc1 hc2 (unhide HWD)) (unhide HJ4) (Um.move_word (unhide HWJ) (by decide))).mono ?_; rintro e u7 ⟨g7, cg7, rfl, hc3, hc4, hfr, hB, hwd, hb5⟩; have hSa := Sx.ref (by first | exact hSa | exact (unhide HS3).drew) hb5 0 rfl (Or.inr hfr) hB; have hPn := And.intro (hSa.get 0 rfl) (hSa.get 1 rfl)))
            all_goals
              have hS := hSa
              have HWD2 := hide hwd
              clear hSa hPn HS3 HP HWD hwd hB hfr hb5 hc1 hc2
              have HWD := HWD2
              have hc1 := hc3
              have hc2 := hc4
              clear HWD2 hc3 hc4
              dsimp only [List.set] at hS
              go_wp2_with fail
              have HP := hide (And.intro (hS.get 0 rfl) (hS.get 1 rfl))
              have HS3 := hide hS
              clear hS
              go_region_held3 (fun w1 => (BlkAt w1 CF [.int .i64 c.t, .int .i64 c.s, .int .i64 c.k, .int .i64 c.g, .int .u64 c.q] ∧ BlkAt w1 PL [.int .u64 (x : Nat), .int .i64 ky, .int .i64 st, .slice la nl cl])) (first | exact ⟨(unhide HP).1.drew, (unhide HP).2.drew⟩ | exact hPn | assumption) (first | (go_at_call 25; refine (of12_any _ _ _).mono ?_; rintro e u5 ⟨rfl, hb5⟩; have hSa := Sx.call (by first | exact hSa | exact (unhide HS3).drew) hb5; have hPn := And.intro (hSa.get 0 rfl) (hSa.get 1 rfl)) | (go_at_call 24; refine (lPut_b c (kd := 6) (i := (j : Int)) (y := m0n) _ (isWords_e (Sx.getE (by first | exact hSa | exact (unhide HS3).drew) 0 rfl) hn0 hc1 hc2 (unhide HWD)) (unhide HJ6) (unhide HNW)).mono ?_; rintro e u7 ⟨g8, cg8, rfl, hc3, hc4, hfr, hB, hwd, hb5⟩; have hSa := Sx.ref (by first | exact hSa | exact (unhide HS3).drew) hb5 0 rfl (Or.inr hfr) hB; have hPn := And.intro (hSa.get 0 rfl) (hSa.get 1 rfl)))
              all_goals
                have hS := hSa
                have HWD2 := hide hwd
                clear hSa hPn HS3 HP HWD hwd hB hfr hb5 hc1 hc2
                have HWD := HWD2
                have hc1 := hc3
                have hc2 := hc4
                clear HWD2 hc3 hc4
                dsimp only [List.set] at hS
                have HP6 := hide (show Um.PastI c (Um.svN x) m0n _ ((j + 1 : Nat) : Int) from Um.past_next (st := 4) (num := m0n) (unhide HR) (unhide HSI).1 (unhide HSI).2 (show (0 : Int) ≤ (j : Int) by omega) (unhide HJ).1 (unhide HJ).2 (unhide HPI) (.inr ⟨rfl, rfl, unhide HPP⟩))
                have HS6 := hide hS
                clear hS k0 k1 k2 k3 k4 k6
                go_wp2
                exact ⟨⟨j + 1, _, _, _, by omega, by go_num, rfl, hc1, hc2, HWD, HP6, HS6⟩, by simp [intOf]; omega⟩
          · have e4 : ¬ (0 : Int) < (m0n : Int) := by omega
            have e5 : decide ((0 : Int) < (m0n : Int)) = false := decide_eq_false e4
            go_wp2_with fail
            have k0 := fun w1 (hq : (BlkAt w1 CF [.int .i64 c.t, .int .i64 c.s, .int .i64 c.k, .int .i64 c.g, .int .u64 c.q] ∧ BlkAt w1 PL [.int .u64 (x : Nat), .int .i64 ky, .int .i64 st, .slice la nl cl])) => hq.1.cell 0 _ rfl
            have k1 := fun w1 (hq : (BlkAt w1 CF [.int .i64 c.t, .int .i64 c.s, .int .i64 c.k, .int .i64 c.g, .int .u64 c.q] ∧ BlkAt w1 PL [.int .u64 (x : Nat), .int .i64 ky, .int .i64 st, .slice la nl cl])) => hq.1.cell 1 _ rfl
            have k2 := fun w1 (hq : (BlkAt w1 CF [.int .i64 c.t, .int .i64 c.s, .int .i64 c.k, .int .i64 c.g, .int .u64 c.q] ∧ BlkAt w1 PL [.int .u64 (x : Nat), .int .i64 ky, .int .i64 st, .slice la nl cl])) => hq.1.cell 2 _ rfl
            have k3 := fun w1 (hq : (BlkAt w1 CF [.int .i64 c.t, .int .i64 c.s, .int .i64 c.k, .int .i64 c.g, .int .u64 c.q] ∧ BlkAt w1 PL [.int .u64 (x : Nat), .int .i64 ky, .int .i64 st, .slice la nl cl])) => hq.1.cell 3 _ rfl
            have k4 := fun w1 (hq : (BlkAt w1 CF [.int .i64 c.t, .int .i64 c.s, .int .i64 c.k, .int .i64 c.g, .int .u64 c.q] ∧ BlkAt w1 PL [.int .u64 (x : Nat), .int .i64 ky, .int .i64 st, .slice la nl cl])) => hq.1.cell 4 _ rfl
            have k6 := fun w1 (hq : (BlkAt w1 CF [.int .i64 c.t, .int .i64 c.s, .int .i64 c.k, .int .i64 c.g, .int .u64 c.q] ∧ BlkAt w1 PL [.int .u64 (x : Nat), .int .i64 ky, .int .i64 st, .slice la nl cl])) => hq.2.cell 1 _ rfl
            have HP := hide (And.intro (hS.get 0 rfl) (hS.get 1 rfl))
            have HS3 := hide hS
            clear hS
            go_region_held3 (fun w1 => (BlkAt w1 CF [.int .i64 c.t, .int .i64 c.s, .int .i64 c.k, .int .i64 c.g, .int .u64 c.q] ∧ BlkAt w1 PL [.int .u64 (x : Nat), .int .i64 ky, .int .i64 st, .slice la nl cl])) (first | exact ⟨(unhide HP).1.drew, (unhide HP).2.drew⟩ | exact hPn | assumption) (first | (go_at_call 25; refine (of12_any _ _ _).mono ?_; rintro e u5 ⟨rfl, hb5⟩; have hSa := Sx.call (by first | exact hSa | exact (unhide HS3).drew) hb5; have hPn := And.intro (hSa.get 0 rfl) (hSa.get 1 rfl)) | (go_at_call 23; refine (lAt_any c (kd := 4) (i := (j : Int)) _ (isWords_e (Sx.getE (by first | exact hSa | exact (unhide HS3).drew) 0 rfl) hn0 hc1 hc2 (unhide HWD)) (unhide HJ4)).mono ?_; rintro e u5 ⟨rfl, hb5⟩; have hSa := Sx.call (by first | exact hSa | exact (unhide HS3).drew) hb5; have hPn := And.intro (hSa.get 0 rfl) (hSa.get 1 rfl)) | (go_at_call 29; refine (drew_below (refMove_any (W (c.cl 4 (j : Int)).toNat) 5 false _ (unhide HWJ))).mono ?_; rintro e u5 ⟨rfl, hb5⟩; have hSa := Sx.call (by first | exact hSa | exact (unhide HS3).drew) hb5; have hPn := And.intro (hSa.get 0 rfl) (hSa.get 1 rfl)) | (go_at_call 24; refine (lPut_b c (kd := 4) (i := (j : Int)) (y := Um.moveN (W (c.cl 4 (j : Int)).toNat) 5 false) _ (isWords_e (Sx.getE (by first | exact hSa | exact (unhide HS3).drew) 0 rfl) hn0 hc1 hc2 (unhide HWD)) (unhide HJ4) (Um.move_word (unhide HWJ) (by decide))).mono ?_; rintro e u7 ⟨g7, cg7, rfl, hc3, hc4, hfr, hB, hwd, hb5⟩; have hSa := Sx.ref (by first | exact hSa | exact (unhide HS3).drew) hb5 0 rfl (Or.inr hfr) hB; have hPn := And.intro (hSa.get 0 rfl) (hSa.get 1 rfl)))
            all_goals
              have hS := hSa
              have HWD2 := hide hwd
              clear hSa hPn HS3 HP HWD hwd hB hfr hb5 hc1 hc2
              have HWD := HWD2
              have hc1 := hc3
              have hc2 := hc4
              clear HWD2 hc3 hc4
              dsimp only [List.set] at hS
              go_wp2_with fail
              have HP := hide (And.intro (hS.get 0 rfl) (hS.get 1 rfl))
              have HS3 := hide hS
              clear hS
              go_region_held3 (fun w1 => (BlkAt w1 CF [.int .i64 c.t, .int .i64 c.s, .int .i64 c.k, .int .i64 c.g, .int .u64 c.q] ∧ BlkAt w1 PL [.int .u64 (x : Nat), .int .i64 ky, .int .i64 st, .slice la nl cl])) (first | exact ⟨(unhide HP).1.drew, (unhide HP).2.drew⟩ | exact hPn | assumption) (first | (go_at_call 25; refine (of12_any _ _ _).mono ?_; rintro e u5 ⟨rfl, hb5⟩; have hSa := Sx.call (by first | exact hSa | exact (unhide HS3).drew) hb5; have hPn := And.intro (hSa.get 0 rfl) (hSa.get 1 rfl)) | (go_at_call 24; refine (lPut_b c (kd := 6) (i := (j : Int)) (y := 0) _ (isWords_e (Sx.getE (by first | exact hSa | exact (unhide HS3).drew) 0 rfl) hn0 hc1 hc2 (unhide HWD)) (unhide HJ6) Um.zero_word).mono ?_; rintro e u7 ⟨g8, cg8, rfl, hc3, hc4, hfr, hB, hwd, hb5⟩; have hSa := Sx.ref (by first | exact hSa | exact (unhide HS3).drew) hb5 0 rfl (Or.inr hfr) hB; have hPn := And.intro (hSa.get 0 rfl) (hSa.get 1 rfl)))
              all_goals
                have hS := hSa
                have HWD2 := hide hwd
                clear hSa hPn HS3 HP HWD hwd hB hfr hb5 hc1 hc2
                have HWD := HWD2
                have hc1 := hc3
                have hc2 := hc4
                clear HWD2 hc3 hc4
                dsimp only [List.set] at hS
                have HP6 := hide (show Um.PastI c (Um.svN x) m0n _ ((j + 1 : Nat) : Int) from Um.past_next (st := 5) (num := 0) (unhide HR) (unhide HSI).1 (unhide HSI).2 (show (0 : Int) ≤ (j : Int) by omega) (unhide HJ).1 (unhide HJ).2 (unhide HPI) (.inl ⟨rfl, rfl⟩))
                have HS6 := hide hS
                clear hS k0 k1 k2 k3 k4 k6
                go_wp2
                exact ⟨⟨j + 1, _, _, _, by omega, by go_num, rfl, hc1, hc2, HWD, HP6, HS6⟩, by simp [intOf]; omega⟩
        · have e2 : ¬ (j : Int) % 2 = 0 := by omega
          have e3 : ((j : Int) % 2 == 0) = false := by simpa using e2
          go_wp2_with fail
          have k0 := fun w1 (hq : (BlkAt w1 CF [.int .i64 c.t, .int .i64 c.s, .int .i64 c.k, .int .i64 c.g, .int .u64 c.q] ∧ BlkAt w1 PL [.int .u64 (x : Nat), .int .i64 ky, .int .i64 st, .slice la nl cl])) => hq.1.cell 0 _ rfl
          have k1 := fun w1 (hq : (BlkAt w1 CF [.int .i64 c.t, .int .i64 c.s, .int .i64 c.k, .int .i64 c.g, .int .u64 c.q] ∧ BlkAt w1 PL [.int .u64 (x : Nat), .int .i64 ky, .int .i64 st, .slice la nl cl])) => hq.1.cell 1 _ rfl
          have k2 := fun w1 (hq : (BlkAt w1 CF [.int .i64 c.t, .int .i64 c.s, .int .i64 c.k, .int .i64 c.g, .int .u64 c.q] ∧ BlkAt w1 PL [.int .u64 (x : Nat), .int .i64 ky, .int .i64 st, .slice la nl cl])) => hq.1.cell 2 _ rfl
          have k3 := fun w1 (hq : (BlkAt w1 CF [.int .i64 c.t, .int .i64 c.s, .int .i64 c.k, .int .i64 c.g, .int .u64 c.q] ∧ BlkAt w1 PL [.int .u64 (x : Nat), .int .i64 ky, .int .i64 st, .slice la nl cl])) => hq.1.cell 3 _ rfl
          have k4 := fun w1 (hq : (BlkAt w1 CF [.int .i64 c.t, .int .i64 c.s, .int .i64 c.k, .int .i64 c.g, .int .u64 c.q] ∧ BlkAt w1 PL [.int .u64 (x : Nat), .int .i64 ky, .int .i64 st, .slice la nl cl])) => hq.1.cell 4 _ rfl
          have k6 := fun w1 (hq : (BlkAt w1 CF [.int .i64 c.t, .int .i64 c.s, .int .i64 c.k, .int .i64 c.g, .int .u64 c.q] ∧ BlkAt w1 PL [.int .u64 (x : Nat), .int .i64 ky, .int .i64 st, .slice la nl cl])) => hq.2.cell 1 _ rfl
          have HP := hide (And.intro (hS.get 0 rfl) (hS.get 1 rfl))
          have HS3 := hide hS
          clear hS
          go_region_held3 (fun w1 => (BlkAt w1 CF [.int .i64 c.t, .int .i64 c.s, .int .i64 c.k, .int .i64 c.g, .int .u64 c.q] ∧ BlkAt w1 PL [.int .u64 (x : Nat), .int .i64 ky, .int .i64 st, .slice la nl cl])) (first | exact ⟨(unhide HP).1.drew, (unhide HP).2.drew⟩ | exact hPn | assumption) (first | (go_at_call 25; refine (of12_any _ _ _).mono ?_; rintro e u5 ⟨rfl, hb5⟩; have hSa := Sx.call (by first | exact hSa | exact (unhide HS3).drew) hb5; have hPn := And.intro (hSa.get 0 rfl) (hSa.get 1 rfl)) | (go_at_call 23; refine (lAt_any c (kd := 4) (i := (j : Int)) _ (isWords_e (Sx.getE (by first | exact hSa | exact (unhide HS3).drew) 0 rfl) hn0 hc1 hc2 (unhide HWD)) (unhide HJ4)).mono ?_; rintro e u5 ⟨rfl, hb5⟩; have hSa := Sx.call (by first | exact hSa | exact (unhide HS3).drew) hb5; have hPn := And.intro (hSa.get 0 rfl) (hSa.get 1 rfl)) | (go_at_call 29; refine (drew_below (refMove_any (W (c.cl 4 (j : Int)).toNat) 5 false _ (unhide HWJ))).mono ?_; rintro e u5 ⟨rfl, hb5⟩; have hSa := Sx.call (by first | exact hSa | exact (unhide HS3).drew) hb5; have hPn := And.intro (hSa.get 0 rfl) (hSa.get 1 rfl)) | (go_at_call 24; refine (lPut_b c (kd := 4) (i := (j : Int)) (y := Um.moveN (W (c.cl 4 (j : Int)).toNat) 5 false) _ (isWords_e (Sx.getE (by first | exact hSa | exact (unhide HS3).drew) 0 rfl) hn0 hc1 hc2 (unhide HWD)) (unhide HJ4) (Um.move_word (unhide HWJ) (by decide))).mono ?_; rintro e u7 ⟨g7, cg7, rfl, hc3, hc4, hfr, hB, hwd, hb5⟩; have hSa := Sx.ref (by first | exact hSa | exact (unhide HS3).drew) hb5 0 rfl (Or.inr hfr) hB; have hPn := And.intro (hSa.get 0 rfl) (hSa.get 1 rfl)))
          all_goals
            have hS := hSa
            have HWD2 := hide hwd
            clear hSa hPn HS3 HP HWD hwd hB hfr hb5 hc1 hc2
            have HWD := HWD2
            have hc1 := hc3
            have hc2 := hc4
            clear HWD2 hc3 hc4
            dsimp only [List.set] at hS
            go_wp2_with fail
            have HP := hide (And.intro (hS.get 0 rfl) (hS.get 1 rfl))
            have HS3 := hide hS
            clear hS
            go_region_held3 (fun w1 => (BlkAt w1 CF [.int .i64 c.t, .int .i64 c.s, .int .i64 c.k, .int .i64 c.g, .int .u64 c.q] ∧ BlkAt w1 PL [.int .u64 (x : Nat), .int .i64 ky, .int .i64 st, .slice la nl cl])) (first | exact ⟨(unhide HP).1.drew, (unhide HP).2.drew⟩ | exact hPn | assumption) (first | (go_at_call 25; refine (of12_any _ _ _).mono ?_; rintro e u5 ⟨rfl, hb5⟩; have hSa := Sx.call (by first | exact hSa | exact (unhide HS3).drew) hb5; have hPn := And.intro (hSa.get 0 rfl) (hSa.get 1 rfl)) | (go_at_call 24; refine (lPut_b c (kd := 6) (i := (j : Int)) (y := 0) _ (isWords_e (Sx.getE (by first | exact hSa | exact (unhide HS3).drew) 0 rfl) hn0 hc1 hc2 (unhide HWD)) (unhide HJ6) Um.zero_word).mono ?_; rintro e u7 ⟨g8, cg8, rfl, hc3, hc4, hfr, hB, hwd, hb5⟩; have hSa := Sx.ref (by first | exact hSa | exact (unhide HS3).drew) hb5 0 rfl (Or.inr hfr) hB; have hPn := And.intro (hSa.get 0 rfl) (hSa.get 1 rfl)))
            all_goals
              have hS := hSa
              have HWD2 := hide hwd
              clear hSa hPn HS3 HP HWD hwd hB hfr hb5 hc1 hc2
              have HWD := HWD2
              have hc1 := hc3
              have hc2 := hc4
              clear HWD2 hc3 hc4
              dsimp only [List.set] at hS
              have HP6 := hide (show Um.PastI c (Um.svN x) m0n _ ((j + 1 : Nat) : Int) from Um.past_next (st := 5) (num := 0) (unhide HR) (unhide HSI).1 (unhide HSI).2 (show (0 : Int) ≤ (j : Int) by omega) (unhide HJ).1 (unhide HJ).2 (unhide HPI) (.inl ⟨rfl, rfl⟩))
              have HS6 := hide hS
              clear hS k0 k1 k2 k3 k4 k6
              go_wp2
              exact ⟨⟨j + 1, _, _, _, by omega, by go_num, rfl, hc1, hc2, HWD, HP6, HS6⟩, by simp [intOf]; omega⟩
    · have hge : ¬ (j : Int) < c.s := by omega
      have HP9 := hide (show Um.PastI c (Um.svN x) m0n W c.s by rw [show c.s = (j : Int) by omega]; exact unhide HPI)
      clear HPI hsn hcs
      obtain ⟨m0, hm0⟩ : ∃ m0 : Um.Mm, m0 = (⟨W, 0, Um.noT⟩ : Um.Mm) := ⟨_, rfl⟩
      have hws0 : m0.ws = W := by rw [hm0]
      obtain ⟨A, hA⟩ : ∃ A, A = Um.rdit c x inn12 ky (Um.svN x) (Um.rdbeg c x ky m0) 300 := ⟨_, rfl⟩
      obtain ⟨a1, a2⟩ := Um.rd_all (unhide HR) m0 (by decide) A hA
      rw [hws0] at a2
      obtain ⟨o1, o2⟩ := Um.past_all (unhide HR) (unhide HNO) (unhide HKN).1 (unhide HKN).2 (unhide HP9) a2
      have HO1 := hide o1
      have HO2 := hide o2
      have HAD := hide a1
      have HHA := hide hA
      clear o1 o2 a1 a2 hA HP9
      go_wp2_with (first | (refine ybox hS (h := ?_); clear hS; intro _ _ hS) | (refine yall hS (h := ?_); clear hS; intro _ _ hS) | refine yld hS (h := ?_) | (refine yst hS (h := ?_); clear hS; intro _ hS))
      refine (lOf_x hS c _ W (unhide HR) (isWords_e (hS.getE 0 rfl) hn0 hc1 hc2 (unhide HWD))).mono ?_
      rintro r u ⟨B, C, g2, cg2, rfl, hc5, hc6, hWn, hSn⟩
      clear hS
      have hS := hSn
      clear hSn
      dsimp only [putL, List.set, List.cons_append, List.nil_append] at hS
      have HW0 := hide hWn
      clear hWn
      have hC0 : (C, rowW W c.n) = (C, rowW m0.ws c.n) := by rw [hws0]
      rw [hC0, ← hm0] at hS
      have HW1 := hide (show WordsOk c m0 by rw [hm0]; exact unhide HW0)
      clear hC0 hm0 hws0 HW0
      go_wp2_with (first | (refine ybox hS (h := ?_); clear hS; intro _ _ hS) | (refine yall hS (h := ?_); clear hS; intro _ _ hS) | refine yld hS (h := ?_) | (refine yst hS (h := ?_); clear hS; intro _ hS))
      have hS2 := (hS.sublist (l' := [_, _, _, _]) (.cons_cons _ (.cons_cons _ (.cons_cons _ (.cons_cons _ (.cons _ .slnil))))))
      have hS3 := hS2.sub (e' := [(gw, rowW W c.n)]) (fun p hp => hp) hS2.nd (fun p hp => by
        obtain rfl : p = _ := by simpa using hp
        simp)
      clear hS hS2
      have hS := hS3
      clear hS3
      refine (rdNew_p hS c x ky (unhide HXX) m0).mono ?_
      rintro r u ⟨P, cs, hb, sb, rfl, hA0, hSn⟩
      clear hS
      have hS := hSn
      clear hSn
      dsimp only [putL, List.set, List.cons_append, List.nil_append] at hS
      have HA0 := hide (hA0.mono (e' := [(gw, rowW W c.n)] ++ sb) (fun p hp => List.mem_append_right _ hp))
      clear hA0
      go_wp2_with fail
      refine (rdEnds_x (c := c) (h := x) (sl := Um.svN x) (ky := ky) (l := [(CF, [.int .i64 c.t, .int .i64 c.s, .int .i64 c.k, .int .i64 c.g, .int .u64 c.q]), (PL, [.int .u64 (x : Nat), .int .i64 ky, .int .i64 st, .slice la nl cl]), (B, memL c C m0), (C, rowW m0.ws c.n), (P, cs)]) (hx := []) hS 2 3 4 (Um.rdbeg c x ky m0) (unhide HA0) (by rw [Um.rdbeg_m]; rfl) (by rw [Um.rdbeg_m]; rfl) rfl (by decide) (by decide) (by decide) (unhide HR) (unhide HXX) (Um.rok_beg (unhide HW1)) (rdbeg_ook (h := x) (ky := ky)) (unhide HSB) (unhide HKB) 300 (by decide) A (unhide HHA)).mono ?_
      rintro r u ⟨K1, rfl, _, _, _, hOn, cs1, hb1, sb1, hA1, hSn⟩
      clear hS
      have hS := hSn
      clear hSn
      dsimp only [putL, List.set, List.cons_append, List.nil_append] at hS
      have HOA := hide hOn
      clear hOn
      have hz1 := hA1.ended (unhide HAD)
      subst hz1
      have HCS := hide (hA1.done2 (unhide HAD))
      clear hA1 HA0
      have hS3 := hS.sub (e' := [(gw, rowW W c.n)]) (fun p hp => hp) hS.nd (fun p hp => by
        obtain rfl : p = _ := by simpa using hp
        simp)
      clear hS
      have hS := hS3
      clear hS3
      go_wp2_with (first | (refine ybox hS (h := ?_); clear hS; intro _ _ hS) | (refine yall hS (h := ?_); clear hS; intro _ _ hS) | refine yld hS (h := ?_) | (refine yst hS (h := ?_); clear hS; intro _ hS))
      refine (lBarred_any c x _ (unhide HR) (isWords_e (hS.getE 0 rfl) hn0 hc1 hc2 (unhide HWD)) (unhide HXX)).mono ?_
      rintro r u ⟨rfl, hb⟩
      replace hS := hS.call hb
      clear hb
      rw [unhide HNO, if_pos rfl]
      obtain ⟨ee, hee⟩ : ∃ ee, ee = Um.flN x inn12 (W (c.cl 4 (Um.svN x)).toNat) := ⟨_, rfl⟩
      rw [← hee] at HO1 ⊢
      clear hee
      go_wp2_with fail
      refine (cells_x hS 2 3 rfl rfl (by decide) (unhide HR) (unhide HOA).wd).mono ?_
      rintro r u ⟨X, rfl, hSn⟩
      clear hS
      have hS := hSn
      clear hSn
      dsimp only [putL, List.set, List.cons_append, List.nil_append] at hS
      go_wp2_with fail
      go_loopw [138] (fun iv wr => ∃ j : Nat, j ≤ c.n ∧ iv = .int .i64 j ∧ Hid (Sx [] w wr [(CF, [.int .i64 c.t, .int .i64 c.s, .int .i64 c.k, .int .i64 c.g, .int .u64 c.q]), (PL, [.int .u64 (x : Nat), .int .i64 ky, .int .i64 st, .slice la nl cl]), (B, memL c C A.m), (C, rowW A.m.ws c.n), (P, cs1), (X, rowW A.m.ws c.n)] [(gw, rowW W c.n)])) (fun iv _ => c.n - (intOf iv).toNat)
      case atStart => exact ⟨0, by omega, rfl, hide hS⟩
      case round =>
        clear hS
        rename_i wr
        obtain ⟨i, hi, rfl, HS⟩ := hrel
        have hS := unhide HS
        clear HS
        by_cases hlt2 : i < c.n
        · have hlt3 : (i : Int) < (c.n : Int) := by omega
          have HA5 := hide (show ∀ V, Calls Tryz.prog 36 #[(.agg #[.int .i64 (c.t), .int .i64 (c.s), .int .i64 (c.k), .int .i64 (c.g), .int .u64 (c.q : Int)]), .int .i64 (i : Int)] V fun e w' => e = .returned (.agg #[.int .i64 (Um.atK c.r c.t c.s c.k i), .int .i64 (Um.atO c.r c.t c.s c.k i)]) ∧ Below V.heap.size V w' from fun V => cAt_any c.t c.s c.k c.g c.q (i : Int) V (by omega))
          have HMA := hide ((unhide HO2) i hlt2)
          have HXC := hide (rowW_get A.m.ws c.n i hlt2)
          have HYC := hide (rowW_get W c.n i hlt2)
          generalize Um.atK c.r c.t c.s c.k (i : Int) = ak at HA5 HMA
          generalize Um.atO c.r c.t c.s c.k (i : Int) = ao at HA5 HMA
          generalize hxi : W i = xi at HMA HYC
          generalize hyi : A.m.ws i = yi at HMA HXC
          clear hxi hyi
          go_wp2_with (first | (refine ybox hS (h := ?_); clear hS; intro _ _ hS) | (refine yall hS (h := ?_); clear hS; intro _ _ hS) | refine yld hS (h := ?_) | (refine yst hS (h := ?_); clear hS; intro _ hS))
          refine ((unhide HA5) _).mono ?_
          rintro r u ⟨rfl, hb⟩
          replace hS := hS.call hb
          clear hb
          clear HA5
          go_wp2_with (first | (refine ybox hS (h := ?_); clear hS; intro _ _ hS) | (refine yall hS (h := ?_); clear hS; intro _ _ hS) | refine yld hS (h := ?_) | (refine yst hS (h := ?_); clear hS; intro _ hS))
          obtain ⟨S, rfl⟩ := nameB hS 6 rfl
          by_cases hv : yi = xi
          · have hvb : ((yi : Int) != (xi : Int)) = false := by rw [hv]; simp
            obtain ⟨u5, rfl⟩ := nameW hS
            have kx := cell_regrown ((hS.get 5 rfl).cell i _ (unhide HXC))
            have ky0 := cell_regrown ((hS.getE 0 rfl).cell i _ (unhide HYC))
            have HSQ := hide hS
            clear hS
            refine wp_region_quiet_below (by kernel_rfl) (by kernel_rfl) ?_
            repeat (go_big_quiet_step (first | (go_at_call 25; exact Calls.regrown_of (of12_any _ _ _))))
            refine wpQuiet_nil ?_
            intro _ hw'
            obtain ⟨⟨dq, osq⟩, hw''⟩ := hw'
            subst hw''
            have hS := (unhide HSQ).call (below_regrown u5 dq osq)
            clear HSQ kx ky0 hvb
            generalize grow (redrawn u5 dq) osq = u8 at *
            have HS6 := hide (hS.take 6)
            clear hS
            go_wp2
            exact ⟨⟨i + 1, by omega, by go_num, HS6⟩, by simp [intOf]; omega⟩
          · have hvi : ¬ (yi : Int) = (xi : Int) := by omega
            have hvb : ((yi : Int) != (xi : Int)) = true := by simpa using hvi
            have hM := (unhide HMA) hv
            have t1 : ∀ w, (binOp .neq 67 (.agg #[.int .i64 ak, .int .i64 ao]) (.agg #[.int .i64 8, .int .i64 ky])).run Tryz.prog w = .ok (.bool false) w := neqSpot _ (Or.inl rfl) (r := true) (decide_eq_true hM).symm
            clear hvi
            obtain ⟨u5, rfl⟩ := nameW hS
            have kx := cell_regrown ((hS.get 5 rfl).cell i _ (unhide HXC))
            have ky0 := cell_regrown ((hS.getE 0 rfl).cell i _ (unhide HYC))
            have ks0 := cell_regrown ((hS.get 6 rfl).cell 0 _ rfl)
            have ks1 := cell_regrown ((hS.get 6 rfl).cell 1 _ rfl)
            have kp1 := cell_regrown ((hS.get 1 rfl).cell 1 _ rfl)
            have HSQ := hide hS
            clear hS
            refine wp_region_quiet_below (by kernel_rfl) (by kernel_rfl) ?_
            repeat (go_big_quiet_step (first | (go_at_call 25; exact Calls.regrown_of (of12_any _ _ _))))
            refine wpQuiet_nil ?_
            intro _ hw'
            obtain ⟨⟨dq, osq⟩, hw''⟩ := hw'
            subst hw''
            have hS := (unhide HSQ).call (below_regrown u5 dq osq)
            clear HSQ kx ky0 ks0 ks1 kp1 hvb t1
            generalize grow (redrawn u5 dq) osq = u8 at *
            have HS6 := hide (hS.take 6)
            clear hS
            go_wp2
            exact ⟨⟨i + 1, by omega, by go_num, HS6⟩, by simp [intOf]; omega⟩
        · have hge2 : ¬ (i : Int) < (c.n : Int) := by omega
          go_wp2_with fail
          refine (rAlive_any _).mono ?_
          rintro r u ⟨rfl, hb⟩
          replace hS := hS.call hb
          clear hb
          go_wp2_with fail
          refine (rDone_n (hS.get 4 rfl) (unhide HCS).1).mono ?_
          rintro r u ⟨rfl, rfl⟩
          go_wp2_with fail
          refine (rError_n (hS.get 4 rfl) (unhide HCS).1 (unhide HCS).2).mono ?_
          rintro r u ⟨rfl, rfl⟩
          rw [unhide HO1]
          have hee : (ee == ee) = true := by simp
          have hB := hS.bel
          clear hS
          go_wp2
          go_ret
          exact ⟨rfl, hB⟩

theorem walk {H : Type} {enc : TypeId × Value → H} {base : Nat} {v0 v1 v2 : Value} {d0 d1 d2 : DataW H} {p0 p1 p2 : List MemPlace} (w : World)
    (hv0 : Value.okWide Tryz.prog w .any base 24 v0) (h0 : DataW.Trod enc Tryz.prog w 0 (fun _ => true) true 24 v0 d0 p0)
    (hv1 : Value.okWide Tryz.prog w .any base 25 v1) (h1 : DataW.Trod enc Tryz.prog w 0 (fun _ => true) true 25 v1 d1 p1)
    (hv2 : Value.okWide Tryz.prog w .any base 28 v2) (h2 : DataW.Trod enc Tryz.prog w 0 (fun _ => true) true 28 v2 d2 p2) :
    Calls Tryz.prog 9 #[v0, v1, v2] w fun e w' => e = .returned (.bool true) ∧ Below w.heap.size w w' := by
  obtain ⟨ct, s, k, g, q, rfl, hsb⟩ := open_cfg hv0 h0
  obtain ⟨n, ws, hI⟩ := open_words hv1 h1
  obtain ⟨x, ky, st, la, nl, cl, Z, rfl, hx, hkb, hnc, hZ⟩ := open_play12 hv2 h2
  cases hr : (⟨ct, s, k, g, q⟩ : Um.Cf).r with
  | false =>
    obtain ⟨sw, cap, rfl⟩ := words_len hI
    exact walk_wrong w ⟨ct, s, k, g, q⟩ sw n cap x ky st la nl cl hx hr
  | true =>
    by_cases hn : n = (⟨ct, s, k, g, q⟩ : Um.Cf).n
    · subst hn
      cases hno : Um.ook x s with
      | false =>
        obtain ⟨sw, cap, rfl⟩ := words_len hI
        exact walk_no w ⟨ct, s, k, g, q⟩ sw cap x ky st la nl cl hx hr hno
      | true =>
      by_cases hk : ky < 0
      · obtain ⟨sw, cap, rfl⟩ := words_len hI
        exact walk_k1 w ⟨ct, s, k, g, q⟩ sw cap x ky st la nl cl hx hr hno hk
      by_cases hk2 : k ≤ ky
      · obtain ⟨sw, cap, rfl⟩ := words_len hI
        exact walk_k2 w ⟨ct, s, k, g, q⟩ sw cap x ky st la nl cl hx hr hno hk hk2
      exact walk_right w ⟨ct, s, k, g, q⟩ v1 ws x ky st la nl cl hr hI hx hkb hk hk2 hno
    · obtain ⟨sw, cap, rfl⟩ := words_len hI
      exact walk_short w ⟨ct, s, k, g, q⟩ sw n cap x ky st la nl cl hx hr hn

set_option maxRecDepth 100000 in
theorem lifted (os : Os) (started : os.Started) (H : Type) (enc : TypeId × Value → H) :
    ReturnsInHanded {} Tryz.checked os 9 .any (Rows.readPastSpec.pre6 enc Tryz.prog Tryz.f9 Rows.readPastRow.domain false) (Rows.readPastSpec.post enc Tryz.prog Tryz.f9 false true false false) := by
  refine returnsInHanded_of_change (C := Tryz.checked) own started (by kernel_rfl) Tryz.func9
    (ChangeSpec.witness6 (enc := enc) (C := Tryz.checked) false ⟨#[], #[.agg #[.int .i64 0, .int .i64 0, .int .i64 0, .int .i64 0, .int .u64 0], .slice none 0 0, .agg #[.int .u64 0, .int .i64 0, .int .i64 0, .slice none 0 0]], []⟩ 8 (by kernel_rfl) (by kernel_rfl) (by kernel_rfl) (by kernel_rfl)) ?_
  intro W base args ds gs before hval0 hW hcnd _
  have hval : ∀ (j : Nat) t v, Tryz.f9.params[j]? = some t → args[j]? = some v → Value.okWide Tryz.prog W .any base t v := hval0
  have hW' := hW
  obtain ⟨p, q, hA0, hV, rfl, hfz, hnd⟩ := hW
  have hA : DataW.TrodAll enc Tryz.prog W 0 (fun _ => true) true Tryz.f9.params.toList args.toList ds p := hA0
  rw [Tryz.params9] at hA hval
  obtain ⟨v0, vs0, d0, ds0, p0, q0, hargs, rfl, rfl, h0, r0⟩ := trodAll_cons hA
  obtain ⟨v1, vs1, d1, ds1, p1, q1, rfl, rfl, rfl, h1, r1⟩ := trodAll_cons r0
  obtain ⟨v2, vs2, d2, ds2, p2, q2, rfl, rfl, rfl, h2, r2⟩ := trodAll_cons r1
  obtain ⟨rfl, rfl, rfl⟩ := trodAll_nil r2
  obtain rfl : args = #[v0, v1, v2] := by cases args; simp_all
  obtain ⟨rfl, rfl⟩ := trodVars_none hV
  have k0 := h0
  have lt0 : ∀ x ∈ p0, x.block < W.heap.size := by obtain ⟨m, hm⟩ := k0; exact DataW.trod_lt m _ _ _ hm
  have k1 := h1
  have lt1 : ∀ x ∈ p1, x.block < W.heap.size := by obtain ⟨m, hm⟩ := k1; exact DataW.trod_lt m _ _ _ hm
  have k2 := h2
  have lt2 : ∀ x ∈ p2, x.block < W.heap.size := by obtain ⟨m, hm⟩ := k2; exact DataW.trod_lt m _ _ _ hm
  refine (walk W (hval 0 24 v0 rfl rfl) h0 (hval 1 25 v1 rfl rfl) h1 (hval 2 28 v2 rfl rfl) h2).mono fun e W' ⟨he, bel⟩ => ?_
  subst he
  exact ⟨_, rfl, _, _, _, [], _, [], hW', trodAll_mk1 (shut_bool Tryz.underlying4 _), (trodAll_cons_mk (Below.trod laidOut (by kernel_rfl) (of_decide_eq_true (by kernel_rfl)) k0 bel lt0) (trodAll_cons_mk (Below.trod laidOut (by kernel_rfl) (of_decide_eq_true (by kernel_rfl)) k1 bel lt1) (trodAll_cons_mk (Below.trod laidOut (by kernel_rfl) (of_decide_eq_true (by kernel_rfl)) k2 bel lt2) trodAll_mk0))), rfl, bel.frame _, fun h => by cases h⟩

theorem ReadPast_proved : Rows.ReadPastSaid :=
  OpenClaim.holds_of_wide 9 Tryz.f9 rfl rfl rfl rfl rfl rfl rfl ⟨rfl, rfl, rfl, rfl, rfl⟩ rfl rfl rfl rfl rfl (by kernel_rfl) Tryz.func9 (by kernel_rfl)
    (of_decide_eq_true (by kernel_rfl)) (by unfold Func.isWrapper; first | (rw [if_pos (by decide +kernel)]; kernel_rfl) | (rw [if_neg (by decide +kernel)]; exact ⟨rfl, rfl⟩))
    (fun os started H enc _ => lifted os started H enc)

end Go.Proofs.YtapgghciieloaaaGreat.readPast
