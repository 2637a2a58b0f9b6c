/-
  For every world's size, slot and row of conflicts, the law GateSides answers true: conflicts that others lay while a call enters, and leaves, are there behind it. Conditions: none.
-/
import Derived.Test.YticaieghapjpkaaRows
import Derived.Test.YticaieghapjpkaaM17
import Derived.Test.YticaieghapjpkaaM13
import Derived.Test.YticaieghapjpkaaM5
import Derived.Test.YticaieghapjpkaaM4
import Derived.WalkKit
import Derived.ProofKit
import Derived.OpenShut
import Derived.ShutString
import Derived.LoopTactic
import Derived.Lib.QuietBelow
namespace Go.Proofs.Yticaieghapjpkaa.gateSides
set_option maxRecDepth 100000
open Go.ChangeShapes Go.WideShapes Go.ChangeAt Go.RowKit Go.Sort
set_option linter.unusedVariables false
set_option linter.unusedSimpArgs false

theorem own : ownKnob Try.prog.godebug = none := by kernel_rfl
theorem laidOut : laidOutB Try.prog = true := by kernel_rfl

theorem inn_a : (fun k => inZ (fun _ => 2) 1 ((k : Nat) : Int)) 2 = true := by decide +kernel

theorem with_ex2 (x : Nat) (a b : Int) (w : World) (hx : Um.Word x) :
    Calls Try.prog 38 #[.int .u64 x, .int .i64 a, .int .i64 b] w fun e w' => ∃ a' b', (a' = a ∧ b' = b) ∧ e = .returned (.int .u64 (Um.withN x a' b' : Nat)) ∧ w' = w :=
  (refWith_any x a b w hx).mono fun _ _ ⟨h1, h2⟩ => ⟨a, b, ⟨rfl, rfl⟩, h1, h2⟩

section
variable {c : Um.Cf} {slot : Int} {x : Nat} {V : Nat} {a : Um.Es} {l : Um.Ls}

theorem sid_step (hr : c.r = true) (hn : Um.ook x c.s = true) (hg : Um.tgN x = 0) (hsv : Um.svN x = slot) {m : Um.Mm} (hd : Um.Sid10 (m.ws (c.cl 4 slot).toNat) V a l) (O : Um.Es) (hO : O = Um.estep c x (fun k => inZ (fun _ => 2) 1 ((k : Nat) : Int)) (Um.setE m a)) :
    Um.Sid10 (O.m.ws (c.cl 4 slot).toNat) V O l := by
  subst hsv
  rw [hO]
  exact Um.sid10_enter hr hn hg inn_a (hd.at m l.m)

theorem sid_leave (hr : c.r = true) (h0 : 0 ≤ slot) (h1 : slot < c.s) (hen : a.en = true) {m : Um.Mm} (hd : Um.Sid10 (m.ws (c.cl 4 slot).toNat) V a l) (O : Um.Ls) (hO : O = Um.lstep c slot 5 (Um.setLs m l)) :
    Um.Sid10 (O.m.ws (c.cl 4 slot).toNat) V a O := by
  rw [hO]
  exact Um.sid10_leave hr h0 h1 hen (hd.at a.m m)

theorem sid_tail (hr : c.r = true) (hn : Um.ook x c.s = true) (hg : Um.tgN x = 0) (hsv : Um.svN x = slot) (h0 : 0 ≤ slot) (h1 : slot < c.s) {m : Um.Mm} (hd : Um.Sid10 (m.ws (c.cl 4 slot).toNat) V a l) (A : Um.Es) (hA : A = Um.eit c x (fun k => inZ (fun _ => 2) 1 ((k : Nat) : Int)) (Um.setE m a) 20) (L : Um.Ls) (hL : L = Um.lit10 c slot 5 (Um.setLs A.m l) 20) :
    Um.edn c x A = true ∧ L.dn = true ∧ L.m.ws (c.cl 4 slot).toNat = V := by
  have h2 : Um.Sid10 (A.m.ws (c.cl 4 slot).toNat) V A l ∧ A.en = true := by
    subst hsv
    exact Um.sid10_ends hr hn hg inn_a (hd.at m l.m) (k := 20) (by decide) A hA
  obtain ⟨h3, h4⟩ := h2
  obtain ⟨h5, h6⟩ := Um.sid10_left hr h0 h1 h4 (h3.at A.m A.m) (k := 20) (by decide) L hL
  exact ⟨by unfold Um.edn; rw [h4]; rfl, h5, h6⟩

theorem sid_lay (hr : c.r = true) (h0 : 0 ≤ slot) (h1 : slot < c.s) {m m5 m6 : Um.Mm} (hd : Um.Sid10 (m.ws (c.cl 4 slot).toNat) V a l) (h5 : m5 = Um.mtouch c m 1 4 slot 0 0) (y z : Int) (h6 : m6 = Um.mtouch c m5 2 4 slot 0 (Um.withN m5.l.old y z)) :
    Um.Sid10 (m6.ws (c.cl 4 slot).toNat) (Um.withN V y z) a l := by
  have hc := (Um.sl_cells hr h0 h1).1
  have ho : m5.l.old = m.ws (c.cl 4 slot).toNat := by rw [h5, Um.load_old, if_pos (by omega)]
  rw [h6, Um.put_ws, if_pos (by omega), ho]
  exact hd.lay y z

theorem old_at (hr : c.r = true) (h0 : 0 ≤ slot) (h1 : slot < c.s) {m m7 : Um.Mm} (hV : m.ws (c.cl 4 slot).toNat = V) (h7 : m7 = Um.mtouch c m 1 4 slot 0 0) : m7.l.old = V := by
  have hc := (Um.sl_cells hr h0 h1).1
  rw [h7, Um.load_old, if_pos (by omega), hV]

end

theorem act_at {c : Um.Cf} (hr : c.r = true) {slot : Int} (h0 : 0 ≤ slot) (h1 : slot < c.s) {m m1 : Um.Mm} (hm : m1 = Um.mtouch c m 2 4 slot 0 268435456) {x : Nat} (hx : Um.svN x = slot) : m1.ws (c.cl 4 (Um.svN x)).toNat = Um.actW := by
  have hc := (Um.sl_cells hr h0 h1).1
  rw [hx, hm, Um.put_ws, if_pos (by omega)]
  rfl

set_option maxHeartbeats 2000000 in
theorem walk_wrong (w : World) (c : Um.Cf) (slot : Int) (la : Option Addr) (nl cl : Nat) (h : c.r = false) :
    Calls Try.prog 7 #[(.agg #[.int .i64 (c.t), .int .i64 (c.s), .int .i64 (c.k), .int .i64 (c.g), .int .u64 (c.q : Int)]), .int .i64 slot, .slice la nl cl] w fun e w' => e = .returned (.bool true) ∧ Below w.heap.size w w' := by
  have HL := hide (fun w => sNew_wrong c w h)
  clear h
  have hS := Sx.new w
  go_enter Try.func7, Try.ntmps7
  go_wp2_with (first | (refine wpx_box hS rfl _ _ rfl _ rfl _ (by intro _; simp only [Act.put, List.setIfInBounds_toArray, List.set_cons_zero, List.set_cons_succ]; first | done | exact rfl) ?_; clear hS; intro _ _ hS; dsimp only [blit, List.set, List.cons_append, List.nil_append, Value.cells, List.toList_toArray] at hS) | (refine wpx_alloc hS rfl _ rfl _ (zer_any2 rfl) _ (by intro _; simp only [Act.put, List.setIfInBounds_toArray, List.set_cons_zero, List.set_cons_succ]; first | done | exact rfl) ?_; clear hS; intro _ _ hS; dsimp only [blit, List.set, List.cons_append, List.nil_append, Value.cells, List.toList_toArray] at hS) | (refine wpx_ld hS rfl _ _ rfl _ _ rfl ?_; (first | refine ⟨0, _, rfl, ?_⟩ | refine ⟨1, _, rfl, ?_⟩ | refine ⟨2, _, rfl, ?_⟩ | refine ⟨3, _, rfl, ?_⟩ | refine ⟨4, _, rfl, ?_⟩ | refine ⟨5, _, rfl, ?_⟩ | refine ⟨6, _, rfl, ?_⟩ | refine ⟨7, _, rfl, ?_⟩ | refine ⟨8, _, rfl, ?_⟩ | refine ⟨9, _, rfl, ?_⟩); first | refine .inl ⟨_, one_any2 rfl, rfl, _, (by simp only [Act.put, List.setIfInBounds_toArray, List.set_cons_zero, List.set_cons_succ]; first | done | exact rfl), ?_⟩ | refine .inr ⟨_, _, row_any2 rfl, rfl, (by dsimp only [cutL, List.drop, List.take]; first | done | exact rfl), _, (by simp only [Act.put, List.setIfInBounds_toArray, List.set_cons_zero, List.set_cons_succ]; first | done | exact rfl), ?_⟩) | (refine wpx_st hS rfl _ _ _ rfl rfl _ _ rfl ?_; (first | refine ⟨0, _, rfl, ?_⟩ | refine ⟨1, _, rfl, ?_⟩ | refine ⟨2, _, rfl, ?_⟩ | refine ⟨3, _, rfl, ?_⟩ | refine ⟨4, _, rfl, ?_⟩ | refine ⟨5, _, rfl, ?_⟩ | refine ⟨6, _, rfl, ?_⟩ | refine ⟨7, _, rfl, ?_⟩ | refine ⟨8, _, rfl, ?_⟩ | refine ⟨9, _, rfl, ?_⟩); refine ⟨_, (by first | exact shA rfl | exact shI rfl | exact shB rfl | exact shS rfl | exact shP rfl | exact shF rfl | exact shN rfl), _, siz_any2 rfl, (by exact rfl), (by exact rfl), (by exact rfl), ?_⟩; clear hS; intro _ hS; dsimp only [blit, List.set, List.cons_append, List.nil_append, Value.cells, List.toList_toArray] at hS))
  refine ((unhide HL) _).mono ?_
  rintro r u ⟨rfl, hb⟩
  replace hS := hS.call hb
  clear hb HL
  go_wp2_with fail
  refine (krMake_any slot 0 _).mono ?_
  rintro r u ⟨rfl, rfl⟩
  go_wp2_with fail
  refine (gAlive_any _).mono ?_
  rintro r u ⟨rfl, hb⟩
  replace hS := hS.call hb
  have hB := hS.bel
  clear hb hS
  go_wp2
  go_ret
  exact ⟨rfl, hB⟩

set_option maxHeartbeats 2000000 in
theorem walk_none (w : World) (c : Um.Cf) (slot : Int) (la : Option Addr) (nl cl : Nat) (h : c.r = true) (hm : Um.mok slot 0 = false) :
    Calls Try.prog 7 #[(.agg #[.int .i64 (c.t), .int .i64 (c.s), .int .i64 (c.k), .int .i64 (c.g), .int .u64 (c.q : Int)]), .int .i64 slot, .slice la nl cl] w fun e w' => e = .returned (.bool true) ∧ Below w.heap.size w w' := by
  have HM := hide hm
  clear hm
  have HR := hide h
  clear h
  have hS := Sx.new w
  go_enter Try.func7, Try.ntmps7
  go_wp2_with (first | (refine wpx_box hS rfl _ _ rfl _ rfl _ (by intro _; simp only [Act.put, List.setIfInBounds_toArray, List.set_cons_zero, List.set_cons_succ]; first | done | exact rfl) ?_; clear hS; intro _ _ hS; dsimp only [blit, List.set, List.cons_append, List.nil_append, Value.cells, List.toList_toArray] at hS) | (refine wpx_alloc hS rfl _ rfl _ (zer_any2 rfl) _ (by intro _; simp only [Act.put, List.setIfInBounds_toArray, List.set_cons_zero, List.set_cons_succ]; first | done | exact rfl) ?_; clear hS; intro _ _ hS; dsimp only [blit, List.set, List.cons_append, List.nil_append, Value.cells, List.toList_toArray] at hS) | (refine wpx_ld hS rfl _ _ rfl _ _ rfl ?_; (first | refine ⟨0, _, rfl, ?_⟩ | refine ⟨1, _, rfl, ?_⟩ | refine ⟨2, _, rfl, ?_⟩ | refine ⟨3, _, rfl, ?_⟩ | refine ⟨4, _, rfl, ?_⟩ | refine ⟨5, _, rfl, ?_⟩ | refine ⟨6, _, rfl, ?_⟩ | refine ⟨7, _, rfl, ?_⟩ | refine ⟨8, _, rfl, ?_⟩ | refine ⟨9, _, rfl, ?_⟩); first | refine .inl ⟨_, one_any2 rfl, rfl, _, (by simp only [Act.put, List.setIfInBounds_toArray, List.set_cons_zero, List.set_cons_succ]; first | done | exact rfl), ?_⟩ | refine .inr ⟨_, _, row_any2 rfl, rfl, (by dsimp only [cutL, List.drop, List.take]; first | done | exact rfl), _, (by simp only [Act.put, List.setIfInBounds_toArray, List.set_cons_zero, List.set_cons_succ]; first | done | exact rfl), ?_⟩) | (refine wpx_st hS rfl _ _ _ rfl rfl _ _ rfl ?_; (first | refine ⟨0, _, rfl, ?_⟩ | refine ⟨1, _, rfl, ?_⟩ | refine ⟨2, _, rfl, ?_⟩ | refine ⟨3, _, rfl, ?_⟩ | refine ⟨4, _, rfl, ?_⟩ | refine ⟨5, _, rfl, ?_⟩ | refine ⟨6, _, rfl, ?_⟩ | refine ⟨7, _, rfl, ?_⟩ | refine ⟨8, _, rfl, ?_⟩ | refine ⟨9, _, rfl, ?_⟩); refine ⟨_, (by first | exact shA rfl | exact shI rfl | exact shB rfl | exact shS rfl | exact shP rfl | exact shF rfl | exact shN rfl), _, siz_any2 rfl, (by exact rfl), (by exact rfl), (by exact rfl), ?_⟩; clear hS; intro _ hS; dsimp only [blit, List.set, List.cons_append, List.nil_append, Value.cells, List.toList_toArray] at hS))
  refine (new_x hS c (unhide HR)).mono ?_
  rintro r u ⟨B, C, rfl, hWn, hSn⟩
  clear hS
  have hS := hSn
  clear hSn
  dsimp only [putL, List.set, List.cons_append, List.nil_append] at hS
  have HW0 := hide hWn
  clear hWn
  go_wp2_with fail
  refine (krMake_any slot 0 _).mono ?_
  rintro r u ⟨rfl, rfl⟩
  rw [unhide HM]
  go_wp2_with (first | (refine wpx_box hS rfl _ _ rfl _ rfl _ (by intro _; simp only [Act.put, List.setIfInBounds_toArray, List.set_cons_zero, List.set_cons_succ]; first | done | exact rfl) ?_; clear hS; intro _ _ hS; dsimp only [blit, List.set, List.cons_append, List.nil_append, Value.cells, List.toList_toArray] at hS) | (refine wpx_alloc hS rfl _ rfl _ (zer_any2 rfl) _ (by intro _; simp only [Act.put, List.setIfInBounds_toArray, List.set_cons_zero, List.set_cons_succ]; first | done | exact rfl) ?_; clear hS; intro _ _ hS; dsimp only [blit, List.set, List.cons_append, List.nil_append, Value.cells, List.toList_toArray] at hS) | (refine wpx_ld hS rfl _ _ rfl _ _ rfl ?_; (first | refine ⟨0, _, rfl, ?_⟩ | refine ⟨1, _, rfl, ?_⟩ | refine ⟨2, _, rfl, ?_⟩ | refine ⟨3, _, rfl, ?_⟩ | refine ⟨4, _, rfl, ?_⟩ | refine ⟨5, _, rfl, ?_⟩ | refine ⟨6, _, rfl, ?_⟩ | refine ⟨7, _, rfl, ?_⟩ | refine ⟨8, _, rfl, ?_⟩ | refine ⟨9, _, rfl, ?_⟩); first | refine .inl ⟨_, one_any2 rfl, rfl, _, (by simp only [Act.put, List.setIfInBounds_toArray, List.set_cons_zero, List.set_cons_succ]; first | done | exact rfl), ?_⟩ | refine .inr ⟨_, _, row_any2 rfl, rfl, (by dsimp only [cutL, List.drop, List.take]; first | done | exact rfl), _, (by simp only [Act.put, List.setIfInBounds_toArray, List.set_cons_zero, List.set_cons_succ]; first | done | exact rfl), ?_⟩) | (refine wpx_st hS rfl _ _ _ rfl rfl _ _ rfl ?_; (first | refine ⟨0, _, rfl, ?_⟩ | refine ⟨1, _, rfl, ?_⟩ | refine ⟨2, _, rfl, ?_⟩ | refine ⟨3, _, rfl, ?_⟩ | refine ⟨4, _, rfl, ?_⟩ | refine ⟨5, _, rfl, ?_⟩ | refine ⟨6, _, rfl, ?_⟩ | refine ⟨7, _, rfl, ?_⟩ | refine ⟨8, _, rfl, ?_⟩ | refine ⟨9, _, rfl, ?_⟩); refine ⟨_, (by first | exact shA rfl | exact shI rfl | exact shB rfl | exact shS rfl | exact shP rfl | exact shF rfl | exact shN rfl), _, siz_any2 rfl, (by exact rfl), (by exact rfl), (by exact rfl), ?_⟩; clear hS; intro _ hS; dsimp only [blit, List.set, List.cons_append, List.nil_append, Value.cells, List.toList_toArray] at hS))
  refine (gAlive_any _).mono ?_
  rintro r u ⟨rfl, hb⟩
  replace hS := hS.call hb
  have hB := hS.bel
  clear hb hS
  go_wp2
  go_ret
  exact ⟨rfl, hB⟩

set_option maxHeartbeats 2000000 in
theorem walk_high (w : World) (c : Um.Cf) (slot : Int) (la : Option Addr) (nl cl : Nat) (h : c.r = true) (hm : Um.mok slot 0 = true) (hs : c.s ≤ slot) :
    Calls Try.prog 7 #[(.agg #[.int .i64 (c.t), .int .i64 (c.s), .int .i64 (c.k), .int .i64 (c.g), .int .u64 (c.q : Int)]), .int .i64 slot, .slice la nl cl] w fun e w' => e = .returned (.bool true) ∧ Below w.heap.size w w' := by
  have HM := hide hm
  have s1 : decide (c.s ≤ slot) = true := decide_eq_true hs
  clear hm
  have HR := hide h
  clear h
  have hS := Sx.new w
  go_enter Try.func7, Try.ntmps7
  go_wp2_with (first | (refine wpx_box hS rfl _ _ rfl _ rfl _ (by intro _; simp only [Act.put, List.setIfInBounds_toArray, List.set_cons_zero, List.set_cons_succ]; first | done | exact rfl) ?_; clear hS; intro _ _ hS; dsimp only [blit, List.set, List.cons_append, List.nil_append, Value.cells, List.toList_toArray] at hS) | (refine wpx_alloc hS rfl _ rfl _ (zer_any2 rfl) _ (by intro _; simp only [Act.put, List.setIfInBounds_toArray, List.set_cons_zero, List.set_cons_succ]; first | done | exact rfl) ?_; clear hS; intro _ _ hS; dsimp only [blit, List.set, List.cons_append, List.nil_append, Value.cells, List.toList_toArray] at hS) | (refine wpx_ld hS rfl _ _ rfl _ _ rfl ?_; (first | refine ⟨0, _, rfl, ?_⟩ | refine ⟨1, _, rfl, ?_⟩ | refine ⟨2, _, rfl, ?_⟩ | refine ⟨3, _, rfl, ?_⟩ | refine ⟨4, _, rfl, ?_⟩ | refine ⟨5, _, rfl, ?_⟩ | refine ⟨6, _, rfl, ?_⟩ | refine ⟨7, _, rfl, ?_⟩ | refine ⟨8, _, rfl, ?_⟩ | refine ⟨9, _, rfl, ?_⟩); first | refine .inl ⟨_, one_any2 rfl, rfl, _, (by simp only [Act.put, List.setIfInBounds_toArray, List.set_cons_zero, List.set_cons_succ]; first | done | exact rfl), ?_⟩ | refine .inr ⟨_, _, row_any2 rfl, rfl, (by dsimp only [cutL, List.drop, List.take]; first | done | exact rfl), _, (by simp only [Act.put, List.setIfInBounds_toArray, List.set_cons_zero, List.set_cons_succ]; first | done | exact rfl), ?_⟩) | (refine wpx_st hS rfl _ _ _ rfl rfl _ _ rfl ?_; (first | refine ⟨0, _, rfl, ?_⟩ | refine ⟨1, _, rfl, ?_⟩ | refine ⟨2, _, rfl, ?_⟩ | refine ⟨3, _, rfl, ?_⟩ | refine ⟨4, _, rfl, ?_⟩ | refine ⟨5, _, rfl, ?_⟩ | refine ⟨6, _, rfl, ?_⟩ | refine ⟨7, _, rfl, ?_⟩ | refine ⟨8, _, rfl, ?_⟩ | refine ⟨9, _, rfl, ?_⟩); refine ⟨_, (by first | exact shA rfl | exact shI rfl | exact shB rfl | exact shS rfl | exact shP rfl | exact shF rfl | exact shN rfl), _, siz_any2 rfl, (by exact rfl), (by exact rfl), (by exact rfl), ?_⟩; clear hS; intro _ hS; dsimp only [blit, List.set, List.cons_append, List.nil_append, Value.cells, List.toList_toArray] at hS))
  refine (new_x hS c (unhide HR)).mono ?_
  rintro r u ⟨B, C, rfl, hWn, hSn⟩
  clear hS
  have hS := hSn
  clear hSn
  dsimp only [putL, List.set, List.cons_append, List.nil_append] at hS
  have HW0 := hide hWn
  clear hWn
  go_wp2_with fail
  refine (krMake_any slot 0 _).mono ?_
  rintro r u ⟨rfl, rfl⟩
  rw [unhide HM]
  go_wp2_with (first | (refine wpx_box hS rfl _ _ rfl _ rfl _ (by intro _; simp only [Act.put, List.setIfInBounds_toArray, List.set_cons_zero, List.set_cons_succ]; first | done | exact rfl) ?_; clear hS; intro _ _ hS; dsimp only [blit, List.set, List.cons_append, List.nil_append, Value.cells, List.toList_toArray] at hS) | (refine wpx_alloc hS rfl _ rfl _ (zer_any2 rfl) _ (by intro _; simp only [Act.put, List.setIfInBounds_toArray, List.set_cons_zero, List.set_cons_succ]; first | done | exact rfl) ?_; clear hS; intro _ _ hS; dsimp only [blit, List.set, List.cons_append, List.nil_append, Value.cells, List.toList_toArray] at hS) | (refine wpx_ld hS rfl _ _ rfl _ _ rfl ?_; (first | refine ⟨0, _, rfl, ?_⟩ | refine ⟨1, _, rfl, ?_⟩ | refine ⟨2, _, rfl, ?_⟩ | refine ⟨3, _, rfl, ?_⟩ | refine ⟨4, _, rfl, ?_⟩ | refine ⟨5, _, rfl, ?_⟩ | refine ⟨6, _, rfl, ?_⟩ | refine ⟨7, _, rfl, ?_⟩ | refine ⟨8, _, rfl, ?_⟩ | refine ⟨9, _, rfl, ?_⟩); first | refine .inl ⟨_, one_any2 rfl, rfl, _, (by simp only [Act.put, List.setIfInBounds_toArray, List.set_cons_zero, List.set_cons_succ]; first | done | exact rfl), ?_⟩ | refine .inr ⟨_, _, row_any2 rfl, rfl, (by dsimp only [cutL, List.drop, List.take]; first | done | exact rfl), _, (by simp only [Act.put, List.setIfInBounds_toArray, List.set_cons_zero, List.set_cons_succ]; first | done | exact rfl), ?_⟩) | (refine wpx_st hS rfl _ _ _ rfl rfl _ _ rfl ?_; (first | refine ⟨0, _, rfl, ?_⟩ | refine ⟨1, _, rfl, ?_⟩ | refine ⟨2, _, rfl, ?_⟩ | refine ⟨3, _, rfl, ?_⟩ | refine ⟨4, _, rfl, ?_⟩ | refine ⟨5, _, rfl, ?_⟩ | refine ⟨6, _, rfl, ?_⟩ | refine ⟨7, _, rfl, ?_⟩ | refine ⟨8, _, rfl, ?_⟩ | refine ⟨9, _, rfl, ?_⟩); refine ⟨_, (by first | exact shA rfl | exact shI rfl | exact shB rfl | exact shS rfl | exact shP rfl | exact shF rfl | exact shN rfl), _, siz_any2 rfl, (by exact rfl), (by exact rfl), (by exact rfl), ?_⟩; clear hS; intro _ hS; dsimp only [blit, List.set, List.cons_append, List.nil_append, Value.cells, List.toList_toArray] at hS))
  refine (gAlive_any _).mono ?_
  rintro r u ⟨rfl, hb⟩
  replace hS := hS.call hb
  have hB := hS.bel
  clear hb hS
  go_wp2
  go_ret
  exact ⟨rfl, hB⟩

set_option maxHeartbeats 2000000 in
theorem walk_long (w : World) (c : Um.Cf) (slot : Int) (la : Option Addr) (nl cl : Nat) (h : c.r = true) (hm : Um.mok slot 0 = true) (hs : ¬ c.s ≤ slot) (hb : 30 < nl) :
    Calls Try.prog 7 #[(.agg #[.int .i64 (c.t), .int .i64 (c.s), .int .i64 (c.k), .int .i64 (c.g), .int .u64 (c.q : Int)]), .int .i64 slot, .slice la nl cl] w fun e w' => e = .returned (.bool true) ∧ Below w.heap.size w w' := by
  have HM := hide hm
  have s1 : decide (c.s ≤ slot) = false := decide_eq_false hs
  clear hm
  have b1 : (30 : Int) < (nl : Int) := by omega
  have b2 : decide ((30 : Int) < (nl : Int)) = true := decide_eq_true b1
  have HR := hide h
  clear h
  have hS := Sx.new w
  go_enter Try.func7, Try.ntmps7
  go_wp2_with (first | (refine wpx_box hS rfl _ _ rfl _ rfl _ (by intro _; simp only [Act.put, List.setIfInBounds_toArray, List.set_cons_zero, List.set_cons_succ]; first | done | exact rfl) ?_; clear hS; intro _ _ hS; dsimp only [blit, List.set, List.cons_append, List.nil_append, Value.cells, List.toList_toArray] at hS) | (refine wpx_alloc hS rfl _ rfl _ (zer_any2 rfl) _ (by intro _; simp only [Act.put, List.setIfInBounds_toArray, List.set_cons_zero, List.set_cons_succ]; first | done | exact rfl) ?_; clear hS; intro _ _ hS; dsimp only [blit, List.set, List.cons_append, List.nil_append, Value.cells, List.toList_toArray] at hS) | (refine wpx_ld hS rfl _ _ rfl _ _ rfl ?_; (first | refine ⟨0, _, rfl, ?_⟩ | refine ⟨1, _, rfl, ?_⟩ | refine ⟨2, _, rfl, ?_⟩ | refine ⟨3, _, rfl, ?_⟩ | refine ⟨4, _, rfl, ?_⟩ | refine ⟨5, _, rfl, ?_⟩ | refine ⟨6, _, rfl, ?_⟩ | refine ⟨7, _, rfl, ?_⟩ | refine ⟨8, _, rfl, ?_⟩ | refine ⟨9, _, rfl, ?_⟩); first | refine .inl ⟨_, one_any2 rfl, rfl, _, (by simp only [Act.put, List.setIfInBounds_toArray, List.set_cons_zero, List.set_cons_succ]; first | done | exact rfl), ?_⟩ | refine .inr ⟨_, _, row_any2 rfl, rfl, (by dsimp only [cutL, List.drop, List.take]; first | done | exact rfl), _, (by simp only [Act.put, List.setIfInBounds_toArray, List.set_cons_zero, List.set_cons_succ]; first | done | exact rfl), ?_⟩) | (refine wpx_st hS rfl _ _ _ rfl rfl _ _ rfl ?_; (first | refine ⟨0, _, rfl, ?_⟩ | refine ⟨1, _, rfl, ?_⟩ | refine ⟨2, _, rfl, ?_⟩ | refine ⟨3, _, rfl, ?_⟩ | refine ⟨4, _, rfl, ?_⟩ | refine ⟨5, _, rfl, ?_⟩ | refine ⟨6, _, rfl, ?_⟩ | refine ⟨7, _, rfl, ?_⟩ | refine ⟨8, _, rfl, ?_⟩ | refine ⟨9, _, rfl, ?_⟩); refine ⟨_, (by first | exact shA rfl | exact shI rfl | exact shB rfl | exact shS rfl | exact shP rfl | exact shF rfl | exact shN rfl), _, siz_any2 rfl, (by exact rfl), (by exact rfl), (by exact rfl), ?_⟩; clear hS; intro _ hS; dsimp only [blit, List.set, List.cons_append, List.nil_append, Value.cells, List.toList_toArray] at hS))
  refine (new_x hS c (unhide HR)).mono ?_
  rintro r u ⟨B, C, rfl, hWn, hSn⟩
  clear hS
  have hS := hSn
  clear hSn
  dsimp only [putL, List.set, List.cons_append, List.nil_append] at hS
  have HW0 := hide hWn
  clear hWn
  go_wp2_with fail
  refine (krMake_any slot 0 _).mono ?_
  rintro r u ⟨rfl, rfl⟩
  rw [unhide HM]
  go_wp2_with (first | (refine wpx_box hS rfl _ _ rfl _ rfl _ (by intro _; simp only [Act.put, List.setIfInBounds_toArray, List.set_cons_zero, List.set_cons_succ]; first | done | exact rfl) ?_; clear hS; intro _ _ hS; dsimp only [blit, List.set, List.cons_append, List.nil_append, Value.cells, List.toList_toArray] at hS) | (refine wpx_alloc hS rfl _ rfl _ (zer_any2 rfl) _ (by intro _; simp only [Act.put, List.setIfInBounds_toArray, List.set_cons_zero, List.set_cons_succ]; first | done | exact rfl) ?_; clear hS; intro _ _ hS; dsimp only [blit, List.set, List.cons_append, List.nil_append, Value.cells, List.toList_toArray] at hS) | (refine wpx_ld hS rfl _ _ rfl _ _ rfl ?_; (first | refine ⟨0, _, rfl, ?_⟩ | refine ⟨1, _, rfl, ?_⟩ | refine ⟨2, _, rfl, ?_⟩ | refine ⟨3, _, rfl, ?_⟩ | refine ⟨4, _, rfl, ?_⟩ | refine ⟨5, _, rfl, ?_⟩ | refine ⟨6, _, rfl, ?_⟩ | refine ⟨7, _, rfl, ?_⟩ | refine ⟨8, _, rfl, ?_⟩ | refine ⟨9, _, rfl, ?_⟩); first | refine .inl ⟨_, one_any2 rfl, rfl, _, (by simp only [Act.put, List.setIfInBounds_toArray, List.set_cons_zero, List.set_cons_succ]; first | done | exact rfl), ?_⟩ | refine .inr ⟨_, _, row_any2 rfl, rfl, (by dsimp only [cutL, List.drop, List.take]; first | done | exact rfl), _, (by simp only [Act.put, List.setIfInBounds_toArray, List.set_cons_zero, List.set_cons_succ]; first | done | exact rfl), ?_⟩) | (refine wpx_st hS rfl _ _ _ rfl rfl _ _ rfl ?_; (first | refine ⟨0, _, rfl, ?_⟩ | refine ⟨1, _, rfl, ?_⟩ | refine ⟨2, _, rfl, ?_⟩ | refine ⟨3, _, rfl, ?_⟩ | refine ⟨4, _, rfl, ?_⟩ | refine ⟨5, _, rfl, ?_⟩ | refine ⟨6, _, rfl, ?_⟩ | refine ⟨7, _, rfl, ?_⟩ | refine ⟨8, _, rfl, ?_⟩ | refine ⟨9, _, rfl, ?_⟩); refine ⟨_, (by first | exact shA rfl | exact shI rfl | exact shB rfl | exact shS rfl | exact shP rfl | exact shF rfl | exact shN rfl), _, siz_any2 rfl, (by exact rfl), (by exact rfl), (by exact rfl), ?_⟩; clear hS; intro _ hS; dsimp only [blit, List.set, List.cons_append, List.nil_append, Value.cells, List.toList_toArray] at hS))
  refine (gAlive_any _).mono ?_
  rintro r u ⟨rfl, hb⟩
  replace hS := hS.call hb
  have hB := hS.bel
  clear hb hS
  go_wp2
  go_ret
  exact ⟨rfl, hB⟩

set_option maxHeartbeats 8000000 in
theorem walk_right (w : World) (c : Um.Cf) (slot : Int) (la : Option Addr) (nl cl : Nat) (Z : Nat → Int) (h : c.r = true) (hm : Um.mok slot 0 = true) (hs : ¬ c.s ≤ slot) (hb : ¬ 30 < nl) (hcl : nl ≤ cl) (hZ : RowOf w la nl (fun i => .int .i64 (Z i))) :
    Calls Try.prog 7 #[(.agg #[.int .i64 (c.t), .int .i64 (c.s), .int .i64 (c.k), .int .i64 (c.g), .int .u64 (c.q : Int)]), .int .i64 slot, .slice la nl cl] w fun e w' => e = .returned (.bool true) ∧ Below w.heap.size w w' := by
  have b1 : ¬ (30 : Int) < (nl : Int) := by omega
  have b2 : decide ((30 : Int) < (nl : Int)) = false := decide_eq_false b1
  have HZ := hide hZ
  have hnb : nl ≤ 30 := by omega
  clear hZ hb
  have hb := c.rb h
  obtain ⟨hm0, hm1, _⟩ := of_decide_eq_true hm
  obtain ⟨x, hx⟩ : ∃ x, x = Um.mkN slot 0 := ⟨_, rfl⟩
  have hts : Um.tsN x = slot := by rw [hx]; exact Um.mk_ts hm
  have htg : Um.tgN x = 0 := by rw [hx]; exact Um.mk_tg hm
  have hsv : Um.svN x = slot := by rw [hx, Um.sv_yes (Um.mk_sok hm)]; exact Um.mk_ts hm
  have HX := hide (show Um.Word x by rw [hx]; exact Um.mk_word _ _)
  have HN := hide (show Um.ook x c.s = true from decide_eq_true ⟨by omega, by omega, by omega, by omega⟩)
  have HG := hide htg
  have HSV := hide hsv
  have HMK := hide hx
  have HM := hide hm
  have HBD := hide (show -9223372036854775808 ≤ slot ∧ slot ≤ 9223372036854775807 by omega)
  have H0S := hide (show 0 ≤ slot ∧ slot < c.s by omega)
  have s1 : decide (c.s ≤ slot) = false := decide_eq_false hs
  obtain ⟨m1, hm1⟩ : ∃ m1, m1 = Um.mtouch c (⟨fun _ => 0, 0, Um.noT⟩ : Um.Mm) 2 4 slot 0 268435456 := ⟨_, rfl⟩
  have HM1 := hide hm1
  have HR := hide h
  clear h hb hm hts htg hsv hx hm1
  have hS := Sx.new w
  go_enter Try.func7, Try.ntmps7
  go_wp2_with (first | (refine wpx_box hS rfl _ _ rfl _ rfl _ (by intro _; simp only [Act.put, List.setIfInBounds_toArray, List.set_cons_zero, List.set_cons_succ]; first | done | exact rfl) ?_; clear hS; intro _ _ hS; dsimp only [blit, List.set, List.cons_append, List.nil_append, Value.cells, List.toList_toArray] at hS) | (refine wpx_alloc hS rfl _ rfl _ (zer_any2 rfl) _ (by intro _; simp only [Act.put, List.setIfInBounds_toArray, List.set_cons_zero, List.set_cons_succ]; first | done | exact rfl) ?_; clear hS; intro _ _ hS; dsimp only [blit, List.set, List.cons_append, List.nil_append, Value.cells, List.toList_toArray] at hS) | (refine wpx_ld hS rfl _ _ rfl _ _ rfl ?_; (first | refine ⟨0, _, rfl, ?_⟩ | refine ⟨1, _, rfl, ?_⟩ | refine ⟨2, _, rfl, ?_⟩ | refine ⟨3, _, rfl, ?_⟩ | refine ⟨4, _, rfl, ?_⟩ | refine ⟨5, _, rfl, ?_⟩ | refine ⟨6, _, rfl, ?_⟩ | refine ⟨7, _, rfl, ?_⟩ | refine ⟨8, _, rfl, ?_⟩ | refine ⟨9, _, rfl, ?_⟩); first | refine .inl ⟨_, one_any2 rfl, rfl, _, (by simp only [Act.put, List.setIfInBounds_toArray, List.set_cons_zero, List.set_cons_succ]; first | done | exact rfl), ?_⟩ | refine .inr ⟨_, _, row_any2 rfl, rfl, (by dsimp only [cutL, List.drop, List.take]; first | done | exact rfl), _, (by simp only [Act.put, List.setIfInBounds_toArray, List.set_cons_zero, List.set_cons_succ]; first | done | exact rfl), ?_⟩) | (refine wpx_st hS rfl _ _ _ rfl rfl _ _ rfl ?_; (first | refine ⟨0, _, rfl, ?_⟩ | refine ⟨1, _, rfl, ?_⟩ | refine ⟨2, _, rfl, ?_⟩ | refine ⟨3, _, rfl, ?_⟩ | refine ⟨4, _, rfl, ?_⟩ | refine ⟨5, _, rfl, ?_⟩ | refine ⟨6, _, rfl, ?_⟩ | refine ⟨7, _, rfl, ?_⟩ | refine ⟨8, _, rfl, ?_⟩ | refine ⟨9, _, rfl, ?_⟩); refine ⟨_, (by first | exact shA rfl | exact shI rfl | exact shB rfl | exact shS rfl | exact shP rfl | exact shF rfl | exact shN rfl), _, siz_any2 rfl, (by exact rfl), (by exact rfl), (by exact rfl), ?_⟩; clear hS; intro _ hS; dsimp only [blit, List.set, List.cons_append, List.nil_append, Value.cells, List.toList_toArray] at hS))
  refine (new_x hS c (unhide HR)).mono ?_
  rintro r u ⟨B, C, rfl, hWn, hSn⟩
  clear hS
  have hS := hSn
  clear hSn
  dsimp only [putL, List.set, List.cons_append, List.nil_append] at hS
  have HW0 := hide hWn
  clear hWn
  go_wp2_with fail
  refine (krMake_any slot 0 _).mono ?_
  rintro r u ⟨rfl, rfl⟩
  rw [unhide HM, ← unhide HMK]
  go_wp2_with (first | (refine wpx_box hS rfl _ _ rfl _ rfl _ (by intro _; simp only [Act.put, List.setIfInBounds_toArray, List.set_cons_zero, List.set_cons_succ]; first | done | exact rfl) ?_; clear hS; intro _ _ hS; dsimp only [blit, List.set, List.cons_append, List.nil_append, Value.cells, List.toList_toArray] at hS) | (refine wpx_alloc hS rfl _ rfl _ (zer_any2 rfl) _ (by intro _; simp only [Act.put, List.setIfInBounds_toArray, List.set_cons_zero, List.set_cons_succ]; first | done | exact rfl) ?_; clear hS; intro _ _ hS; dsimp only [blit, List.set, List.cons_append, List.nil_append, Value.cells, List.toList_toArray] at hS) | (refine wpx_ld hS rfl _ _ rfl _ _ rfl ?_; (first | refine ⟨0, _, rfl, ?_⟩ | refine ⟨1, _, rfl, ?_⟩ | refine ⟨2, _, rfl, ?_⟩ | refine ⟨3, _, rfl, ?_⟩ | refine ⟨4, _, rfl, ?_⟩ | refine ⟨5, _, rfl, ?_⟩ | refine ⟨6, _, rfl, ?_⟩ | refine ⟨7, _, rfl, ?_⟩ | refine ⟨8, _, rfl, ?_⟩ | refine ⟨9, _, rfl, ?_⟩); first | refine .inl ⟨_, one_any2 rfl, rfl, _, (by simp only [Act.put, List.setIfInBounds_toArray, List.set_cons_zero, List.set_cons_succ]; first | done | exact rfl), ?_⟩ | refine .inr ⟨_, _, row_any2 rfl, rfl, (by dsimp only [cutL, List.drop, List.take]; first | done | exact rfl), _, (by simp only [Act.put, List.setIfInBounds_toArray, List.set_cons_zero, List.set_cons_succ]; first | done | exact rfl), ?_⟩) | (refine wpx_st hS rfl _ _ _ rfl rfl _ _ rfl ?_; (first | refine ⟨0, _, rfl, ?_⟩ | refine ⟨1, _, rfl, ?_⟩ | refine ⟨2, _, rfl, ?_⟩ | refine ⟨3, _, rfl, ?_⟩ | refine ⟨4, _, rfl, ?_⟩ | refine ⟨5, _, rfl, ?_⟩ | refine ⟨6, _, rfl, ?_⟩ | refine ⟨7, _, rfl, ?_⟩ | refine ⟨8, _, rfl, ?_⟩ | refine ⟨9, _, rfl, ?_⟩); refine ⟨_, (by first | exact shA rfl | exact shI rfl | exact shB rfl | exact shS rfl | exact shP rfl | exact shF rfl | exact shN rfl), _, siz_any2 rfl, (by exact rfl), (by exact rfl), (by exact rfl), ?_⟩; clear hS; intro _ hS; dsimp only [blit, List.set, List.cons_append, List.nil_append, Value.cells, List.toList_toArray] at hS))
  refine (of10_any slot _).mono ?_
  rintro r u ⟨rfl, hb⟩
  replace hS := hS.call hb
  clear hb
  go_wp2_with fail
  refine (rNew01_any 2 _).mono ?_
  rintro r u ⟨rfl, hb⟩
  replace hS := hS.call hb
  clear hb
  rw [show Um.packV 0 2 false false false 0 0 = 268435456 by decide +kernel]
  go_wp2_with fail
  refine (mStore_x hS 1 2 rfl rfl (by decide) (unhide HR) (unhide HW0) 4 slot 268435456 (by unfold Um.Word; omega) (unhide HBD).1 (unhide HBD).2 m1 (unhide HM1)).mono ?_
  rintro r u ⟨rfl, hWn, hSn⟩
  clear hS
  have hS := hSn
  clear hSn
  dsimp only [putL, List.set, List.cons_append, List.nil_append] at hS
  have HW1 := hide hWn
  clear hWn
  go_wp2_with (first | (refine wpx_build1 hS rfl _ rfl _ rfl _ (by intro _; simp only [Act.put, List.setIfInBounds_toArray, List.set_cons_zero, List.set_cons_succ]; first | done | exact rfl) ?_; clear hS; intro _ _ hS; dsimp only [List.cons_append, List.nil_append] at hS) | (first | (refine wpx_box hS rfl _ _ rfl _ rfl _ (by intro _; simp only [Act.put, List.setIfInBounds_toArray, List.set_cons_zero, List.set_cons_succ]; first | done | exact rfl) ?_; clear hS; intro _ _ hS; dsimp only [blit, List.set, List.cons_append, List.nil_append, Value.cells, List.toList_toArray] at hS) | (refine wpx_alloc hS rfl _ rfl _ (zer_any2 rfl) _ (by intro _; simp only [Act.put, List.setIfInBounds_toArray, List.set_cons_zero, List.set_cons_succ]; first | done | exact rfl) ?_; clear hS; intro _ _ hS; dsimp only [blit, List.set, List.cons_append, List.nil_append, Value.cells, List.toList_toArray] at hS) | (refine wpx_ld hS rfl _ _ rfl _ _ rfl ?_; (first | refine ⟨0, _, rfl, ?_⟩ | refine ⟨1, _, rfl, ?_⟩ | refine ⟨2, _, rfl, ?_⟩ | refine ⟨3, _, rfl, ?_⟩ | refine ⟨4, _, rfl, ?_⟩ | refine ⟨5, _, rfl, ?_⟩ | refine ⟨6, _, rfl, ?_⟩ | refine ⟨7, _, rfl, ?_⟩ | refine ⟨8, _, rfl, ?_⟩ | refine ⟨9, _, rfl, ?_⟩); first | refine .inl ⟨_, one_any2 rfl, rfl, _, (by simp only [Act.put, List.setIfInBounds_toArray, List.set_cons_zero, List.set_cons_succ]; first | done | exact rfl), ?_⟩ | refine .inr ⟨_, _, row_any2 rfl, rfl, (by dsimp only [cutL, List.drop, List.take]; first | done | exact rfl), _, (by simp only [Act.put, List.setIfInBounds_toArray, List.set_cons_zero, List.set_cons_succ]; first | done | exact rfl), ?_⟩) | (refine wpx_st hS rfl _ _ _ rfl rfl _ _ rfl ?_; (first | refine ⟨0, _, rfl, ?_⟩ | refine ⟨1, _, rfl, ?_⟩ | refine ⟨2, _, rfl, ?_⟩ | refine ⟨3, _, rfl, ?_⟩ | refine ⟨4, _, rfl, ?_⟩ | refine ⟨5, _, rfl, ?_⟩ | refine ⟨6, _, rfl, ?_⟩ | refine ⟨7, _, rfl, ?_⟩ | refine ⟨8, _, rfl, ?_⟩ | refine ⟨9, _, rfl, ?_⟩); refine ⟨_, (by first | exact shA rfl | exact shI rfl | exact shB rfl | exact shS rfl | exact shP rfl | exact shF rfl | exact shN rfl), _, siz_any2 rfl, (by exact rfl), (by exact rfl), (by exact rfl), ?_⟩; clear hS; intro _ hS; dsimp only [blit, List.set, List.cons_append, List.nil_append, Value.cells, List.toList_toArray] at hS)))
  refine (gnew_any hS m1 (unhide HX) (told1 (hS.get 3 rfl))).mono ?_
  rintro r u ⟨P, la2, cl2, sb2, rfl, hT2, hSn⟩
  clear hS
  have hS := hSn
  clear hSn
  dsimp only [putL, List.set, List.cons_append, List.nil_append] at hS
  have HTA := hide hT2
  clear hT2
  go_wp2_with fail
  refine (lnew_any hS slot 5 m1).mono ?_
  rintro r u ⟨L, rfl, hSn⟩
  clear hS
  have hS := hSn
  clear hSn
  dsimp only [putL, List.set, List.cons_append, List.nil_append] at hS
  go_wp2_with fail
  refine (rNew01_any 5 _).mono ?_
  rintro r u ⟨rfl, hb⟩
  replace hS := hS.call hb
  clear hb
  have hwV : Um.Word (Um.packV 0 5 false false false 0 0) := by unfold Um.Word; decide +kernel
  have hV0 := Um.sid10_new m1 m1
  generalize Um.packV 0 5 false false false 0 0 = V0 at *
  go_wp2_with fail
  obtain ⟨CF, rfl⟩ := nameB hS 0 rfl
  obtain ⟨X1, rfl⟩ := nameB hS 3 rfl
  clear b1 b2 s1
  have HD0 := hide (show Um.Sid10 (m1.ws (c.cl 4 slot).toNat) V0 (Um.enew m1) (Um.lnew m1) by
    rw [← unhide HSV, act_at (unhide HR) (unhide H0S).1 (unhide H0S).2 (unhide HM1) (unhide HSV)]
    exact hV0)
  have HV0 := hide hwV
  clear hV0 hwV
  go_loopw [13, 70] (fun wn i wr => ∃ (j V : Nat) (m : Um.Mm) (a : Um.Es) (l : Um.Ls), j ≤ nl ∧ wn = .int .u64 (V : Nat) ∧ i = .int .i64 j ∧ Hid (Um.Word V) ∧ Hid (Um.Sid10 (m.ws (c.cl 4 slot).toNat) V a l) ∧ Hid (WordsOk c m) ∧ Hid (Um.EokW c a) ∧ Hid (Um.LokW c l) ∧ Hid (Sx [] w wr [(CF, [.int .i64 c.t, .int .i64 c.s, .int .i64 c.k, .int .i64 c.g, .int .u64 c.q]), (B, memL c C m), (C, rowW m.ws c.n), (X1, [.int .i64 2]), (P, entL P x la2 1 cl2 a), (L, leaL L slot 5 l)] sb2)) (fun _ i _ => nl - (intOf i).toNat)
  case atStart => exact ⟨0, V0, m1, Um.enew m1, Um.lnew m1, Nat.zero_le _, rfl, rfl, HV0, HD0, hide (unhide HW1), hide (Um.enew_ok (unhide HW1)).okw, hide (Um.lnew_ok (unhide HW1)).okw, hide hS⟩
  case round =>
    clear hS HW1 HW0 HD0 HV0
    rename_i wr
    obtain ⟨j, V, m, a, l, hj, rfl, rfl, HWV, HD, HW, HOA, HOL, HS⟩ := hrel
    have hS := unhide HS
    clear HS
    by_cases hlt : j < nl
    · have hlti : (j : Int) < (nl : Int) := by omega
      obtain ⟨lb, lo, hla, hlb, hlc⟩ := (unhide HZ).resolve_left (by omega)
      have q9 : wr.cell? ⟨lb, lo + j, none⟩ = some (.int .i64 (Z j)) := (hS.bel.cell (p := ⟨lb, lo + j, none⟩) hlb).trans (hlc j hlt)
      subst hla
      clear hlc
      generalize Z j = zj at q9
      obtain ⟨m5, hm5⟩ : ∃ m5, m5 = Um.mtouch c m 1 4 slot 0 0 := ⟨_, rfl⟩
      have HOW := hide (show Um.Word m5.l.old by rw [hm5]; exact Um.old_word (unhide HW))
      have HM5 := hide hm5
      clear hm5
      go_wp2_with fail
      clear q9
      refine (of10_any slot _).mono ?_
      rintro r u ⟨rfl, hb⟩
      replace hS := hS.call hb
      clear hb
      go_wp2_with fail
      refine (mLoad_x hS 1 2 rfl rfl (by decide) (unhide HR) (unhide HW) 4 slot (unhide HBD).1 (unhide HBD).2 m5 (unhide HM5)).mono ?_
      rintro r u ⟨rfl, hWn, hSn⟩
      clear hS
      have hS := hSn
      clear hSn
      dsimp only [putL, List.set, List.cons_append, List.nil_append] at hS
      have HW5 := hide hWn
      clear hWn
      go_wp2_with fail
      refine (with_ex2 m5.l.old _ _ _ (unhide HOW)).mono ?_
      rintro r u ⟨a1, b1, hab, rfl, rfl⟩
      have HA1 := hide hab
      clear hab
      go_wp2_with fail
      obtain ⟨m6, hm6⟩ : ∃ m6, m6 = Um.mtouch c m5 2 4 slot 0 (Um.withN m5.l.old a1 b1) := ⟨_, rfl⟩
      have HD6 := hide (sid_lay (unhide HR) (unhide H0S).1 (unhide H0S).2 (unhide HD) (unhide HM5) a1 b1 hm6)
      have HM6 := hide hm6
      clear hm6 HD
      refine (of10_any slot _).mono ?_
      rintro r u ⟨rfl, hb⟩
      replace hS := hS.call hb
      clear hb
      go_wp2_with fail
      refine (mStore_x hS 1 2 rfl rfl (by decide) (unhide HR) (unhide HW5) 4 slot (Um.withN m5.l.old a1 b1) (Um.with_word (unhide HOW) _ _) (unhide HBD).1 (unhide HBD).2 m6 (unhide HM6)).mono ?_
      rintro r u ⟨rfl, hWn, hSn⟩
      clear hS
      have hS := hSn
      clear hSn
      dsimp only [putL, List.set, List.cons_append, List.nil_append] at hS
      have HW6 := hide hWn
      clear hWn
      go_wp2_with fail
      refine (with_ex2 V _ _ _ (unhide HWV)).mono ?_
      rintro r u ⟨a2, b2, hab, rfl, rfl⟩
      obtain rfl : a2 = a1 := hab.1.trans (unhide HA1).1.symm
      obtain rfl : b2 = b1 := hab.2.trans (unhide HA1).2.symm
      clear hab HA1
      have HWV2 := hide (Um.with_word (unhide HWV) a2 b2)
      generalize Um.withN V a2 b2 = V2 at *
      clear HWV HM5 HOW HM6 HW5 HW
      go_wp2_with fail
      cases he : a.en with
      | false =>
        have hDn := gDone_any (o := a) hS 1 2 4 rfl rfl rfl (by decide) (unhide HR) (unhide HW6) (unhide HX)
        rw [show Um.edn c x a = false by unfold Um.edn; rw [he, unhide HN]; rfl] at hDn
        have HLD := hide (show l.dn = false from ((unhide HD6).a he).2.1)
        have HDn := hide hDn
        clear hDn he
        refine (unhide HDn).mono ?_
        rintro r u ⟨rfl, hb⟩
        replace hS := hS.call hb
        clear HDn hb
        obtain ⟨O, hO⟩ : ∃ O, O = Um.estep c x (fun k => inZ (fun _ => 2) 1 ((k : Nat) : Int)) (Um.setE m6 a) := ⟨_, rfl⟩
        have HD7 := hide (sid_step (unhide HR) (unhide HN) (unhide HG) (unhide HSV) (unhide HD6) O hO)
        have HH := hide hO
        clear hO
        go_wp2_with fail
        refine (gStep_any (Z := (fun _ => 2)) (la := la2) (nl := 1) (cl := cl2) hS 1 2 4 (Um.setE m6 a) O (unhide HH) rfl rfl rfl (by decide) (by decide) (by decide) (unhide HR) ((unhide HOA) m6 (unhide HW6)) (unhide HX) (by decide) ((unhide HTA).mono (fun p hp => hp))).mono ?_
        rintro r u ⟨rfl, hOn, hSn⟩
        clear hS
        have hS := hSn
        clear hSn
        dsimp only [putL, List.set, List.cons_append, List.nil_append] at hS
        have HO2 := hide hOn.okw
        have HW2 := hide hOn.wd
        clear hOn
        go_wp2_with fail
        refine (lDone_any (o := l) (hS.get 5 rfl)).mono ?_
        rintro r u ⟨rfl, rfl⟩
        rw [unhide HLD]
        have HS6 := hide hS
        clear hS
        go_wp2
        exact ⟨⟨j + 1, V2, O.m, O, l, by omega, rfl, by go_num, HWV2, HD7, HW2, HO2, HOL, HS6⟩, by simp [intOf]; omega⟩
      | true =>
        have hDn := gDone_any (o := a) hS 1 2 4 rfl rfl rfl (by decide) (unhide HR) (unhide HW6) (unhide HX)
        rw [show Um.edn c x a = true by unfold Um.edn; rw [he]; rfl] at hDn
        have HDn := hide hDn
        obtain ⟨O, hO⟩ : ∃ O, O = Um.lstep c slot 5 (Um.setLs m6 l) := ⟨_, rfl⟩
        have HD7 := hide (sid_leave (unhide HR) (unhide H0S).1 (unhide H0S).2 he (unhide HD6) O hO)
        have HH := hide hO
        clear hDn he hO
        refine (unhide HDn).mono ?_
        rintro r u ⟨rfl, hb⟩
        replace hS := hS.call hb
        clear HDn hb
        go_wp2_with fail
        refine (lStep_any hS 1 2 5 (Um.setLs m6 l) O (unhide HH) rfl rfl rfl (by decide) (by decide) (by decide) (unhide HR) ((unhide HOL) m6 (unhide HW6)) (unhide HBD).1 (unhide HBD).2).mono ?_
        rintro r u ⟨rfl, hOn, hSn⟩
        clear hS
        have hS := hSn
        clear hSn
        dsimp only [putL, List.set, List.cons_append, List.nil_append] at hS
        have HO2 := hide hOn.okw
        have HW2 := hide hOn.wd
        clear hOn
        go_wp2_with fail
        cases hdn : O.dn with
        | true =>
          have hDn := lDone_any (o := O) (hS.get 5 rfl)
          rw [hdn] at hDn
          have HDn := hide hDn
          clear hDn hdn
          refine (unhide HDn).mono ?_
          rintro r u ⟨rfl, rfl⟩
          clear HDn
          obtain ⟨A, hA⟩ : ∃ A, A = Um.eit c x (fun k => inZ (fun _ => 2) 1 ((k : Nat) : Int)) (Um.setE O.m a) 20 := ⟨_, rfl⟩
          obtain ⟨E, hE⟩ : ∃ E, E = Um.lit10 c slot 5 (Um.setLs A.m O) 20 := ⟨_, rfl⟩
          obtain ⟨hT1, hT2, hT3⟩ := sid_tail (unhide HR) (unhide HN) (unhide HG) (unhide HSV) (unhide H0S).1 (unhide H0S).2 (unhide HD7) A hA E hE
          obtain ⟨m7, hm7⟩ : ∃ m7, m7 = Um.mtouch c E.m 1 4 slot 0 0 := ⟨_, rfl⟩
          have HO7 := hide (old_at (unhide HR) (unhide H0S).1 (unhide H0S).2 hT3 hm7)
          have HM7 := hide hm7
          have HH1 := hide hA
          have HH2 := hide hE
          have HT1 := hide hT1
          have HT2 := hide hT2
          clear hA hE hT1 hT2 hT3 hm7
          go_wp2_with fail
          refine (enters_x (Z := (fun _ => 2)) (la := la2) (nl := 1) (cl := cl2) hS 1 2 4 (Um.setE O.m a) rfl rfl rfl (by decide) (by decide) (by decide) (unhide HR) ((unhide HOA) O.m (unhide HW2)) (unhide HX) (by decide) ((unhide HTA).mono (fun p hp => hp)) 20 (by decide) A (unhide HH1)).mono ?_
          rintro r u ⟨N1, rfl, _, _, _, hOn, hSn⟩
          clear hS
          have hS := hSn
          clear hSn
          dsimp only [putL, List.set, List.cons_append, List.nil_append] at hS
          have HO1 := hide hOn
          clear hOn
          go_wp2_with fail
          refine (leaves_x hS 1 2 5 (Um.setLs A.m O) rfl rfl rfl (by decide) (by decide) (by decide) (unhide HR) ((unhide HO2) A.m (unhide HO1).wd) (unhide HBD).1 (unhide HBD).2 20 (by decide) E (unhide HH2)).mono ?_
          rintro r u ⟨N2, rfl, _, _, _, hOn, hSn⟩
          clear hS
          have hS := hSn
          clear hSn
          dsimp only [putL, List.set, List.cons_append, List.nil_append] at hS
          have HO2 := hide hOn
          clear hOn
          go_wp2_with fail
          refine (gAlive_any _).mono ?_
          rintro r u ⟨rfl, hb⟩
          replace hS := hS.call hb
          clear hb
          go_wp2_with fail
          refine (gDone_any (o := A) hS 1 2 4 rfl rfl rfl (by decide) (unhide HR) (unhide HO2).wd (unhide HX)).mono ?_
          rintro r u ⟨rfl, hb⟩
          replace hS := hS.call hb
          clear hb
          rw [unhide HT1]
          go_wp2_with fail
          refine (lDone_any (o := E) (hS.get 5 rfl)).mono ?_
          rintro r u ⟨rfl, rfl⟩
          rw [unhide HT2]
          go_wp2_with fail
          refine (of10_any slot _).mono ?_
          rintro r u ⟨rfl, hb⟩
          replace hS := hS.call hb
          clear hb
          go_wp2_with fail
          refine (mLoad_x hS 1 2 rfl rfl (by decide) (unhide HR) (unhide HO2).wd 4 slot (unhide HBD).1 (unhide HBD).2 m7 (unhide HM7)).mono ?_
          rintro r u ⟨rfl, hWn, hSn⟩
          clear hS
          have hS := hSn
          clear hSn
          dsimp only [putL, List.set, List.cons_append, List.nil_append] at hS
          clear hWn
          rw [unhide HO7]
          have hB := hS.bel
          clear hS
          go_wp2
          go_ret
          exact ⟨rfl, hB⟩
        | false =>
          have hDn := lDone_any (o := O) (hS.get 5 rfl)
          rw [hdn] at hDn
          have HDn := hide hDn
          have HS6 := hide hS
          clear hDn hdn hS
          refine (unhide HDn).mono ?_
          rintro r u ⟨rfl, rfl⟩
          clear HDn
          go_wp2
          exact ⟨⟨j + 1, V2, O.m, a, O, by omega, rfl, by go_num, HWV2, HD7, HW2, HOA, HO2, HS6⟩, by simp [intOf]; omega⟩
    · have hge : ¬ (j : Int) < (nl : Int) := by omega
      obtain ⟨A, hA⟩ : ∃ A, A = Um.eit c x (fun k => inZ (fun _ => 2) 1 ((k : Nat) : Int)) (Um.setE m a) 20 := ⟨_, rfl⟩
      obtain ⟨E, hE⟩ : ∃ E, E = Um.lit10 c slot 5 (Um.setLs A.m l) 20 := ⟨_, rfl⟩
      obtain ⟨hT1, hT2, hT3⟩ := sid_tail (unhide HR) (unhide HN) (unhide HG) (unhide HSV) (unhide H0S).1 (unhide H0S).2 (unhide HD) A hA E hE
      obtain ⟨m7, hm7⟩ : ∃ m7, m7 = Um.mtouch c E.m 1 4 slot 0 0 := ⟨_, rfl⟩
      have HO7 := hide (old_at (unhide HR) (unhide H0S).1 (unhide H0S).2 hT3 hm7)
      have HM7 := hide hm7
      have HH1 := hide hA
      have HH2 := hide hE
      have HT1 := hide hT1
      have HT2 := hide hT2
      clear hA hE hT1 hT2 hT3 hm7
      go_wp2_with fail
      refine (enters_x (Z := (fun _ => 2)) (la := la2) (nl := 1) (cl := cl2) hS 1 2 4 (Um.setE m a) rfl rfl rfl (by decide) (by decide) (by decide) (unhide HR) ((unhide HOA) m (unhide HW)) (unhide HX) (by decide) ((unhide HTA).mono (fun p hp => hp)) 20 (by decide) A (unhide HH1)).mono ?_
      rintro r u ⟨N1, rfl, _, _, _, hOn, hSn⟩
      clear hS
      have hS := hSn
      clear hSn
      dsimp only [putL, List.set, List.cons_append, List.nil_append] at hS
      have HO1 := hide hOn
      clear hOn
      go_wp2_with fail
      refine (leaves_x hS 1 2 5 (Um.setLs A.m l) rfl rfl rfl (by decide) (by decide) (by decide) (unhide HR) ((unhide HOL) A.m (unhide HO1).wd) (unhide HBD).1 (unhide HBD).2 20 (by decide) E (unhide HH2)).mono ?_
      rintro r u ⟨N2, rfl, _, _, _, hOn, hSn⟩
      clear hS
      have hS := hSn
      clear hSn
      dsimp only [putL, List.set, List.cons_append, List.nil_append] at hS
      have HO2 := hide hOn
      clear hOn
      go_wp2_with fail
      refine (gAlive_any _).mono ?_
      rintro r u ⟨rfl, hb⟩
      replace hS := hS.call hb
      clear hb
      go_wp2_with fail
      refine (gDone_any (o := A) hS 1 2 4 rfl rfl rfl (by decide) (unhide HR) (unhide HO2).wd (unhide HX)).mono ?_
      rintro r u ⟨rfl, hb⟩
      replace hS := hS.call hb
      clear hb
      rw [unhide HT1]
      go_wp2_with fail
      refine (lDone_any (o := E) (hS.get 5 rfl)).mono ?_
      rintro r u ⟨rfl, rfl⟩
      rw [unhide HT2]
      go_wp2_with fail
      refine (of10_any slot _).mono ?_
      rintro r u ⟨rfl, hb⟩
      replace hS := hS.call hb
      clear hb
      go_wp2_with fail
      refine (mLoad_x hS 1 2 rfl rfl (by decide) (unhide HR) (unhide HO2).wd 4 slot (unhide HBD).1 (unhide HBD).2 m7 (unhide HM7)).mono ?_
      rintro r u ⟨rfl, hWn, hSn⟩
      clear hS
      have hS := hSn
      clear hSn
      dsimp only [putL, List.set, List.cons_append, List.nil_append] at hS
      clear hWn
      rw [unhide HO7]
      have hB := hS.bel
      clear hS
      go_wp2
      go_ret
      exact ⟨rfl, hB⟩

theorem walk {H : Type} {enc : TypeId × Value → H} {base : Nat} {v0 v2 : Value} {d0 d2 : DataW H} {p0 p2 : List MemPlace} (w : World)
    (hv0 : Value.okWide Try.prog w .any base 24 v0) (h0 : DataW.Trod enc Try.prog w 0 (fun _ => true) true 24 v0 d0 p0)
    (slot : Int) (w1 : (Lit.int .i64 slot).wf = true)
    (hv2 : Value.okWide Try.prog w .any base 26 v2) (h2 : DataW.Trod enc Try.prog w 0 (fun _ => true) true 26 v2 d2 p2) :
    Calls Try.prog 7 #[v0, .int .i64 slot, v2] w fun e w' => e = .returned (.bool true) ∧ Below w.heap.size w w' := by
  obtain ⟨ct, s, k, g, q, rfl, hsb⟩ := open_cfg hv0 h0
  obtain ⟨la, nl, cl, Z, rfl, hnc, hZ⟩ := open_row hv2 h2
  cases hr : (⟨ct, s, k, g, q⟩ : Um.Cf).r with
  | false => exact walk_wrong w ⟨ct, s, k, g, q⟩ slot la nl cl hr
  | true =>
    cases hm : Um.mok slot 0 with
    | false => exact walk_none w ⟨ct, s, k, g, q⟩ slot la nl cl hr hm
    | true =>
      by_cases hs : s ≤ slot
      · exact walk_high w ⟨ct, s, k, g, q⟩ slot la nl cl hr hm hs
      by_cases hb : 30 < nl
      · exact walk_long w ⟨ct, s, k, g, q⟩ slot la nl cl hr hm hs hb
      · exact walk_right w ⟨ct, s, k, g, q⟩ slot la nl cl Z hr hm hs hb hnc hZ

set_option maxRecDepth 100000 in
theorem lifted (os : Os) (started : os.Started) (H : Type) (enc : TypeId × Value → H) :
    ReturnsInHanded {} Try.checked os 7 .any (Rows.gateSidesSpec.pre6 enc Try.prog Try.f7 Rows.gateSidesRow.domain false) (Rows.gateSidesSpec.post enc Try.prog Try.f7 false true false false) := by
  refine returnsInHanded_of_change (C := Try.checked) own started (by kernel_rfl) Try.func7
    (ChangeSpec.witness6 (enc := enc) (C := Try.checked) false ⟨#[], #[.agg #[.int .i64 0, .int .i64 0, .int .i64 0, .int .i64 0, .int .u64 0], .int .i64 0, .slice none 0 0], []⟩ 8 (by kernel_rfl) (by kernel_rfl) (by kernel_rfl) (by kernel_rfl)) ?_
  intro W base args ds gs before hval0 hW hcnd _
  have hval : ∀ (j : Nat) t v, Try.f7.params[j]? = some t → args[j]? = some v → Value.okWide Try.prog W .any base t v := hval0
  have hW' := hW
  obtain ⟨p, q, hA0, hV, rfl, hfz, hnd⟩ := hW
  have hA : DataW.TrodAll enc Try.prog W 0 (fun _ => true) true Try.f7.params.toList args.toList ds p := hA0
  rw [Try.params7] at hA hval
  obtain ⟨v0, vs0, d0, ds0, p0, q0, hargs, rfl, rfl, h0, r0⟩ := trodAll_cons hA
  obtain ⟨v1, vs1, d1, ds1, p1, q1, rfl, rfl, rfl, h1, r1⟩ := trodAll_cons r0
  obtain ⟨v2, vs2, d2, ds2, p2, q2, rfl, rfl, rfl, h2, r2⟩ := trodAll_cons r1
  obtain ⟨rfl, rfl, rfl⟩ := trodAll_nil r2
  obtain rfl : args = #[v0, v1, v2] := by cases args; simp_all
  obtain ⟨rfl, rfl⟩ := trodVars_none hV
  have k0 := h0
  have lt0 : ∀ x ∈ p0, x.block < W.heap.size := by obtain ⟨m, hm⟩ := k0; exact DataW.trod_lt m _ _ _ hm
  have k1 := h1
  have lt1 : ∀ x ∈ p1, x.block < W.heap.size := by obtain ⟨m, hm⟩ := k1; exact DataW.trod_lt m _ _ _ hm
  have k2 := h2
  have lt2 : ∀ x ∈ p2, x.block < W.heap.size := by obtain ⟨m, hm⟩ := k2; exact DataW.trod_lt m _ _ _ hm
  obtain ⟨a1, rfl, hd1, hp1, w1⟩ := open_int Try.underlying3 (hval 1 3 v1 rfl rfl) h1
  refine (walk W (hval 0 24 v0 rfl rfl) h0 a1 w1 (hval 2 26 v2 rfl rfl) h2).mono fun e W' ⟨he, bel⟩ => ?_
  subst he
  exact ⟨_, rfl, _, _, _, [], _, [], hW', trodAll_mk1 (shut_bool Try.underlying4 _), (trodAll_cons_mk (Below.trod laidOut (by kernel_rfl) (of_decide_eq_true (by kernel_rfl)) k0 bel lt0) (trodAll_cons_mk (Below.trod laidOut (by kernel_rfl) (of_decide_eq_true (by kernel_rfl)) k1 bel lt1) (trodAll_cons_mk (Below.trod laidOut (by kernel_rfl) (of_decide_eq_true (by kernel_rfl)) k2 bel lt2) trodAll_mk0))), rfl, bel.frame _, fun h => by cases h⟩

theorem GateSides_proved : Rows.GateSidesSaid :=
  OpenClaim.holds_of_wide 7 Try.f7 rfl rfl rfl rfl rfl rfl rfl ⟨rfl, rfl, rfl, rfl, rfl⟩ rfl rfl rfl rfl rfl (by kernel_rfl) Try.func7 (by kernel_rfl)
    (of_decide_eq_true (by kernel_rfl)) (by unfold Func.isWrapper; first | (rw [if_pos (by decide +kernel)]; kernel_rfl) | (rw [if_neg (by decide +kernel)]; exact ⟨rfl, rfl⟩))
    (fun os started H enc _ => lifted os started H enc)

end Go.Proofs.Yticaieghapjpkaa.gateSides
