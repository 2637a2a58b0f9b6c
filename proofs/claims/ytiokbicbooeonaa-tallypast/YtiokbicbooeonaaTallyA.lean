/-
  The walks of layer 3's functions, and of the document's answers for them.
-/
import Derived.Test.YtiokbicbooeonaaWalkA
import Derived.Test.YtiokbicbooeonaaWords
import Derived.Test.YtiokbicbooeonaaPair
import Derived.Test.YtiokbicbooeonaaTallyMath
import Derived.Lib.QuietBelow
namespace Go.Proofs.Ytiokbicbooeonaa
open Go.RowKit Go.Sort

/-- '==' of two tallies. -/
theorem eqTally (T : TypeId) (hT : T = 27 ∨ T = 24) (s p s' p' : Int) (w : World) :
    (Op.equalIn 10000 T (.agg #[.int .u64 s, .int .i64 p]) (.agg #[.int .u64 s', .int .i64 p'])).run Try.prog w = .ok (decide (s = s' ∧ p = p')) w := by
  rw [show (10000:Nat) = 9999 + 1 from rfl]
  rcases hT with rfl | rfl
  all_goals
    rw [run_equalIn_agg w 9999 _ _ _ (by kernel_rfl) (by kernel_rfl)]
    go_simp
    (repeat' split) <;> simp_all

theorem neqTally (T : TypeId) (hT : T = 27 ∨ T = 24) {s p s' p' : Int} {r : Bool} (hr : r = decide (s = s' ∧ p = p')) (w : World) :
    (binOp .neq T (.agg #[.int .u64 s, .int .i64 p]) (.agg #[.int .u64 s', .int .i64 p'])).run Try.prog w = .ok (.bool (!r)) w := by
  rw [run_neq_struct, eqTally T hT, hr]
  rfl

theorem eqlTally (T : TypeId) (hT : T = 27 ∨ T = 24) {s p s' p' : Int} {r : Bool} (hr : r = decide (s = s' ∧ p = p')) (w : World) :
    (binOp .eql T (.agg #[.int .u64 s, .int .i64 p]) (.agg #[.int .u64 s', .int .i64 p'])).run Try.prog w = .ok (.bool r) w := by
  rw [run_eql_struct, eqTally T hT, hr]
  rfl

set_option maxHeartbeats 400000 in
theorem tSettled_any (x : Nat) (w : World) (hx : Um.Word x) :
    Calls Try.prog 13 #[.int .u64 x] w fun e w' => e = .returned (.int .u64 (Um.setlN x : Nat)) ∧ w' = w := by
  go_enter Try.func13, Try.ntmps13
  go_wp2
  go_ret
  refine ⟨ret_u64 ?_, rfl⟩
  rw [IntKind.wrap_u64]
  unfold Um.Word at hx
  unfold Um.setlN
  omega

set_option maxHeartbeats 400000 in
theorem trSettled_any (x : Nat) (w : World) (hx : Um.Word x) :
    Calls Try.prog 15 #[.int .u64 x] w fun e w' => e = .returned (.int .u64 (Um.setlN x : Nat)) ∧ w' = w := by
  unfold Um.Word at hx
  go_enter Try.func15, Try.ntmps15
  go_wp2
  go_ret
  exact ⟨ret_u64 (by unfold Um.setlN; omega), rfl⟩

set_option maxHeartbeats 400000 in
theorem tPast_any (n s : Nat) (w : World) :
    Calls Try.prog 18 #[.int .u64 n, .int .u64 s] w fun e w' => e = .returned (.bool (Um.past n s)) ∧ w' = w := by
  by_cases h0 : n = 0
  · subst h0
    rw [show Um.past 0 s = false by unfold Um.past; simp]
    go_enter Try.func18, Try.ntmps18
    go_wp2
    all_goals go_ret
    all_goals exact ⟨rfl, rfl⟩
  · have h1 : ((n : Int) != 0) = true := by simp; omega
    go_enter Try.func18, Try.ntmps18
    go_wp2
    go_ret
    refine ⟨ret_bool ?_, rfl⟩
    unfold Um.past
    rw [Bool.eq_iff_iff, decide_eq_true_iff, decide_eq_true_iff]
    omega

set_option maxHeartbeats 400000 in
theorem trPast_any (n s : Nat) (w : World) :
    Calls Try.prog 19 #[.int .u64 n, .int .u64 s] w fun e w' => e = .returned (.bool (Um.past n s)) ∧ w' = w := by
  go_enter Try.func19, Try.ntmps19
  go_wp2
  all_goals go_ret
  all_goals refine ⟨ret_bool ?_, rfl⟩
  all_goals unfold Um.past
  · rw [Bool.eq_iff_iff, decide_eq_true_iff, decide_eq_true_iff]
    omega
  · symm
    apply decide_eq_false
    omega

set_option maxHeartbeats 400000 in
theorem withinU_any (n : Nat) (w : World) :
    Calls Try.prog 20 #[.int .u64 n, .agg #[.int .u64 0, .int .u64 1099511627775]] w fun e w' => e = .returned (.bool (decide (n ≤ 1099511627775))) ∧ Below w.heap.size w w' := by
  have hp := eqPairU
  go_enter Try.func20, Try.ntmps20
  go_wp2
  all_goals go_ret
  all_goals refine ⟨ret_bool ?_, (Below.refl _ _).alloc (Nat.le_refl _) _⟩
  all_goals rw [Bool.eq_iff_iff]
  all_goals simp
  all_goals omega

set_option maxHeartbeats 400000 in
theorem withinI_any (n : Int) (w : World) :
    Calls Try.prog 21 #[.int .i64 n, .agg #[.int .i64 (-1), .int .i64 11]] w fun e w' => e = .returned (.bool (decide (-1 ≤ n ∧ n ≤ 11))) ∧ Below w.heap.size w w' := by
  have hp := eqPairI
  go_enter Try.func21, Try.ntmps21
  go_wp2
  all_goals go_ret
  all_goals refine ⟨ret_bool ?_, (Below.refl _ _).alloc (Nat.le_refl _) _⟩
  all_goals rw [Bool.eq_iff_iff]
  all_goals simp
  all_goals omega

set_option maxHeartbeats 400000 in
theorem tUnpack_any (x : Nat) (w : World) (hx : Um.Word x) :
    Calls Try.prog 12 #[.int .u64 x] w fun e w' => e = .returned (.agg #[.int .u64 (Um.seqN x : Nat), .int .i64 (Um.penN x)]) ∧ Below w.heap.size w w' := by
  have hle : Um.setlN x ≤ x ∧ x < Um.setlN x + 16 := by unfold Um.setlN; omega
  obtain ⟨hle1, hle2⟩ := hle
  go_enter Try.func12, Try.ntmps12
  go_wp2_with fail
  refine (tSettled_any _ _ hx).mono ?_
  rintro e w1 ⟨rfl, rfl⟩
  go_wp2
  have e1 : (x : Int) - (Um.setlN x : Int) + -1 = Um.penN x := by unfold Um.setlN Um.penN; omega
  have e2 : (x : Int) / 16 = (Um.seqN x : Int) := by unfold Um.seqN; omega
  rw [e1, e2]
  refine bodyPost_ret (v := .agg #[.int .u64 (Um.seqN x : Nat), .int .i64 (Um.penN x)]) (by simp [results, Try.results12, go_sem]) rfl ⟨rfl, ?_⟩
  exact (Below.refl _ _).alloc (Nat.le_refl _) _

set_option maxHeartbeats 400000 in
theorem trUnpack_any (x : Nat) (w : World) (hx : Um.Word x) :
    Calls Try.prog 14 #[.int .u64 x] w fun e w' => e = .returned (.agg #[.int .u64 (Um.seqN x : Nat), .int .i64 (Um.penN x)]) ∧ Below w.heap.size w w' := by
  go_enter Try.func14, Try.ntmps14
  go_wp2
  have e1 : (x : Int) % 16 - 1 = Um.penN x := by unfold Um.penN; omega
  have e2 : IntKind.u64.wrap ((x : Int) / 16) = (Um.seqN x : Int) := by rw [IntKind.wrap_u64]; unfold Um.Word at hx; unfold Um.seqN; omega
  rw [e1, e2]
  refine bodyPost_ret (v := .agg #[.int .u64 (Um.seqN x : Nat), .int .i64 (Um.penN x)]) (by simp [results, Try.results14, go_sem]) rfl ⟨rfl, ?_⟩
  exact (Below.refl _ _).alloc (Nat.le_refl _) _

theorem pack_or {s : Nat} {p : Int} (h : Um.tok s p = true) : bits .or .u64 ((s : Int) * 16) (p + 1) = (Um.tpack s p : Int) := by
  obtain ⟨h1, h2, h3⟩ := Um.tok_iff.1 h
  have e1 : (s : Int) * 16 = ((16 * s : Nat) : Int) := by omega
  have e2 : p + 1 = ((p + 1).toNat : Int) := by omega
  rw [e1, e2, u64_or_nat _ _ (by omega) (by omega), Um.or_low _ _ (by omega), Um.tpack_yes h]

set_option maxHeartbeats 1000000 in
theorem tPack_any (s : Nat) (p : Int) (w : World) :
    Calls Try.prog 9 #[.agg #[.int .u64 s, .int .i64 p]] w fun e w' => e = .returned (.tuple #[.int .u64 (Um.tpack s p : Nat), .bool (Um.tok s p)]) ∧ Below w.heap.size w w' := by
  by_cases h1 : s ≤ 1099511627775
  · by_cases h2 : -1 ≤ p ∧ p ≤ 11
    · have hok : Um.tok s p = true := Um.tok_iff.2 ⟨h1, h2⟩
      have hp := pack_or hok
      rw [hok]
      have HP := hide hp
      obtain ⟨h3, h4⟩ := h2
      clear hp hok
      go_enter Try.func9, Try.ntmps9
      go_wp2_with fail
      refine (withinU_any _ _).mono ?_
      rintro e w1 ⟨rfl, hb1⟩
      rw [decide_eq_true h1]
      obtain ⟨hc1, hf1⟩ := bcell hb1
      have hz1 : w.heap.size < w1.heap.size := by have := hb1.size; simp at this; omega
      go_wp2_with fail
      refine (withinI_any _ _).mono ?_
      rintro e w2 ⟨rfl, hb2⟩
      rw [decide_eq_true (show -1 ≤ p ∧ p ≤ 11 from ⟨h3, h4⟩)]
      obtain ⟨hc2, hf2⟩ := bcell hb2
      go_wp2
      go_ret2
      exact ⟨ret_two (unhide HP), (((Below.refl _ _).alloc (Nat.le_refl _) _).trans (hb1.mono (by simp))).trans (hb2.mono (by omega))⟩
    · have hok : Um.tok s p = false := Um.tok_no.2 (by omega)
      rw [hok, Um.tpack_no hok]
      clear hok
      go_enter Try.func9, Try.ntmps9
      go_wp2_with fail
      refine (withinU_any _ _).mono ?_
      rintro e w1 ⟨rfl, hb1⟩
      rw [decide_eq_true h1]
      obtain ⟨hc1, hf1⟩ := bcell hb1
      go_wp2_with fail
      refine (withinI_any _ _).mono ?_
      rintro e w2 ⟨rfl, hb2⟩
      rw [decide_eq_false h2]
      have hz1 : w.heap.size < w1.heap.size := by have := hb1.size; simp at this; omega
      go_wp2
      go_ret2
      exact ⟨rfl, (((Below.refl _ _).alloc (Nat.le_refl _) _).trans (hb1.mono (by simp))).trans (hb2.mono (by omega))⟩
  · have hok : Um.tok s p = false := Um.tok_no.2 (by omega)
    rw [hok, Um.tpack_no hok]
    clear hok
    go_enter Try.func9, Try.ntmps9
    go_wp2_with fail
    refine (withinU_any _ _).mono ?_
    rintro e w1 ⟨rfl, hb1⟩
    rw [decide_eq_false h1]
    go_wp2
    go_ret2
    exact ⟨rfl, ((Below.refl _ _).alloc (Nat.le_refl _) _).trans (hb1.mono (by simp))⟩

set_option maxHeartbeats 1000000 in
theorem trPack_any (s : Nat) (p : Int) (w : World) :
    Calls Try.prog 10 #[.agg #[.int .u64 s, .int .i64 p]] w fun e w' => e = .returned (.tuple #[.int .u64 (Um.tpack s p : Nat), .bool (Um.tok s p)]) ∧ Below w.heap.size w w' := by
  cases hok : Um.tok s p
  · rw [Um.tpack_no hok]
    have hno := Um.tok_no.1 hok
    have HN := hide hno
    clear hno hok
    go_enter Try.func10, Try.ntmps10
    go_wp2
    all_goals first
      | (go_ret2; exact ⟨rfl, (Below.refl _ _).alloc (Nat.le_refl _) _⟩)
      | (exfalso; have h := unhide HN; omega)
  · have hp := Um.tpack_yes hok
    have HP := hide hp
    obtain ⟨h1, h2, h3⟩ := Um.tok_iff.1 hok
    clear hp hok
    go_enter Try.func10, Try.ntmps10
    go_wp2
    go_ret2
    rw [unhide HP]
    exact ⟨ret_two (by omega), (Below.refl _ _).alloc (Nat.le_refl _) _⟩

set_option maxHeartbeats 1000000 in
theorem tNext_any (x : Nat) (p : Int) (w : World) (hx : Um.Word x) :
    Calls Try.prog 16 #[.int .u64 x, .int .i64 p] w fun e w' => e = .returned (.tuple #[.int .u64 (Um.tnext x p : Nat), .bool (Um.nok x p)]) ∧ Below w.heap.size w w' := by
  have hs := Um.setl_word hx
  have hq := Um.seq_word hx
  have hneq : ∀ w, (binOp .neq 27 (.agg #[.int .u64 (Um.seqN x : Nat), .int .i64 (Um.penN x)]) (.agg #[.int .u64 (Um.seqN (Um.setlN x) : Nat), .int .i64 (Um.penN (Um.setlN x))])).run Try.prog w = .ok (.bool (!(decide (Um.penN x = -1)))) w := by
    apply neqTally _ (Or.inl rfl)
    rw [Bool.eq_iff_iff, decide_eq_true_iff, decide_eq_true_iff, Um.seq_setl, Um.pen_setl]
    omega
  by_cases h1 : Um.penN x = -1
  · rw [decide_eq_true h1] at hneq
    by_cases h2 : p < 0
    · have hno : Um.nok x p = false := by
        cases hh : Um.nok x p
        · rfl
        · have := (Um.nok_iff.1 hh).2.1; omega
      rw [hno, Um.tnext_no hno]
      clear hno h1
      go_enter Try.func16, Try.ntmps16
      go_wp2_with fail
      refine (tUnpack_any _ _ hx).mono ?_
      rintro e w1 ⟨rfl, hb1⟩
      go_wp2_with fail
      generalize hW : w1.alloc _ = W
      have hk0 : ∀ d os, (grow (redrawn W d) os).cell? ⟨w1.heap.size, 0, none⟩ = some (.int .u64 (Um.seqN x : Nat)) := fun d os => cell_regrown (by subst hW; go_simp) d os
      have hk1 : ∀ d os, (grow (redrawn W d) os).cell? ⟨w1.heap.size, 1, none⟩ = some (.int .i64 (Um.penN x)) := fun d os => cell_regrown (by subst hW; go_simp) d os
      have hB : Below w.heap.size w W := by rw [← hW]; exact hb1.alloc hb1.size _
      clear hW
      refine wp_region_quiet_below (by kernel_rfl) (by kernel_rfl) ?_
      repeat (go_big_quiet_step (first
        | (go_at_call 13; exact Calls.regrown_of (same_below (tSettled_any _ _ hx)))
        | (go_at_call 12; exact Calls.regrown_of (tUnpack_any _ _ hs))))
      refine wpQuiet_nil ?_
      intro _ hw'
      obtain ⟨⟨dq, osq⟩, hw''⟩ := hw'
      subst hw''
      go_wp2
      go_ret2
      exact ⟨rfl, hB.trans ((below_regrown W dq osq).mono hB.size)⟩
    · have hok : Um.nok x p = Um.tok (Um.seqN x + 1) p := by unfold Um.nok; rw [decide_eq_true ⟨h1, by omega⟩]; rfl
      have hv : Um.tnext x p = Um.tpack (Um.seqN x + 1) p := by
        cases hh : Um.nok x p
        · rw [Um.tnext_no hh, Um.tpack_no (hok ▸ hh)]
        · exact Um.tnext_yes hh
      rw [hok, hv]
      clear hok hv h1
      go_enter Try.func16, Try.ntmps16
      go_wp2_with fail
      refine (tUnpack_any _ _ hx).mono ?_
      rintro e w1 ⟨rfl, hb1⟩
      go_wp2_with fail
      generalize hW : w1.alloc _ = W
      have hk0 : ∀ d os, (grow (redrawn W d) os).cell? ⟨w1.heap.size, 0, none⟩ = some (.int .u64 (Um.seqN x : Nat)) := fun d os => cell_regrown (by subst hW; go_simp) d os
      have hk1 : ∀ d os, (grow (redrawn W d) os).cell? ⟨w1.heap.size, 1, none⟩ = some (.int .i64 (Um.penN x)) := fun d os => cell_regrown (by subst hW; go_simp) d os
      have hB : Below w.heap.size w W := by rw [← hW]; exact hb1.alloc hb1.size _
      clear hW
      refine wp_region_quiet_below (by kernel_rfl) (by kernel_rfl) ?_
      repeat (go_big_quiet_step (first
        | (go_at_call 13; exact Calls.regrown_of (same_below (tSettled_any _ _ hx)))
        | (go_at_call 12; exact Calls.regrown_of (tUnpack_any _ _ hs))))
      refine wpQuiet_nil ?_
      intro _ hw'
      obtain ⟨⟨dq, osq⟩, hw''⟩ := hw'
      subst hw''
      go_wp2_with fail
      refine (tPack_any (Um.seqN x + 1) _ _).mono ?_
      rintro e w3 ⟨rfl, hb3⟩
      go_wp2
      go_ret2
      have hB3 := hB.trans ((below_regrown W dq osq).mono hB.size)
      exact ⟨rfl, hB3.trans (hb3.mono hB3.size)⟩
  · have hno : Um.nok x p = false := by
      cases hh : Um.nok x p
      · rfl
      · exact absurd (Um.nok_iff.1 hh).1 h1
    rw [hno, Um.tnext_no hno]
    rw [decide_eq_false h1] at hneq
    clear hno h1
    go_enter Try.func16, Try.ntmps16
    go_wp2_with fail
    refine (tUnpack_any _ _ hx).mono ?_
    rintro e w1 ⟨rfl, hb1⟩
    go_wp2_with fail
    generalize hW : w1.alloc _ = W
    have hk0 : ∀ d os, (grow (redrawn W d) os).cell? ⟨w1.heap.size, 0, none⟩ = some (.int .u64 (Um.seqN x : Nat)) := fun d os => cell_regrown (by subst hW; go_simp) d os
    have hk1 : ∀ d os, (grow (redrawn W d) os).cell? ⟨w1.heap.size, 1, none⟩ = some (.int .i64 (Um.penN x)) := fun d os => cell_regrown (by subst hW; go_simp) d os
    have hB : Below w.heap.size w W := by rw [← hW]; exact hb1.alloc hb1.size _
    clear hW
    refine wp_region_quiet_below (by kernel_rfl) (by kernel_rfl) ?_
    repeat (go_big_quiet_step (first
      | (go_at_call 13; exact Calls.regrown_of (same_below (tSettled_any _ _ hx)))
      | (go_at_call 12; exact Calls.regrown_of (tUnpack_any _ _ hs))))
    refine wpQuiet_nil ?_
    intro _ hw'
    obtain ⟨⟨dq, osq⟩, hw''⟩ := hw'
    subst hw''
    go_wp2
    go_ret2
    exact ⟨rfl, hB.trans ((below_regrown W dq osq).mono hB.size)⟩

set_option maxHeartbeats 1000000 in
theorem trNext_any (x : Nat) (p : Int) (w : World) (hx : Um.Word x) :
    Calls Try.prog 17 #[.int .u64 x, .int .i64 p] w fun e w' => e = .returned (.tuple #[.int .u64 (Um.tnext x p : Nat), .bool (Um.nok x p)]) ∧ Below w.heap.size w w' := by
  have hq := Um.seq_word hx
  by_cases h1 : Um.penN x = -1 ∧ 0 ≤ p
  · have hok : Um.nok x p = Um.tok (Um.seqN x + 1) p := by unfold Um.nok; rw [decide_eq_true h1]; rfl
    have hv : Um.tnext x p = Um.tpack (Um.seqN x + 1) p := by
      cases hh : Um.nok x p
      · rw [Um.tnext_no hh, Um.tpack_no (hok ▸ hh)]
      · exact Um.tnext_yes hh
    rw [hok, hv]
    clear hok hv
    obtain ⟨h1, h2⟩ := h1
    go_enter Try.func17, Try.ntmps17
    go_wp2_with fail
    refine (trUnpack_any _ _ hx).mono ?_
    rintro e w1 ⟨rfl, hb1⟩
    go_wp2_with fail
    refine (trPack_any (Um.seqN x + 1) _ _).mono ?_
    rintro e w3 ⟨rfl, hb3⟩
    go_wp2
    go_ret2
    have hB3 := hb1.alloc hb1.size (.cells #[.int .u64 (Um.seqN x : Nat), .int .i64 (-1)] 24)
    exact ⟨rfl, hB3.trans (hb3.mono hB3.size)⟩
  · have hno : Um.nok x p = false := by unfold Um.nok; rw [decide_eq_false h1]; rfl
    rw [hno, Um.tnext_no hno]
    have HN := hide h1
    clear hno h1
    go_enter Try.func17, Try.ntmps17
    go_wp2_with fail
    refine (trUnpack_any _ _ hx).mono ?_
    rintro e w1 ⟨rfl, hb1⟩
    go_wp2_with fail
    all_goals first
      | (go_ret2; exact ⟨rfl, hb1.alloc hb1.size _⟩)
      | (exfalso; have h := unhide HN; omega)

end Go.Proofs.Ytiokbicbooeonaa
