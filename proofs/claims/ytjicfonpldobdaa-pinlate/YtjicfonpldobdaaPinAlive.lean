/-
  The walk of layer 7's first look: a pin, and two graces.
-/
import Derived.Test.YtjicfonpldobdaaPinX
import Derived.LoopTactic
namespace Go.Proofs.Ytjicfonpldobdaa
set_option maxRecDepth 100000
open Go.RowKit Go.Sort

def pc0 : Um.Cf := ⟨3, 1, 1, 0, 0⟩
def pm1 : Um.Mm := Um.mtouch pc0 ⟨fun _ => 0, 0, Um.noT⟩ 4 2 0 0 6
def ps1 : Um.Ps := Um.pstep pc0 1 ⟨pm1, 0, 0⟩
def ps2 : Um.Ps := Um.pstep pc0 1 ps1
def ps3 : Um.Ps := Um.pstep pc0 1 ps2
/-- both graces behind k rounds -/
def gr2 : Nat → Um.Gs × Um.Gs
  | 0 => (⟨ps3.m, Um.goTo 0 0, false⟩, ⟨ps3.m, Um.goTo 0 0, false⟩)
  | k + 1 =>
    let a := Um.gask pc0 0 5 ⟨(gr2 k).2.m, (gr2 k).1.oth, (gr2 k).1.later⟩
    (a, Um.gask pc0 0 6 ⟨a.m, (gr2 k).2.oth, (gr2 k).2.later⟩)
def pm8 : Um.Mm := Um.mtouch pc0 (gr2 5).2.m 1 3 1 0 0
def pm9 : Um.Mm := Um.mtouch pc0 pm8 2 3 1 0 0
def pm10 : Um.Mm := Um.mtouch pc0 pm9 1 3 1 0 0

theorem pc0_r : pc0.r = true := by decide +kernel

theorem gr2_ge : ∀ k, k ≤ 5 → 0 ≤ (gr2 k).1.oth ∧ 0 ≤ (gr2 k).2.oth := by decide +kernel

set_option maxHeartbeats 8000000 in
theorem pAlive_any (w : World) : Calls Try.prog 22 #[] w fun e w' => e = .returned (.bool true) ∧ Below w.heap.size w w' := by
  have hS := Sx.new w
  go_enter Try.func22, Try.ntmps22
  go_wp2_with fail
  refine (new_x hS pc0 pc0_r).mono ?_
  rintro r u ⟨B, C, rfl, hWn, hSn⟩
  clear hS
  have hS := hSn
  clear hSn
  dsimp only [putL, List.set, List.cons_append, List.nil_append] at hS
  have HW0 := hide hWn
  clear hWn
  go_wp2_with fail
  refine (pNew_any hS 1).mono ?_
  rintro r u ⟨P, rfl, hSn⟩
  clear hS
  have hS := hSn
  clear hSn
  dsimp only [putL, List.set, List.cons_append, List.nil_append] at hS
  go_wp2_with fail
  refine (mAdd_x hS 0 1 rfl rfl (by decide) pc0_r (unhide HW0) 2 0 6 (by unfold Um.Word; omega) (by decide) (by decide) pm1 rfl).mono ?_
  rintro r u ⟨rfl, hWn, hSn⟩
  clear hS
  have hS := hSn
  clear hSn
  dsimp only [putL, List.set, List.cons_append, List.nil_append] at hS
  have HW1 := hide hWn
  clear hWn
  go_wp2_with fail
  refine (pStep_any hS 0 1 2 ⟨pm1, 0, 0⟩ ps1 rfl (by decide) rfl rfl rfl (by decide) (by decide) (by decide) pc0_r (unhide HW1) (by decide)).mono ?_
  rintro r u ⟨rfl, hWn, _, hSn⟩
  clear hS
  have hS := hSn
  clear hSn
  dsimp only [putL, List.set, List.cons_append, List.nil_append] at hS
  have HW2 := hide hWn
  clear hWn
  go_wp2_with fail
  refine (pDone_any hS 2 ps1.ep ps1.st (by decide +kernel) rfl).mono ?_
  rintro r u ⟨rfl, rfl⟩
  rw [show decide (ps1.st = 2) = false by decide +kernel]
  go_wp2_with fail
  refine (pStep_any hS 0 1 2 ps1 ps2 rfl (by decide +kernel) rfl rfl rfl (by decide) (by decide) (by decide) pc0_r (unhide HW2) (by decide)).mono ?_
  rintro r u ⟨rfl, hWn, _, hSn⟩
  clear hS
  have hS := hSn
  clear hSn
  dsimp only [putL, List.set, List.cons_append, List.nil_append] at hS
  have HW3 := hide hWn
  clear hWn
  go_wp2_with fail
  refine (pStep_any hS 0 1 2 ps2 ps3 rfl (by decide +kernel) rfl rfl rfl (by decide) (by decide) (by decide) pc0_r (unhide HW3) (by decide)).mono ?_
  rintro r u ⟨rfl, hWn, _, hSn⟩
  clear hS
  have hS := hSn
  clear hSn
  dsimp only [putL, List.set, List.cons_append, List.nil_append] at hS
  have HW4 := hide hWn
  clear hWn
  go_wp2_with fail
  refine (count_x hS 0 1 rfl rfl (by decide) pc0_r (unhide HW4)).mono ?_
  rintro r u ⟨rfl, rfl⟩
  rw [show ps3.m.cnt = 3 by decide +kernel]
  go_wp2_with fail
  refine (gNew_x hS 0 5).mono ?_
  rintro r u ⟨G, rfl, hSn⟩
  clear hS
  have hS := hSn
  clear hSn
  dsimp only [putL, List.set, List.cons_append, List.nil_append] at hS
  go_wp2_with fail
  refine (gNew_x hS 0 6).mono ?_
  rintro r u ⟨H, rfl, hSn⟩
  clear hS
  have hS := hSn
  clear hSn
  dsimp only [putL, List.set, List.cons_append, List.nil_append] at hS
  go_wp2_with fail
  go_loopw [50] (fun i wr => ∃ j : Nat, j ≤ 5 ∧ i = .int .i64 j ∧ Hid (WordsOk pc0 (gr2 j).2.m) ∧ Hid (Sx [] w wr [(B, memL pc0 C (gr2 j).2.m), (C, rowW (gr2 j).2.m.ws pc0.n), (P, pinL P 1 ps3.ep ps3.st), (G, grcL G 0 5 (gr2 j).1.oth (gr2 j).1.later), (H, grcL H 0 6 (gr2 j).2.oth (gr2 j).2.later)] [])) (fun i _ => 5 - (intOf i).toNat)
  case atStart => exact ⟨0, by decide, rfl, HW4, hS⟩
  case round =>
    clear hS HW0 HW1 HW2 HW3 HW4
    rename_i wr
    obtain ⟨j, hj, rfl, HW, HS⟩ := hrel
    have hS := unhide HS
    clear HS
    by_cases hlt : j < 5
    · have hlti : (j : Int) < 5 := by omega
      have HG := hide (gr2_ge j hj)
      go_wp2_with fail
      refine (gStep_x hS 0 1 3 ⟨(gr2 j).2.m, (gr2 j).1.oth, (gr2 j).1.later⟩ (gr2 (j + 1)).1 rfl rfl rfl (by decide) (by decide) (by decide) pc0_r (unhide HW) (unhide HG).1 rfl).mono ?_
      rintro r u ⟨rfl, hWn, hSn⟩
      clear hS
      have hS := hSn
      clear hSn
      dsimp only [putL, List.set, List.cons_append, List.nil_append] at hS
      have HW5 := hide hWn
      clear hWn
      go_wp2_with fail
      refine (gStep_x hS 0 1 4 ⟨(gr2 (j + 1)).1.m, (gr2 j).2.oth, (gr2 j).2.later⟩ (gr2 (j + 1)).2 rfl rfl rfl (by decide) (by decide) (by decide) pc0_r (unhide HW5) (unhide HG).2 rfl).mono ?_
      rintro r u ⟨rfl, hWn, hSn⟩
      clear hS
      have hS := hSn
      clear hSn
      dsimp only [putL, List.set, List.cons_append, List.nil_append] at hS
      have HW6 := hide hWn
      clear hWn
      have HS6 := hide hS
      clear hS
      go_wp2
      exact ⟨⟨j + 1, by omega, by go_num, HW6, HS6⟩, by simp [intOf]; omega⟩
    · obtain rfl : j = 5 := by omega
      go_wp2_with fail
      refine (count_x hS 0 1 rfl rfl (by decide) pc0_r (unhide HW)).mono ?_
      rintro r u ⟨rfl, rfl⟩
      rw [show (gr2 5).2.m.cnt = 6 by decide +kernel]
      go_wp2_with fail
      refine (mLoad_x hS 0 1 rfl rfl (by decide) pc0_r (unhide HW) 3 1 (by decide) (by decide) pm8 rfl).mono ?_
      rintro r u ⟨rfl, hWn, hSn⟩
      clear hS
      have hS := hSn
      clear hSn
      dsimp only [putL, List.set, List.cons_append, List.nil_append] at hS
      have HW8 := hide hWn
      clear hWn
      rw [show pm8.l.old = 7 by decide +kernel]
      go_wp2_with fail
      refine (pLeave_x hS 0 1 rfl rfl (by decide) pc0_r (unhide HW8) 1 (by decide) pm9 rfl).mono ?_
      rintro r u ⟨rfl, hWn, hSn⟩
      clear hS
      have hS := hSn
      clear hSn
      dsimp only [putL, List.set, List.cons_append, List.nil_append] at hS
      have HW9 := hide hWn
      clear hWn
      go_wp2_with fail
      refine (pDone_any hS 2 ps3.ep ps3.st (by decide +kernel) rfl).mono ?_
      rintro r u ⟨rfl, rfl⟩
      rw [show decide (ps3.st = 2) = true by decide +kernel]
      go_wp2_with fail
      refine (gDone_x hS 0 1 3 rfl rfl (by decide) pc0_r (unhide HW9) rfl).mono ?_
      rintro r u ⟨rfl, hb⟩
      replace hS := hS.call hb
      clear hb
      rw [show Um.gdone pc0 (gr2 5).1.oth (gr2 5).1.later = true by decide +kernel]
      go_wp2_with fail
      refine (gDone_x hS 0 1 4 rfl rfl (by decide) pc0_r (unhide HW9) rfl).mono ?_
      rintro r u ⟨rfl, hb⟩
      replace hS := hS.call hb
      clear hb
      rw [show Um.gdone pc0 (gr2 5).2.oth (gr2 5).2.later = true by decide +kernel]
      go_wp2_with fail
      refine (gLater_x hS 3 rfl).mono ?_
      rintro r u ⟨rfl, rfl⟩
      rw [show (gr2 5).1.later = false by decide +kernel]
      go_wp2_with fail
      refine (gLater_x hS 4 rfl).mono ?_
      rintro r u ⟨rfl, rfl⟩
      rw [show (gr2 5).2.later = true by decide +kernel]
      go_wp2_with fail
      refine (mLoad_x hS 0 1 rfl rfl (by decide) pc0_r (unhide HW9) 3 1 (by decide) (by decide) pm10 rfl).mono ?_
      rintro r u ⟨rfl, hWn, hSn⟩
      clear hS
      have hS := hSn
      clear hSn
      dsimp only [putL, List.set, List.cons_append, List.nil_append] at hS
      have HW10 := hide hWn
      clear hWn
      rw [show pm10.l.old = 0 by decide +kernel]
      have hB := hS.bel
      clear hS
      go_wp2
      go_ret
      exact ⟨rfl, hB⟩

end Go.Proofs.Ytjicfonpldobdaa
