/-
  For every word and two numbers of slots, the law TicketGreater answers true: what a word names where there are few slots it names where there are more, and nothing where its slot is not. Conditions: none.
-/
import Derived.Test.YtahddfnkodmnmaaRows
import Derived.Test.YtahddfnkodmnmaaTicketAlive
import Derived.Test.YtahddfnkodmnmaaOpenPair
import Derived.RegionTactic
import Derived.BigRegion
import Derived.WalkKit
import Derived.ProofKit
import Derived.OpenShut
import Derived.ShutString
namespace Go.Proofs.Ytahddfnkodmnmaa.ticketGreater
open Go.ChangeShapes Go.WideShapes Go.ChangeAt Go.RowKit
set_option linter.unusedVariables false

theorem own : ownKnob Try.prog.godebug = none := by kernel_rfl
theorem laidOut : laidOutB Try.prog = true := by kernel_rfl

theorem ofYes (x : Nat) (n : Int) (w : World) (hx : Um.Word x) (h : Um.ook x n = true) : Calls Try.prog 16 #[.int .u64 x, .int .i64 n] w fun e w' => e = .returned (.tuple #[.int .i64 (Um.tsN x), .int .i64 (Um.tgN x), .bool true]) ∧ Below w.heap.size w w' := by
  have k := kOf_any x n w hx
  rw [Um.os_yes h, Um.og_yes h, h] at k
  exact k

theorem ofNo (x : Nat) (n : Int) (w : World) (hx : Um.Word x) (h : Um.ook x n = false) : Calls Try.prog 16 #[.int .u64 x, .int .i64 n] w fun e w' => e = .returned (.tuple #[.int .i64 0, .int .i64 0, .bool false]) ∧ Below w.heap.size w w' := by
  have k := kOf_any x n w hx
  rw [Um.os_no h, Um.og_no h, h] at k
  exact k

set_option maxHeartbeats 2000000 in
theorem walkN (w : World) (x : Nat) (p q : Int) (hx : Um.Word x) :
    Calls Try.prog 7 #[.int .u64 x, .agg #[.int .i64 p, .int .i64 q]] w fun e w' => e = .returned (.bool true) ∧ Below w.heap.size w w' := by
  rcases Int.lt_trichotomy p q with hpq | rfl | hpq
  · rcases Um.greater_cases x (show p ≤ q by omega) with ⟨h1, h2, h3⟩ | ⟨h1, h2, h3⟩ | ⟨h1, h2, h3⟩
    · have H1 := hide h1
      have H2 := hide h2
      clear h1 h2
      go_enter Try.func7, Try.ntmps7
      go_wp2_with fail
      go_region
      go_wp2_with fail
      refine (ofNo x _ _ hx (unhide H1)).mono ?_
      rintro e w1 ⟨rfl, hb1⟩
      have hB1 := (((Below.refl w.heap.size w).alloc (Nat.le_refl _) _).drew).trans (hb1.mono (by simp [World.drew]))
      clear hb1
      go_wp2_with fail
      refine (ofNo x _ _ hx (unhide H2)).mono ?_
      rintro e w2 ⟨rfl, hb2⟩
      have hB2 := hB1.trans (hb2.mono hB1.size)
      clear hB1 hb2
      go_wp2_with fail
      refine (kAlive_any _).mono ?_
      rintro e w3 ⟨rfl, hb3⟩
      have hB3 := hB2.trans (hb3.mono hB2.size)
      clear hB2 hb3
      go_wp2
      go_ret
      exact ⟨rfl, hB3⟩
    · have H1 := hide h1
      have H2 := hide h2
      clear h1 h2
      go_enter Try.func7, Try.ntmps7
      go_wp2_with fail
      go_region
      go_wp2_with fail
      refine (ofYes x _ _ hx (unhide H1)).mono ?_
      rintro e w1 ⟨rfl, hb1⟩
      have hB1 := (((Below.refl w.heap.size w).alloc (Nat.le_refl _) _).drew).trans (hb1.mono (by simp [World.drew]))
      clear hb1
      go_wp2_with fail
      refine (ofYes x _ _ hx (unhide H2)).mono ?_
      rintro e w2 ⟨rfl, hb2⟩
      have hB2 := hB1.trans (hb2.mono hB1.size)
      clear hB1 hb2
      go_wp2_with fail
      refine (kAlive_any _).mono ?_
      rintro e w3 ⟨rfl, hb3⟩
      have hB3 := hB2.trans (hb3.mono hB2.size)
      clear hB2 hb3
      go_wp2
      go_ret
      exact ⟨ret_bool (by simp; try omega), hB3⟩
    · have H1 := hide h1
      have H2 := hide h2
      clear h1 h2
      go_enter Try.func7, Try.ntmps7
      go_wp2_with fail
      go_region
      go_wp2_with fail
      refine (ofNo x _ _ hx (unhide H1)).mono ?_
      rintro e w1 ⟨rfl, hb1⟩
      have hB1 := (((Below.refl w.heap.size w).alloc (Nat.le_refl _) _).drew).trans (hb1.mono (by simp [World.drew]))
      clear hb1
      go_wp2_with fail
      refine (ofYes x _ _ hx (unhide H2)).mono ?_
      rintro e w2 ⟨rfl, hb2⟩
      have hB2 := hB1.trans (hb2.mono hB1.size)
      clear hB1 hb2
      go_wp2_with fail
      refine (kAlive_any _).mono ?_
      rintro e w3 ⟨rfl, hb3⟩
      have hB3 := hB2.trans (hb3.mono hB2.size)
      clear hB2 hb3
      go_wp2
      go_ret
      exact ⟨ret_bool (by simp; try omega), hB3⟩
  · rcases Um.greater_cases x (show p ≤ p by omega) with ⟨h1, h2, h3⟩ | ⟨h1, h2, h3⟩ | ⟨h1, h2, h3⟩
    · have H1 := hide h1
      have H2 := hide h2
      clear h1 h2
      go_enter Try.func7, Try.ntmps7
      go_wp2_with fail
      go_region
      go_wp2_with fail
      refine (ofNo x _ _ hx (unhide H1)).mono ?_
      rintro e w1 ⟨rfl, hb1⟩
      have hB1 := (((Below.refl w.heap.size w).alloc (Nat.le_refl _) _).drew).trans (hb1.mono (by simp [World.drew]))
      clear hb1
      go_wp2_with fail
      refine (ofNo x _ _ hx (unhide H2)).mono ?_
      rintro e w2 ⟨rfl, hb2⟩
      have hB2 := hB1.trans (hb2.mono hB1.size)
      clear hB1 hb2
      go_wp2_with fail
      refine (kAlive_any _).mono ?_
      rintro e w3 ⟨rfl, hb3⟩
      have hB3 := hB2.trans (hb3.mono hB2.size)
      clear hB2 hb3
      go_wp2
      go_ret
      exact ⟨rfl, hB3⟩
    · have H1 := hide h1
      have H2 := hide h2
      clear h1 h2
      go_enter Try.func7, Try.ntmps7
      go_wp2_with fail
      go_region
      go_wp2_with fail
      refine (ofYes x _ _ hx (unhide H1)).mono ?_
      rintro e w1 ⟨rfl, hb1⟩
      have hB1 := (((Below.refl w.heap.size w).alloc (Nat.le_refl _) _).drew).trans (hb1.mono (by simp [World.drew]))
      clear hb1
      go_wp2_with fail
      refine (ofYes x _ _ hx (unhide H2)).mono ?_
      rintro e w2 ⟨rfl, hb2⟩
      have hB2 := hB1.trans (hb2.mono hB1.size)
      clear hB1 hb2
      go_wp2_with fail
      refine (kAlive_any _).mono ?_
      rintro e w3 ⟨rfl, hb3⟩
      have hB3 := hB2.trans (hb3.mono hB2.size)
      clear hB2 hb3
      go_wp2
      go_ret
      exact ⟨ret_bool (by simp; try omega), hB3⟩
    · rw [h1] at h2; cases h2
  · rcases Um.greater_cases x (show q ≤ p by omega) with ⟨h1, h2, h3⟩ | ⟨h1, h2, h3⟩ | ⟨h1, h2, h3⟩
    · have H1 := hide h1
      have H2 := hide h2
      clear h1 h2
      go_enter Try.func7, Try.ntmps7
      go_wp2_with fail
      go_region
      go_wp2_with fail
      refine (ofNo x _ _ hx (unhide H1)).mono ?_
      rintro e w1 ⟨rfl, hb1⟩
      have hB1 := (((Below.refl w.heap.size w).alloc (Nat.le_refl _) _).drew).trans (hb1.mono (by simp [World.drew]))
      clear hb1
      go_wp2_with fail
      refine (ofNo x _ _ hx (unhide H2)).mono ?_
      rintro e w2 ⟨rfl, hb2⟩
      have hB2 := hB1.trans (hb2.mono hB1.size)
      clear hB1 hb2
      go_wp2_with fail
      refine (kAlive_any _).mono ?_
      rintro e w3 ⟨rfl, hb3⟩
      have hB3 := hB2.trans (hb3.mono hB2.size)
      clear hB2 hb3
      go_wp2
      go_ret
      exact ⟨rfl, hB3⟩
    · have H1 := hide h1
      have H2 := hide h2
      clear h1 h2
      go_enter Try.func7, Try.ntmps7
      go_wp2_with fail
      go_region
      go_wp2_with fail
      refine (ofYes x _ _ hx (unhide H1)).mono ?_
      rintro e w1 ⟨rfl, hb1⟩
      have hB1 := (((Below.refl w.heap.size w).alloc (Nat.le_refl _) _).drew).trans (hb1.mono (by simp [World.drew]))
      clear hb1
      go_wp2_with fail
      refine (ofYes x _ _ hx (unhide H2)).mono ?_
      rintro e w2 ⟨rfl, hb2⟩
      have hB2 := hB1.trans (hb2.mono hB1.size)
      clear hB1 hb2
      go_wp2_with fail
      refine (kAlive_any _).mono ?_
      rintro e w3 ⟨rfl, hb3⟩
      have hB3 := hB2.trans (hb3.mono hB2.size)
      clear hB2 hb3
      go_wp2
      go_ret
      exact ⟨ret_bool (by simp; try omega), hB3⟩
    · have H1 := hide h1
      have H2 := hide h2
      clear h1 h2
      go_enter Try.func7, Try.ntmps7
      go_wp2_with fail
      go_region
      go_wp2_with fail
      refine (ofNo x _ _ hx (unhide H1)).mono ?_
      rintro e w1 ⟨rfl, hb1⟩
      have hB1 := (((Below.refl w.heap.size w).alloc (Nat.le_refl _) _).drew).trans (hb1.mono (by simp [World.drew]))
      clear hb1
      go_wp2_with fail
      refine (ofYes x _ _ hx (unhide H2)).mono ?_
      rintro e w2 ⟨rfl, hb2⟩
      have hB2 := hB1.trans (hb2.mono hB1.size)
      clear hB1 hb2
      go_wp2_with fail
      refine (kAlive_any _).mono ?_
      rintro e w3 ⟨rfl, hb3⟩
      have hB3 := hB2.trans (hb3.mono hB2.size)
      clear hB2 hb3
      go_wp2
      go_ret
      exact ⟨ret_bool (by simp; try omega), hB3⟩

theorem walk {H : Type} {enc : TypeId × Value → H} {base : Nat} {v : Value} {d : DataW H} {p : List MemPlace} (w : World) (a0 : Int) (w0 : (Lit.int .u64 a0).wf = true)
    (hv : Value.okWide Try.prog w .any base 34 v) (h : DataW.Trod enc Try.prog w 0 (fun _ => true) true 34 v d p) :
    Calls Try.prog 7 #[.int .u64 a0, v] w fun e w' => e = .returned (.bool true) ∧ Below w.heap.size w w' := by
  obtain ⟨x, rfl, hx⟩ := word_of w0
  obtain ⟨s, g, rfl⟩ := open_pair hv h
  exact walkN w x s g hx

set_option maxRecDepth 100000 in
theorem lifted (os : Os) (started : os.Started) (H : Type) (enc : TypeId × Value → H) :
    ReturnsInHanded {} Try.checked os 7 .any (Rows.ticketGreaterSpec.pre6 enc Try.prog Try.f7 Rows.ticketGreaterRow.domain false) (Rows.ticketGreaterSpec.post enc Try.prog Try.f7 false true false false) := by
  refine returnsInHanded_of_change (C := Try.checked) own started (by kernel_rfl) Try.func7
    (ChangeSpec.witness6 (enc := enc) (C := Try.checked) false ⟨#[], #[.int .u64 0, .agg #[.int .i64 0, .int .i64 0]], []⟩ 8 (by kernel_rfl) (by kernel_rfl) (by kernel_rfl) (by kernel_rfl)) ?_
  intro W base args ds gs before hval0 hW hcnd _
  have hval : ∀ (j : Nat) t v, Try.f7.params[j]? = some t → args[j]? = some v → Value.okWide Try.prog W .any base t v := hval0
  have hW' := hW
  obtain ⟨p, q, hA0, hV, rfl, hfz, hnd⟩ := hW
  have hA : DataW.TrodAll enc Try.prog W 0 (fun _ => true) true Try.f7.params.toList args.toList ds p := hA0
  rw [Try.params7] at hA hval
  obtain ⟨v0, vs0, d0, ds0, p0, q0, hargs, rfl, rfl, h0, r0⟩ := trodAll_cons hA
  obtain ⟨v1, vs1, d1, ds1, p1, q1, rfl, rfl, rfl, h1, r1⟩ := trodAll_cons r0
  obtain ⟨rfl, rfl, rfl⟩ := trodAll_nil r1
  obtain rfl : args = #[v0, v1] := by cases args; simp_all
  obtain ⟨rfl, rfl⟩ := trodVars_none hV
  have k0 := h0
  have lt0 : ∀ x ∈ p0, x.block < W.heap.size := by obtain ⟨m, hm⟩ := k0; exact DataW.trod_lt m _ _ _ hm
  have k1 := h1
  have lt1 : ∀ x ∈ p1, x.block < W.heap.size := by obtain ⟨m, hm⟩ := k1; exact DataW.trod_lt m _ _ _ hm
  obtain ⟨a0, rfl, hd0, hp0, w0⟩ := open_int Try.underlying22 (hval 0 22 v0 rfl rfl) h0
  refine (walk W a0 w0 (hval 1 34 v1 rfl rfl) h1).mono fun e W' ⟨he, bel⟩ => ?_
  subst he
  exact ⟨_, rfl, _, _, _, [], _, [], hW', trodAll_mk1 (shut_bool Try.underlying4 _), (trodAll_cons_mk (Below.trod laidOut (by kernel_rfl) (of_decide_eq_true (by kernel_rfl)) k0 bel lt0) (trodAll_cons_mk (Below.trod laidOut (by kernel_rfl) (of_decide_eq_true (by kernel_rfl)) k1 bel lt1) trodAll_mk0)), rfl, bel.frame _, fun h => by cases h⟩

theorem TicketGreater_proved : Rows.TicketGreaterSaid :=
  OpenClaim.holds_of_wide 7 Try.f7 rfl rfl rfl rfl rfl rfl rfl ⟨rfl, rfl, rfl, rfl, rfl⟩ rfl rfl rfl rfl rfl (by kernel_rfl) Try.func7 (by kernel_rfl)
    (of_decide_eq_true (by kernel_rfl)) (by unfold Func.isWrapper; first | (rw [if_pos (by decide +kernel)]; kernel_rfl) | (rw [if_neg (by decide +kernel)]; exact ⟨rfl, rfl⟩))
    (fun os started H enc _ => lifted os started H enc)

end Go.Proofs.Ytahddfnkodmnmaa.ticketGreater
