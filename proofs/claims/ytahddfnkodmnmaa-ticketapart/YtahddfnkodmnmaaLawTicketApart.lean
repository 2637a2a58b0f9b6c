/-
  For all two pairs of a slot and a generation, the law TicketApart answers true: their tickets are the same just if slot and generation are. Conditions: none.
-/
import Derived.Test.YtahddfnkodmnmaaRows
import Derived.Test.YtahddfnkodmnmaaTicketAlive
import Derived.Test.YtahddfnkodmnmaaOpenPair
import Derived.WalkKit
import Derived.ProofKit
import Derived.OpenShut
import Derived.ShutString
namespace Go.Proofs.Ytahddfnkodmnmaa.ticketApart
open Go.ChangeShapes Go.WideShapes Go.ChangeAt Go.RowKit
set_option linter.unusedVariables false

theorem own : ownKnob Try.prog.godebug = none := by kernel_rfl
theorem laidOut : laidOutB Try.prog = true := by kernel_rfl

set_option maxHeartbeats 2000000 in
theorem walkN (w : World) (s g t r : Int) :
    Calls Try.prog 6 #[.agg #[.int .i64 s, .int .i64 g], .agg #[.int .i64 t, .int .i64 r]] w fun e w' => e = .returned (.bool true) ∧ Below w.heap.size w w' := by
  have hz : w.heap.size < w.heap.size + 2 := by omega
  have hp := eqPairI s g t r
  have hM := kMake_any s g
  have hN := kMake_any t r
  have hinj := fun h1 h2 => Um.mk_inj (s := s) (t := t) (g := g) (r := r) h1 h2
  generalize Um.mkN s g = u at *
  generalize Um.mkN t r = v at *
  generalize Um.mok s g = b at *
  generalize Um.mok t r = c at *
  have HI := hide hinj
  clear hinj
  go_enter Try.func6, Try.ntmps6
  go_wp2_with fail
  refine (hM _).mono ?_
  rintro e w1 ⟨rfl, hb1⟩
  obtain ⟨hc1, hf1⟩ := bcell hb1
  have hz1 : w.heap.size + 1 < w1.heap.size := by have := hb1.size; simp at this; omega
  have hy1 : w.heap.size < w1.heap.size := by omega
  go_wp2_with fail
  refine (hN _).mono ?_
  rintro e w2 ⟨rfl, hb2⟩
  obtain ⟨hc2, hf2⟩ := bcell hb2
  have hz2 : w.heap.size + 1 < w2.heap.size := by have := hb2.size; omega
  have hy2 : w.heap.size < w2.heap.size := by omega
  have hB : Below w.heap.size w w2 := ((((Below.refl w.heap.size w).alloc (Nat.le_refl _) _).alloc (by simp) _).trans (hb1.mono (by simp; omega))).trans (hb2.mono (by omega))
  go_wp2_with fail
  refine (kAlive_any _).mono ?_
  rintro e w3 ⟨rfl, hb3⟩
  obtain ⟨hc3, hf3⟩ := bcell hb3
  have hB3 := hB.trans (hb3.mono hB.size)
  have hk0 : w3.cell? ⟨w.heap.size, 0, none⟩ = some (.int .i64 s) := by go_simp
  have hk1 : w3.cell? ⟨w.heap.size, 1, none⟩ = some (.int .i64 g) := by go_simp
  have hk2 : w3.cell? ⟨w.heap.size + 1, 0, none⟩ = some (.int .i64 t) := by go_simp
  have hk3 : w3.cell? ⟨w.heap.size + 1, 1, none⟩ = some (.int .i64 r) := by go_simp
  clear hc1 hf1 hc2 hf2 hc3 hf3 hb1 hb2 hb3 hz1 hy1 hz2 hy2 hB hz
  cases b
  · go_wp2
    go_ret
    exact ⟨rfl, hB3⟩
  · cases c
    · go_wp2
      go_ret
      exact ⟨rfl, hB3⟩
    · go_wp2
      go_ret
      refine ⟨ret_bool ?_, hB3⟩
      have hinj := unhide HI
      simp only [true_implies] at hinj
      rw [beq_iff_eq, Bool.eq_iff_iff, beq_iff_eq, Bool.and_eq_true, decide_eq_true_iff, decide_eq_true_iff]
      omega

theorem walk {H : Type} {enc : TypeId × Value → H} {base : Nat} {v u : Value} {d d' : DataW H} {p p' : List MemPlace} (w : World)
    (hv : Value.okWide Try.prog w .any base 34 v) (h : DataW.Trod enc Try.prog w 0 (fun _ => true) true 34 v d p)
    (hu : Value.okWide Try.prog w .any base 34 u) (h' : DataW.Trod enc Try.prog w 0 (fun _ => true) true 34 u d' p') :
    Calls Try.prog 6 #[v, u] w fun e w' => e = .returned (.bool true) ∧ Below w.heap.size w w' := by
  obtain ⟨s, g, rfl⟩ := open_pair hv h
  obtain ⟨t, r, rfl⟩ := open_pair hu h'
  exact walkN w s g t r

set_option maxRecDepth 100000 in
theorem lifted (os : Os) (started : os.Started) (H : Type) (enc : TypeId × Value → H) :
    ReturnsInHanded {} Try.checked os 6 .any (Rows.ticketApartSpec.pre6 enc Try.prog Try.f6 Rows.ticketApartRow.domain false) (Rows.ticketApartSpec.post enc Try.prog Try.f6 false true false false) := by
  refine returnsInHanded_of_change (C := Try.checked) own started (by kernel_rfl) Try.func6
    (ChangeSpec.witness6 (enc := enc) (C := Try.checked) false ⟨#[], #[.agg #[.int .i64 0, .int .i64 0], .agg #[.int .i64 0, .int .i64 0]], []⟩ 8 (by kernel_rfl) (by kernel_rfl) (by kernel_rfl) (by kernel_rfl)) ?_
  intro W base args ds gs before hval0 hW hcnd _
  have hval : ∀ (j : Nat) t v, Try.f6.params[j]? = some t → args[j]? = some v → Value.okWide Try.prog W .any base t v := hval0
  have hW' := hW
  obtain ⟨p, q, hA0, hV, rfl, hfz, hnd⟩ := hW
  have hA : DataW.TrodAll enc Try.prog W 0 (fun _ => true) true Try.f6.params.toList args.toList ds p := hA0
  rw [Try.params6] at hA hval
  obtain ⟨v0, vs0, d0, ds0, p0, q0, hargs, rfl, rfl, h0, r0⟩ := trodAll_cons hA
  obtain ⟨v1, vs1, d1, ds1, p1, q1, rfl, rfl, rfl, h1, r1⟩ := trodAll_cons r0
  obtain ⟨rfl, rfl, rfl⟩ := trodAll_nil r1
  obtain rfl : args = #[v0, v1] := by cases args; simp_all
  obtain ⟨rfl, rfl⟩ := trodVars_none hV
  have k0 := h0
  have lt0 : ∀ x ∈ p0, x.block < W.heap.size := by obtain ⟨m, hm⟩ := k0; exact DataW.trod_lt m _ _ _ hm
  have k1 := h1
  have lt1 : ∀ x ∈ p1, x.block < W.heap.size := by obtain ⟨m, hm⟩ := k1; exact DataW.trod_lt m _ _ _ hm
  refine (walk W (hval 0 34 v0 rfl rfl) h0 (hval 1 34 v1 rfl rfl) h1).mono fun e W' ⟨he, bel⟩ => ?_
  subst he
  exact ⟨_, rfl, _, _, _, [], _, [], hW', trodAll_mk1 (shut_bool Try.underlying4 _), (trodAll_cons_mk (Below.trod laidOut (by kernel_rfl) (of_decide_eq_true (by kernel_rfl)) k0 bel lt0) (trodAll_cons_mk (Below.trod laidOut (by kernel_rfl) (of_decide_eq_true (by kernel_rfl)) k1 bel lt1) trodAll_mk0)), rfl, bel.frame _, fun h => by cases h⟩

theorem TicketApart_proved : Rows.TicketApartSaid :=
  OpenClaim.holds_of_wide 6 Try.f6 rfl rfl rfl rfl rfl rfl rfl ⟨rfl, rfl, rfl, rfl, rfl⟩ rfl rfl rfl rfl rfl (by kernel_rfl) Try.func6 (by kernel_rfl)
    (of_decide_eq_true (by kernel_rfl)) (by unfold Func.isWrapper; first | (rw [if_pos (by decide +kernel)]; kernel_rfl) | (rw [if_neg (by decide +kernel)]; exact ⟨rfl, rfl⟩))
    (fun os started H enc _ => lifted os started H enc)

end Go.Proofs.Ytahddfnkodmnmaa.ticketApart
