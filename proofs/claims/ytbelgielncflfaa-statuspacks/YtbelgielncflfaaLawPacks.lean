/-
  For every status, the law StatusPacks answers true: its word, or that there is none, is what the document's own answer says; it is unpacked as that status. Conditions: none.
-/
import Derived.Test.YtbelgielncflfaaRows
import Derived.Test.YtbelgielncflfaaAlive
import Derived.WalkKit
import Derived.ProofKit
import Derived.OpenShut
import Derived.ShutString
import Derived.Lib.QuietBelow
namespace Go.Proofs.Ytbelgielncflfaa.statusPacks
open Go.ChangeShapes Go.WideShapes Go.ChangeAt Go.RowKit Go.Sort
set_option linter.unusedVariables false
attribute [local go_sem] alloc_drewN setCell_drewN

theorem own : ownKnob Try.prog.godebug = none := by kernel_rfl
theorem laidOut : laidOutB Try.prog = true := by kernel_rfl

theorem array7 {α : Type} {cs : Array α} (h : cs.size = 7) : ∃ c0 c1 c2 c3 c4 c5 c6, cs = #[c0, c1, c2, c3, c4, c5, c6] := by
  obtain ⟨l⟩ := cs
  match l, h with
  | [c0, c1, c2, c3, c4, c5, c6], _ => exact ⟨c0, c1, c2, c3, c4, c5, c6, rfl⟩

theorem list7 {α : Type} {cs : List α} (h : cs.length = 7) : ∃ c0 c1 c2 c3 c4 c5 c6, cs = [c0, c1, c2, c3, c4, c5, c6] := by
  match cs, h with
  | [c0, c1, c2, c3, c4, c5, c6], _ => exact ⟨c0, c1, c2, c3, c4, c5, c6, rfl⟩

theorem cellsS : Try.prog.cellsOf 23 = 7 := by kernel_rfl
theorem cellsI : Try.prog.cellsOf 3 = 1 := by kernel_rfl
theorem cellsB : Try.prog.cellsOf 4 = 1 := by kernel_rfl

theorem open_status {H : Type} {enc : TypeId × Value → H} {W : World} {base : Nat} {v : Value} {d : DataW H} {p : List MemPlace}
    (hv : Value.okWide Try.prog W .any base 23 v) (h : DataW.Trod enc Try.prog W 0 (fun _ => true) true 23 v d p) :
    ∃ (g st : Int) (b i o : Bool) (n t : Int), v = .agg #[.int .i64 g, .int .i64 st, .bool b, .bool i, .bool o, .int .i64 n, .int .i64 t] := by
  obtain ⟨cs, rfl, hsz⟩ := okWide_struct Try.underlying23 hv
  obtain ⟨c0, c1, c2, c3, c4, c5, c6, rfl⟩ := array7 (hsz.trans cellsS)
  obtain ⟨fuel, hf⟩ := h
  obtain ⟨xs, n, _, _, hl, hlen, hx⟩ := DataW.trod_struct Try.underlying23 hf
  obtain ⟨y0, y1, y2, y3, y4, y5, y6, rfl⟩ := list7 hlen
  obtain ⟨g, e0, _, _⟩ := DataW.trod_int Try.underlying3 (hx 0 _ rfl)
  obtain ⟨st, e1, _, _⟩ := DataW.trod_int Try.underlying3 (hx 1 _ rfl)
  obtain ⟨b, e2, _⟩ := DataW.trod_bool Try.underlying4 (hx 2 _ rfl)
  obtain ⟨i, e3, _⟩ := DataW.trod_bool Try.underlying4 (hx 3 _ rfl)
  obtain ⟨o, e4, _⟩ := DataW.trod_bool Try.underlying4 (hx 4 _ rfl)
  obtain ⟨m, e5, _, _⟩ := DataW.trod_int Try.underlying3 (hx 5 _ rfl)
  obtain ⟨t, e6, _, _⟩ := DataW.trod_int Try.underlying3 (hx 6 _ rfl)
  simp [Value.cells, cellsI, cellsB] at e0 e1 e2 e3 e4 e5 e6
  subst e0 e1 e2 e3 e4 e5 e6
  exact ⟨g, st, b, i, o, m, t, rfl⟩

set_option maxHeartbeats 2000000 in
theorem walkN (w : World) (g st : Int) (b i o : Bool) (n t : Int) :
    Calls Try.prog 3 #[.agg #[.int .i64 g, .int .i64 st, .bool b, .bool i, .bool o, .int .i64 n, .int .i64 t]] w fun e w' => e = .returned (.bool true) ∧ Below w.heap.size w w' := by
  go_enter Try.func3, Try.ntmps3
  go_wp2_with fail
  refine (pack_any _ _ _ _ _ _ _ _).mono ?_
  rintro e w1 ⟨rfl, hb1⟩
  obtain ⟨hc1, hf1⟩ := bcell hb1
  have hz1 : w.heap.size < w1.heap.size := by have := hb1.size; simp at this; omega
  go_wp2_with fail
  refine (refPack_any _ _ _ _ _ _ _ _).mono ?_
  rintro e w2 ⟨rfl, hb2⟩
  obtain ⟨hc2, hf2⟩ := bcell hb2
  have hz2 : w.heap.size < w2.heap.size := by have := hb2.size; omega
  have hk0 : ∀ d os, (grow (redrawn w2 d) os).cell? ⟨w.heap.size, 0, none⟩ = some (.int .i64 g) := fun d os => cell_regrown (by go_simp) d os
  have hk1 : ∀ d os, (grow (redrawn w2 d) os).cell? ⟨w.heap.size, 1, none⟩ = some (.int .i64 st) := fun d os => cell_regrown (by go_simp) d os
  have hk2 : ∀ d os, (grow (redrawn w2 d) os).cell? ⟨w.heap.size, 2, none⟩ = some (.bool b) := fun d os => cell_regrown (by go_simp) d os
  have hk3 : ∀ d os, (grow (redrawn w2 d) os).cell? ⟨w.heap.size, 3, none⟩ = some (.bool i) := fun d os => cell_regrown (by go_simp) d os
  have hk4 : ∀ d os, (grow (redrawn w2 d) os).cell? ⟨w.heap.size, 4, none⟩ = some (.bool o) := fun d os => cell_regrown (by go_simp) d os
  have hk5 : ∀ d os, (grow (redrawn w2 d) os).cell? ⟨w.heap.size, 5, none⟩ = some (.int .i64 n) := fun d os => cell_regrown (by go_simp) d os
  have hk6 : ∀ d os, (grow (redrawn w2 d) os).cell? ⟨w.heap.size, 6, none⟩ = some (.int .i64 t) := fun d os => cell_regrown (by go_simp) d os
  have hB : Below w.heap.size w w2 := (((Below.refl w.heap.size w).alloc (Nat.le_refl _) _).trans (hb1.mono (by simp))).trans (hb2.mono (by omega))
  clear hc1 hf1 hc2 hf2 hb1 hb2 hz1 hz2
  cases hok : Um.okSt g st n t
  · generalize Um.packV g st b i o n t = v at *
    go_wp2_with fail
    refine wp_region_quiet_below (by kernel_rfl) (by kernel_rfl) ?_
    repeat (go_big_quiet_step (first
      | (go_at_call 12; exact Calls.regrown_of (alive_any _))))
    refine wpQuiet_nil ?_
    intro _ hw'
    obtain ⟨⟨dq, osq⟩, hw''⟩ := hw'
    subst hw''
    go_wp2
    go_ret
    exact ⟨rfl, hB.trans ((below_regrown w2 dq osq).mono hB.size)⟩
  · have hwd : Um.Word (Um.packV g st b i o n t) := by rw [Um.packV_yes hok]; exact Um.pack_word hok
    have heq : ∀ w, (binOp .eql 23 (.agg #[.int .i64 (Um.part (Um.packV g st b i o n t) 30 32), .int .i64 (Um.part (Um.packV g st b i o n t) 27 3), .bool ((Um.packV g st b i o n t).testBit 26), .bool ((Um.packV g st b i o n t).testBit 25), .bool ((Um.packV g st b i o n t).testBit 24), .int .i64 (Um.part (Um.packV g st b i o n t) 12 12), .int .i64 (Um.part (Um.packV g st b i o n t) 0 12)]) (.agg #[.int .i64 g, .int .i64 st, .bool b, .bool i, .bool o, .int .i64 n, .int .i64 t])).run Try.prog w = .ok (.bool true) w := by
      apply eqlStatus _ (Or.inr rfl)
      rw [Um.packV_yes hok]
      obtain ⟨h1, h2, h3, h4, h5, h6, h7⟩ := Um.pack_parts (b := b) (i := i) (o := o) hok
      have hh := Um.okSt_iff.1 hok
      rw [h1, h2, h3, h4, h5, h6, h7]
      simp
      omega
    generalize Um.packV g st b i o n t = v at *
    go_wp2_with fail
    refine wp_region_quiet_below (by kernel_rfl) (by kernel_rfl) ?_
    repeat (go_big_quiet_step (first
      | (go_at_call 12; exact Calls.regrown_of (alive_any _))
      | (go_at_call 13; exact Calls.regrown_of (unpack_any _ _ hwd))))
    refine wpQuiet_nil ?_
    intro _ hw'
    obtain ⟨⟨dq, osq⟩, hw''⟩ := hw'
    subst hw''
    go_wp2
    go_ret
    exact ⟨rfl, hB.trans ((below_regrown w2 dq osq).mono hB.size)⟩

theorem walk {H : Type} {enc : TypeId × Value → H} {base : Nat} {v : Value} {d : DataW H} {p : List MemPlace} (w : World)
    (hv : Value.okWide Try.prog w .any base 23 v) (h : DataW.Trod enc Try.prog w 0 (fun _ => true) true 23 v d p) :
    Calls Try.prog 3 #[v] w fun e w' => e = .returned (.bool true) ∧ Below w.heap.size w w' := by
  obtain ⟨g, st, b, i, o, n, t, rfl⟩ := open_status hv h
  exact walkN w g st b i o n t

set_option maxRecDepth 100000 in
theorem lifted (os : Os) (started : os.Started) (H : Type) (enc : TypeId × Value → H) :
    ReturnsInHanded {} Try.checked os 3 .any (Rows.statusPacksSpec.pre6 enc Try.prog Try.f3 Rows.statusPacksRow.domain false) (Rows.statusPacksSpec.post enc Try.prog Try.f3 false true false false) := by
  refine returnsInHanded_of_change (C := Try.checked) own started (by kernel_rfl) Try.func3
    (ChangeSpec.witness6 (enc := enc) (C := Try.checked) false ⟨#[], #[.agg #[.int .i64 0, .int .i64 0, .bool false, .bool false, .bool false, .int .i64 0, .int .i64 0]], []⟩ 8 (by kernel_rfl) (by kernel_rfl) (by kernel_rfl) (by kernel_rfl)) ?_
  intro W base args ds gs before hval0 hW hcnd _
  have hval : ∀ (j : Nat) t v, Try.f3.params[j]? = some t → args[j]? = some v → Value.okWide Try.prog W .any base t v := hval0
  have hW' := hW
  obtain ⟨p, q, hA0, hV, rfl, hfz, hnd⟩ := hW
  have hA : DataW.TrodAll enc Try.prog W 0 (fun _ => true) true Try.f3.params.toList args.toList ds p := hA0
  rw [Try.params3] at hA hval
  obtain ⟨v0, vs0, d0, ds0, p0, q0, hargs, rfl, rfl, h0, r0⟩ := trodAll_cons hA
  obtain ⟨rfl, rfl, rfl⟩ := trodAll_nil r0
  obtain rfl : args = #[v0] := by cases args; simp_all
  obtain ⟨rfl, rfl⟩ := trodVars_none hV
  have k0 := h0
  have lt0 : ∀ x ∈ p0, x.block < W.heap.size := by obtain ⟨m, hm⟩ := k0; exact DataW.trod_lt m _ _ _ hm
  refine (walk W (hval 0 23 v0 rfl rfl) h0).mono fun e W' ⟨he, bel⟩ => ?_
  subst he
  exact ⟨_, rfl, _, _, _, [], _, [], hW', trodAll_mk1 (shut_bool Try.underlying4 _), (trodAll_cons_mk (Below.trod laidOut (by kernel_rfl) (of_decide_eq_true (by kernel_rfl)) k0 bel lt0) trodAll_mk0), rfl, bel.frame _, fun h => by cases h⟩

theorem StatusPacks_proved : Rows.StatusPacksSaid :=
  OpenClaim.holds_of_wide 3 Try.f3 rfl rfl rfl rfl rfl rfl rfl ⟨rfl, rfl, rfl, rfl, rfl⟩ rfl rfl rfl rfl rfl (by kernel_rfl) Try.func3 (by kernel_rfl)
    (of_decide_eq_true (by kernel_rfl)) (by unfold Func.isWrapper; first | (rw [if_pos (by decide +kernel)]; kernel_rfl) | (rw [if_neg (by decide +kernel)]; exact ⟨rfl, rfl⟩))
    (fun os started H enc _ => lifted os started H enc)

end Go.Proofs.Ytbelgielncflfaa.statusPacks
