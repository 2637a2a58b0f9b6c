/-
  For every number and list of slots, the law TallyRises answers true: commit behind commit, each settled ahead of the next one, the number goes on by one, up to the greatest. Conditions: none.
-/
import Derived.Test.YtiokbicbooeonaaRows
import Derived.Test.YtiokbicbooeonaaTallyAlive
import Derived.WalkKit
import Derived.ProofKit
import Derived.OpenShut
import Derived.ShutString
namespace Go.Proofs.Ytiokbicbooeonaa.tallyRises
open Go.ChangeShapes Go.WideShapes Go.ChangeAt Go.RowKit
set_option linter.unusedVariables false
attribute [local go_sem] field_seq

theorem own : ownKnob Try.prog.godebug = none := by kernel_rfl
theorem laidOut : laidOutB Try.prog = true := by kernel_rfl

theorem cellsI : Try.prog.cellsOf 3 = 1 := by kernel_rfl

theorem open_slots {H : Type} {enc : TypeId × Value → H} {W : World} {base : Nat} {v : Value} {d : DataW H} {p : List MemPlace}
    (hv : Value.okWide Try.prog W .any base 37 v) (h : DataW.Trod enc Try.prog W 0 (fun _ => true) true 37 v d p) :
    (∃ a cap, v = .slice a 0 cap) ∨ ∃ (b off len cap : Nat) (X : Nat → Int), v = .slice (some ⟨b, off, none⟩) len cap ∧ 0 < len ∧ len ≤ cap ∧ cap ≤ maxLen ∧
      ∀ i, i < len → W.cell? ⟨b, off + i, none⟩ = some (.int .i64 (X i)) := by
  obtain ⟨a0, len0, cap0, rfl⟩ := okWide_slice Try.underlying37 hv
  obtain ⟨fuel, hf⟩ := h
  rcases open_ints Try.underlying37 Try.underlying3 cellsI hf with ⟨hcs, _⟩ | ⟨a, len, cap, zs, hcs, _, hl, hm, hz, _, hcell, _⟩
  · simp [Value.cells] at hcs
    obtain ⟨rfl, rfl, rfl⟩ := hcs
    exact Or.inl ⟨_, _, rfl⟩
  · simp [Value.cells] at hcs
    obtain ⟨rfl, rfl, rfl⟩ := hcs
    by_cases h0 : len0 = 0
    · subst h0
      exact Or.inl ⟨_, _, rfl⟩
    right
    have hzc : zs.length = cap0 := hz
    obtain ⟨b, off, rfl, hc⟩ := ints_at hcell (by omega)
    exact ⟨b, off, len0, cap0, fun i => zs.getD i 0, rfl, by omega, hl, hm, fun i hi => hc i (by omega)⟩

theorem lpack (s : Nat) (w : World) (b : Bool) (h : Um.tok s (-1) = b) : Calls Try.prog 9 #[.agg #[.int .u64 s, .int .i64 (-1)]] w fun e w' => e = .returned (.tuple #[.int .u64 (Um.tpack s (-1) : Nat), .bool b]) ∧ Below w.heap.size w w' := by
  have h' := tPack_any s (-1) w
  rw [h] at h'
  exact h'

theorem lnext_no (s : Nat) (q : Int) (w : World) (h : Um.tok s (-1) = true) (h' : ¬ (0 ≤ q ∧ q < 12 ∧ s < 1099511627775)) : Calls Try.prog 16 #[.int .u64 (Um.tpack s (-1) : Nat), .int .i64 q] w fun e w' => e = .returned (.tuple #[.int .u64 0, .bool false]) ∧ Below w.heap.size w w' := by
  have k := tNext_any (Um.tpack s (-1)) q w (Um.tpack_word _ _)
  rw [Um.nok_settled_no h h', Um.tnext_no (Um.nok_settled_no h h')] at k
  exact k

theorem lnext_yes (s : Nat) (q : Int) (w : World) (h : Um.tok s (-1) = true) (h' : 0 ≤ q ∧ q < 12 ∧ s < 1099511627775) : Calls Try.prog 16 #[.int .u64 (Um.tpack s (-1) : Nat), .int .i64 q] w fun e w' => e = .returned (.tuple #[.int .u64 (Um.tpack (s + 1) q : Nat), .bool true]) ∧ Below w.heap.size w w' := by
  have k := tNext_any (Um.tpack s (-1)) q w (Um.tpack_word _ _)
  rw [(Um.nok_settled h).2 h', Um.tnext_settled h h'] at k
  exact k

theorem lnext_twice (s : Nat) (q : Int) (w : World) (h : Um.tok s q = true) (h0 : 0 ≤ q) : Calls Try.prog 16 #[.int .u64 (Um.tpack s q : Nat), .int .i64 q] w fun e w' => e = .returned (.tuple #[.int .u64 0, .bool false]) ∧ Below w.heap.size w w' := by
  have k := tNext_any (Um.tpack s q) q w (Um.tpack_word _ _)
  rw [Um.nok_pending h h0, Um.tnext_no (Um.nok_pending h h0)] at k
  exact k

theorem lsettled (s : Nat) (q : Int) (w : World) (h : Um.tok s q = true) : Calls Try.prog 13 #[.int .u64 (Um.tpack s q : Nat)] w fun e w' => e = .returned (.int .u64 (Um.tpack s (-1) : Nat)) ∧ w' = w := by
  have k := tSettled_any (Um.tpack s q) w (Um.tpack_word _ _)
  rw [Um.setl_tpack h] at k
  exact k

theorem lunpack (s : Nat) (w : World) (h : Um.tok s (-1) = true) : Calls Try.prog 12 #[.int .u64 (Um.tpack s (-1) : Nat)] w fun e w' => e = .returned (.agg #[.int .u64 s, .int .i64 (-1)]) ∧ Below w.heap.size w w' := by
  have k := tUnpack_any (Um.tpack s (-1)) w (Um.tpack_word _ _)
  rw [Um.tpack_seq h, Um.tpack_pending h] at k
  exact k

set_option maxHeartbeats 4000000 in
theorem walkN (w : World) (s : Nat) (b off len cap : Nat) (X : Nat → Int) (h0 : 0 < len) (hlc : len ≤ cap) (hm : cap ≤ maxLen) (h100 : len ≤ 100) (hok : s ≤ 1099511627775)
    (hcell : ∀ i, i < len → w.cell? ⟨b, off + i, none⟩ = some (.int .i64 (X i))) :
    Calls Try.prog 6 #[.int .u64 s, .slice (some ⟨b, off, none⟩) len cap] w fun e w' => e = .returned (.bool true) ∧ Below w.heap.size w w' := by
  unfold maxLen at hm
  have HC := hide hcell
  clear hcell
  have htok : Um.tok s (-1) = true := Um.tok_iff.2 (by omega)
  go_enter Try.func6, Try.ntmps6
  go_wp2_with fail
  refine (lpack _ _ _ htok).mono ?_
  rintro e w0 ⟨rfl, hb0⟩
  go_wp2_with fail
  go_loopw [5, 29] (fun u5 i wr => ∃ k : Nat, k ≤ len ∧ s + k ≤ 1099511627775 ∧ i = .int .i64 k ∧ u5 = .int .u64 (Um.tpack (s + k) (-1) : Nat) ∧ Below w.heap.size w wr) (fun _ i _ => len - (intOf i).toNat)
  case atStart => exact ⟨0, by omega, by omega, rfl, rfl, hb0⟩
  case round =>
    rename_i wr
    obtain ⟨k, hk, hsk, rfl, rfl, hb⟩ := hrel
    have htk : Um.tok (s + k) (-1) = true := Um.tok_iff.2 (by omega)
    by_cases hlt : k < len
    · have c0 := (unhide HC) k hlt
      have hbl : b < w.heap.size := block_lt_of_cell c0
      have d0 := (hb.cell (p := ⟨b, off + k, none⟩) hbl).trans c0
      have hbr : b < wr.heap.size := Nat.lt_of_lt_of_le hbl hb.size
      clear c0
      have hkl : (k : Int) < (len : Int) := by omega
      have hsI : (s : Int) + (k : Int) ≤ 1099511627775 := by omega
      generalize X k = q at *
      by_cases hall : 0 ≤ q ∧ q < 12 ∧ s + k < 1099511627775
      · have ht2 : Um.tok (s + k + 1) q = true := Um.tok_iff.2 (by omega)
        have ht3 : Um.tok (s + k + 1) (-1) = true := Um.tok_iff.2 (by omega)
        have hall' := hall
        obtain ⟨q0, q1, q2⟩ := hall'
        have hsI2 : (s : Int) + (k : Int) < 1099511627775 := by omega
        have HA := hide hall
        clear hall
        go_wp2_with fail
        refine (lnext_yes _ _ _ htk (unhide HA)).mono ?_
        rintro e w1 ⟨rfl, hb1⟩
        have hB1 := hb.trans (hb1.mono hb.size)
        clear hb1
        go_wp2_with fail
        refine (lnext_twice _ _ _ ht2 q0).mono ?_
        rintro e w2 ⟨rfl, hb2⟩
        have hB2 := hB1.trans (hb2.mono hB1.size)
        clear hb2 hB1
        go_wp2_with fail
        refine (lsettled _ _ _ ht2).mono ?_
        rintro e w3 ⟨rfl, rfl⟩
        go_wp2_with fail
        refine (lunpack _ _ ht3).mono ?_
        rintro e w4 ⟨rfl, hb4⟩
        have hB4 := hB2.trans (hb4.mono hB2.size)
        clear hb4 hB2
        go_wp2
        exact ⟨⟨k + 1, by omega, by omega, by go_num, rfl, hB4⟩, by simp [intOf]; omega⟩
      · have HA := hide hall
        have hcase : q < 0 ∨ (0 ≤ q ∧ 12 ≤ q) ∨ (0 ≤ q ∧ q < 12 ∧ (s : Int) + (k : Int) = 1099511627775) := by omega
        clear hall
        rcases hcase with q0 | ⟨q0, q1⟩ | ⟨q0, q1, q2⟩
        all_goals
          go_wp2_with fail
          refine (lnext_no _ _ _ htk (unhide HA)).mono ?_
          rintro e w1 ⟨rfl, hb1⟩
          have hB1 := hb.trans (hb1.mono hb.size)
          clear hb1
          go_wp2_with fail
          refine (tAlive_any _).mono ?_
          rintro e w2 ⟨rfl, hb2⟩
          go_wp2
          go_ret
          exact ⟨rfl, hB1.trans (hb2.mono hB1.size)⟩
    · obtain rfl : k = len := by omega
      go_wp2_with fail
      refine (tAlive_any _).mono ?_
      rintro e w2 ⟨rfl, hb2⟩
      go_wp2
      go_ret
      exact ⟨rfl, hb.trans (hb2.mono hb.size)⟩

set_option maxHeartbeats 2000000 in
theorem walkE (w : World) (s : Nat) (a : Option Addr) (cap : Nat) (hok : s ≤ 1099511627775) :
    Calls Try.prog 6 #[.int .u64 s, .slice a 0 cap] w fun e w' => e = .returned (.bool true) ∧ Below w.heap.size w w' := by
  have htok : Um.tok s (-1) = true := Um.tok_iff.2 (by omega)
  go_enter Try.func6, Try.ntmps6
  go_wp2_with fail
  refine (lpack _ _ _ htok).mono ?_
  rintro e w0 ⟨rfl, hb0⟩
  go_wp2_with fail
  go_loopw [5, 29] (fun u5 i wr => i = .int .i64 0 ∧ Below w.heap.size w wr) (fun _ _ _ => 0)
  case atStart => exact ⟨rfl, hb0⟩
  case round =>
    obtain ⟨rfl, hb⟩ := hrel
    go_wp2_with fail
    refine (tAlive_any _).mono ?_
    rintro e w2 ⟨rfl, hb2⟩
    go_wp2
    go_ret
    exact ⟨rfl, hb.trans (hb2.mono hb.size)⟩

set_option maxHeartbeats 2000000 in
theorem walkL (w : World) (s : Nat) (a : Option Addr) (len cap : Nat) (h : 100 < len) (hm : len ≤ maxLen) (hok : s ≤ 1099511627775) :
    Calls Try.prog 6 #[.int .u64 s, .slice a len cap] w fun e w' => e = .returned (.bool true) ∧ Below w.heap.size w w' := by
  unfold maxLen at hm
  have h' : (100 : Int) < (len : Int) := by omega
  have htok : Um.tok s (-1) = true := Um.tok_iff.2 (by omega)
  go_enter Try.func6, Try.ntmps6
  go_wp2_with fail
  refine (lpack _ _ _ htok).mono ?_
  rintro e w0 ⟨rfl, hb0⟩
  go_wp2_with fail
  refine (tAlive_any _).mono ?_
  rintro e w2 ⟨rfl, hb2⟩
  go_wp2
  go_ret
  exact ⟨rfl, hb0.trans (hb2.mono hb0.size)⟩

set_option maxHeartbeats 2000000 in
theorem walkZ (w : World) (s : Nat) (v : Value) (hok : ¬ s ≤ 1099511627775) :
    Calls Try.prog 6 #[.int .u64 s, v] w fun e w' => e = .returned (.bool true) ∧ Below w.heap.size w w' := by
  have htok : Um.tok s (-1) = false := Um.tok_no.2 (by omega)
  go_enter Try.func6, Try.ntmps6
  go_wp2_with fail
  refine (lpack _ _ _ htok).mono ?_
  rintro e w0 ⟨rfl, hb0⟩
  go_wp2_with fail
  refine (tAlive_any _).mono ?_
  rintro e w2 ⟨rfl, hb2⟩
  go_wp2
  go_ret
  exact ⟨rfl, hb0.trans (hb2.mono hb0.size)⟩

theorem walk {H : Type} {enc : TypeId × Value → H} {base : Nat} {v : Value} {d : DataW H} {p : List MemPlace} (w : World) (a0 : Int) (w0 : (Lit.int .u64 a0).wf = true)
    (hv : Value.okWide Try.prog w .any base 37 v) (h : DataW.Trod enc Try.prog w 0 (fun _ => true) true 37 v d p) :
    Calls Try.prog 6 #[.int .u64 a0, v] w fun e w' => e = .returned (.bool true) ∧ Below w.heap.size w w' := by
  obtain ⟨x, rfl, hx⟩ := word_of w0
  by_cases hok : x ≤ 1099511627775
  · rcases open_slots hv h with ⟨a, cap, rfl⟩ | ⟨b, off, len, cap, X, rfl, h0, hl, hm, hc⟩
    · exact walkE w x a cap hok
    · by_cases h100 : len ≤ 100
      · exact walkN w x b off len cap X h0 hl hm h100 hok hc
      · exact walkL w x _ len cap (by omega) (by omega) hok
  · exact walkZ w x v hok

set_option maxRecDepth 100000 in
theorem lifted (os : Os) (started : os.Started) (H : Type) (enc : TypeId × Value → H) :
    ReturnsInHanded {} Try.checked os 6 .any (Rows.tallyRisesSpec.pre6 enc Try.prog Try.f6 Rows.tallyRisesRow.domain false) (Rows.tallyRisesSpec.post enc Try.prog Try.f6 false true false false) := by
  refine returnsInHanded_of_change (C := Try.checked) own started (by kernel_rfl) Try.func6
    (ChangeSpec.witness6 (enc := enc) (C := Try.checked) false ⟨#[], #[.int .u64 0, .slice none 0 0], []⟩ 8 (by kernel_rfl) (by kernel_rfl) (by kernel_rfl) (by kernel_rfl)) ?_
  intro W base args ds gs before hval0 hW hcnd _
  have hval : ∀ (j : Nat) t v, Try.f6.params[j]? = some t → args[j]? = some v → Value.okWide Try.prog W .any base t v := hval0
  have hW' := hW
  obtain ⟨p, q, hA0, hV, rfl, hfz, hnd⟩ := hW
  have hA : DataW.TrodAll enc Try.prog W 0 (fun _ => true) true Try.f6.params.toList args.toList ds p := hA0
  rw [Try.params6] at hA hval
  obtain ⟨v0, vs0, d0, ds0, p0, q0, hargs, rfl, rfl, h0, r0⟩ := trodAll_cons hA
  obtain ⟨v1, vs1, d1, ds1, p1, q1, rfl, rfl, rfl, h1, r1⟩ := trodAll_cons r0
  obtain ⟨rfl, rfl, rfl⟩ := trodAll_nil r1
  obtain rfl : args = #[v0, v1] := by cases args; simp_all
  obtain ⟨rfl, rfl⟩ := trodVars_none hV
  have k0 := h0
  have lt0 : ∀ x ∈ p0, x.block < W.heap.size := by obtain ⟨m, hm⟩ := k0; exact DataW.trod_lt m _ _ _ hm
  have k1 := h1
  have lt1 : ∀ x ∈ p1, x.block < W.heap.size := by obtain ⟨m, hm⟩ := k1; exact DataW.trod_lt m _ _ _ hm
  obtain ⟨a0, rfl, hd0, hp0, w0⟩ := open_int Try.underlying22 (hval 0 22 v0 rfl rfl) h0
  refine (walk W a0 w0 (hval 1 37 v1 rfl rfl) h1).mono fun e W' ⟨he, bel⟩ => ?_
  subst he
  exact ⟨_, rfl, _, _, _, [], _, [], hW', trodAll_mk1 (shut_bool Try.underlying4 _), (trodAll_cons_mk (Below.trod laidOut (by kernel_rfl) (of_decide_eq_true (by kernel_rfl)) k0 bel lt0) (trodAll_cons_mk (Below.trod laidOut (by kernel_rfl) (of_decide_eq_true (by kernel_rfl)) k1 bel lt1) trodAll_mk0)), rfl, bel.frame _, fun h => by cases h⟩

theorem TallyRises_proved : Rows.TallyRisesSaid :=
  OpenClaim.holds_of_wide 6 Try.f6 rfl rfl rfl rfl rfl rfl rfl ⟨rfl, rfl, rfl, rfl, rfl⟩ rfl rfl rfl rfl rfl (by kernel_rfl) Try.func6 (by kernel_rfl)
    (of_decide_eq_true (by kernel_rfl)) (by unfold Func.isWrapper; first | (rw [if_pos (by decide +kernel)]; kernel_rfl) | (rw [if_neg (by decide +kernel)]; exact ⟨rfl, rfl⟩))
    (fun os started H enc _ => lifted os started H enc)

end Go.Proofs.Ytiokbicbooeonaa.tallyRises
