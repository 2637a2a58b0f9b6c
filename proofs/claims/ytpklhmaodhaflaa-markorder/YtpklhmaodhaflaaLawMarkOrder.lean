/-
  For every word and list of kinds and slots, the law MarkOrder answers true: marks, laid one by one, make the same word in whatever order; so do slots that are dropped. Conditions: none.
-/
import Derived.Test.YtpklhmaodhaflaaRows
import Derived.Test.YtpklhmaodhaflaaMarkAlive
import Derived.Test.YtpklhmaodhaflaaFold
import Derived.WalkKit
import Derived.ProofKit
import Derived.OpenShut
import Derived.ShutString
import Derived.Lib.QuietBelow
import Derived.Deep.Slices
import Derived.RegionTactic
import Derived.BigRegion
namespace Go.Proofs.Ytpklhmaodhaflaa.markOrder
open Go.ChangeShapes Go.WideShapes Go.ChangeAt Go.RowKit Go.Sort
set_option linter.unusedVariables false
attribute [local go_sem] alloc_drewN setCell_drewN

theorem own : ownKnob Try.prog.godebug = none := by kernel_rfl
theorem laidOut : laidOutB Try.prog = true := by kernel_rfl

theorem cellsA : Try.prog.cellsOf 32 = 2 := by kernel_rfl
theorem cellsI : Try.prog.cellsOf 3 = 1 := by kernel_rfl

theorem open_pairs {H : Type} {enc : TypeId × Value → H} {W : World} {base : Nat} {v : Value} {d : DataW H} {p : List MemPlace}
    (hv : Value.okWide Try.prog W .any base 35 v) (h : DataW.Trod enc Try.prog W 0 (fun _ => true) true 35 v d p) :
    (∃ a cap, v = .slice a 0 cap) ∨ ∃ (b off len cap : Nat) (X Y : Nat → Int), v = .slice (some ⟨b, off, none⟩) len cap ∧ 0 < len ∧ len ≤ cap ∧ cap ≤ maxLen ∧
      ∀ i, i < len → W.cell? ⟨b, off + i * 2, none⟩ = some (.int .i64 (X i)) ∧ W.cell? ⟨b, off + (i * 2 + 1), none⟩ = some (.int .i64 (Y i)) := by
  obtain ⟨a0, len0, cap0, rfl⟩ := okWide_slice Try.underlying35 hv
  obtain ⟨fuel, hf⟩ := h
  rcases Deep.open_slice Try.underlying35 hf with ⟨hcs, _⟩ | ⟨a, len, cap, m, n, D, Pl, hcs, _, hl, hm, hmm, _, hx⟩
  · simp [Value.cells] at hcs
    obtain ⟨rfl, rfl, rfl⟩ := hcs
    exact Or.inl ⟨_, _, rfl⟩
  · simp [Value.cells] at hcs
    obtain ⟨rfl, rfl, rfl⟩ := hcs
    by_cases h0 : len0 = 0
    · subst h0
      exact Or.inl ⟨_, _, rfl⟩
    right
    have hmc : m = cap0 := by rw [hmm]; rfl
    subst hmc
    have each : ∀ i, i < len0 → ∃ q : Int × Int, W.cell? (a.add (i * 2)) = some (.int .i64 q.1) ∧ W.cell? (a.add (i * 2 + 1)) = some (.int .i64 q.2) := by
      intro i hi
      obtain ⟨cs', h1, h2⟩ := hx i (by omega)
      rw [cellsA] at h1
      obtain ⟨_, hlen, hcell⟩ := World.cells?_some h1
      obtain ⟨xs, k, hk, hxy, _, hxl, hfx⟩ := DataW.trod_array Try.underlying32 h2
      match xs, hxl, cs', hlen with
      | [y0, y1], _, [v0, v1], _ =>
        have g0 := hfx 0 (by omega)
        have g1 := hfx 1 (by omega)
        simp [cellsI] at g0 g1
        obtain ⟨q0, z0, _, _⟩ := DataW.trod_int Try.underlying3 g0
        obtain ⟨q1, z1, _, _⟩ := DataW.trod_int Try.underlying3 g1
        simp at z0 z1
        subst z0 z1
        have e0 := hcell 0 (by omega)
        have e1 := hcell 1 (by omega)
        rw [Deep.add_add] at e0 e1
        exact ⟨(q0, q1), by simpa using e0, by simpa using e1⟩
    obtain ⟨q, hq⟩ := Deep.choose_lt each
    obtain ⟨b, off, spot⟩ := a
    have hspot : spot = none := by
      have := (hq 0 (by omega)).1
      simpa [Addr.add] using World.cell?_spot this
    subst hspot
    refine ⟨b, off, len0, m, fun i => (q i).1, fun i => (q i).2, rfl, by omega, hl, hm, fun i hi => ?_⟩
    have := hq i hi
    by_cases hi0 : i = 0
    · subst hi0
      simpa [Addr.add] using this
    · have h2 : ¬ i * 2 = 0 := by omega
      simpa [Addr.add, hi0, h2] using this

/-- the sides and slots, and the words that were made of the first k of them -/
def fW : Nat → Int × Int → Nat := fun z p => Um.withN z p.1 p.2
def fD (past : Bool) : Nat → Int × Int → Nat := fun z p => Um.dropN z p.2 past

theorem fW_word (z : Nat) (a : Int × Int) (h : Um.Word z) : Um.Word (fW z a) := Um.with_word h _ _
theorem fD_word (p : Bool) (z : Nat) (a : Int × Int) (h : Um.Word z) : Um.Word (fD p z a) := Um.drop_word h _ _

theorem quiet_any {P : Program} {f : FuncId} {args : Array Value} {w1 : World} {v : Value} {C : World → Prop} (h : Calls P f args w1 fun e w' => e = .returned v ∧ w' = w1) (hc : C w1) :
    Calls P f args w1 fun e w'' => e = .returned v ∧ C w'' := h.mono fun _ _ ⟨he, hw⟩ => ⟨he, hw ▸ hc⟩

set_option maxHeartbeats 2000000 in
theorem walkN (w : World) (x : Nat) (hx : Um.Word x) (b off len cap : Nat) (X Y : Nat → Int) (h0 : 0 < len) (hlc : len ≤ cap) (hm : cap ≤ maxLen) (h100 : len ≤ 100)
    (hcell : ∀ i, i < len → w.cell? ⟨b, off + i * 2, none⟩ = some (.int .i64 (X i)) ∧ w.cell? ⟨b, off + (i * 2 + 1), none⟩ = some (.int .i64 (Y i))) :
    Calls Try.prog 9 #[.int .u64 x, .slice (some ⟨b, off, none⟩) len cap] w fun e w' => e = .returned (.bool true) ∧ Below w.heap.size w w' := by
  unfold maxLen at hm
  have HC := hide hcell
  clear hcell
  go_enter Try.func9, Try.ntmps9
  go_wp2_with fail
  go_loopw [5, 6, 7, 8, 22] (fun u7 u8 u9 u10 i wr => ∃ k : Nat, k ≤ len ∧ i = .int .i64 k ∧ u7 = .int .u64 (Um.run fW (fun i => (X i, Y i)) x k) ∧ u8 = .int .u64 (Um.run fW (fun i => (X (len - 1 - i), Y (len - 1 - i))) x k)
      ∧ u9 = .int .u64 (Um.run (fD false) (fun i => (X i, Y i)) x k) ∧ u10 = .int .u64 (Um.run (fD false) (fun i => (X (len - 1 - i), Y (len - 1 - i))) x k) ∧ Below w.heap.size w wr) (fun _ _ _ _ i _ => len - (intOf i).toNat)
  case atStart => exact ⟨0, by omega, rfl, rfl, rfl, rfl, rfl, Below.refl _ _⟩
  case round =>
    rename_i wr
    obtain ⟨k, hk, rfl, rfl, rfl, rfl, rfl, hb⟩ := hrel
    by_cases hlt : k < len
    · obtain ⟨c0, c1⟩ := (unhide HC) k hlt
      obtain ⟨c2, c3⟩ := (unhide HC) (len - 1 - k) (by omega)
      have hbl : b < w.heap.size := block_lt_of_cell c0
      have d0 := (hb.cell (p := ⟨b, off + k * 2, none⟩) hbl).trans c0
      have d1 := (hb.cell (p := ⟨b, off + (k * 2 + 1), none⟩) hbl).trans c1
      have d2 := (hb.cell (p := ⟨b, off + (len - 1 - k) * 2, none⟩) hbl).trans c2
      have d3 := (hb.cell (p := ⟨b, off + ((len - 1 - k) * 2 + 1), none⟩) hbl).trans c3
      rw [← Nat.add_assoc] at d1 d3
      have hbr : b < wr.heap.size := Nat.lt_of_lt_of_le hbl hb.size
      clear c0 c1 c2 c3
      have hjI : (len : Int) - 1 - (k : Int) = ((len - 1 - k : Nat) : Int) := by omega
      have hjl : ((len - 1 - k : Nat) : Int) < (len : Int) := by omega
      generalize hj : len - 1 - k = j at *
      have HJ := hide hj
      clear hj
      have hkl : (k : Int) < (len : Int) := by omega
      have w7 : Um.Word (Um.run fW (fun i => (X i, Y i)) x k) := Um.run_word hx fW_word k
      have w8 : Um.Word (Um.run fW (fun i => (X (len - 1 - i), Y (len - 1 - i))) x k) := Um.run_word hx fW_word k
      have w9 : Um.Word (Um.run (fD false) (fun i => (X i, Y i)) x k) := Um.run_word hx (fD_word false) k
      have w10 : Um.Word (Um.run (fD false) (fun i => (X (len - 1 - i), Y (len - 1 - i))) x k) := Um.run_word hx (fD_word false) k
      have e7 : Um.run fW (fun i => (X i, Y i)) x (k + 1) = Um.withN (Um.run fW (fun i => (X i, Y i)) x k) (X k) (Y k) := rfl
      have e8 : Um.run fW (fun i => (X (len - 1 - i), Y (len - 1 - i))) x (k + 1) = Um.withN (Um.run fW (fun i => (X (len - 1 - i), Y (len - 1 - i))) x k) (X (len - 1 - k)) (Y (len - 1 - k)) := rfl
      have e9 : Um.run (fD false) (fun i => (X i, Y i)) x (k + 1) = Um.dropN (Um.run (fD false) (fun i => (X i, Y i)) x k) (Y k) false := rfl
      have e10 : Um.run (fD false) (fun i => (X (len - 1 - i), Y (len - 1 - i))) x (k + 1) = Um.dropN (Um.run (fD false) (fun i => (X (len - 1 - i), Y (len - 1 - i))) x k) (Y (len - 1 - k)) false := rfl
      rw [unhide HJ] at e8 e10
      have E7 := hide e7
      have E8 := hide e8
      have E9 := hide e9
      have E10 := hide e10
      clear e7 e8 e9 e10
      generalize Um.run fW (fun i => (X i, Y i)) x k = z7 at *
      generalize Um.run fW (fun i => (X (len - 1 - i), Y (len - 1 - i))) x k = z8 at *
      generalize Um.run (fD false) (fun i => (X i, Y i)) x k = z9 at *
      generalize Um.run (fD false) (fun i => (X (len - 1 - i), Y (len - 1 - i))) x k = z10 at *
      go_wp2_with fail
      go_region
      all_goals
        go_wp2_with fail
        go_quiet ((go_at_call 10; refine quiet_any (mWith_any _ _ _ _ (by first | exact w7 | exact w8)) ?_; first | exact ⟨_, rfl⟩ | exact ⟨_, (World.drewN_drew _ _).symm⟩))
        go_wp2_with fail
        go_quiet ((go_at_call 15; refine quiet_any (mDrop_any _ _ _ (by first | exact w9 | exact w10)) ?_; first | exact ⟨_, rfl⟩ | exact ⟨_, (World.drewN_drew _ _).symm⟩))
        go_wp2
        refine ⟨⟨k + 1, by omega, by go_num, ?_, ?_, ?_, ?_, ?_⟩, by simp [intOf]; omega⟩
        · rw [unhide E7]
        · rw [unhide E8]
        · rw [unhide E9]
        · rw [unhide E10]
        · repeat (first | exact (hb.alloc hb.size _).alloc (by simp; have := hb.size; omega) _ | apply below_drewN | apply Below.drew)
    · have hkl : k = len := by omega
      subst hkl
      have r1 := Um.run_rev (f := fW) Um.with_swaps (fun i => (X i, Y i)) x k
      have r2 := Um.run_rev (f := fD false) (Um.drop_swaps false) (fun i => (X i, Y i)) x k
      generalize Um.run fW (fun i => (X i, Y i)) x k = z7 at *
      generalize Um.run fW (fun i => (X (k - 1 - i), Y (k - 1 - i))) x k = z8 at *
      generalize Um.run (fD false) (fun i => (X i, Y i)) x k = z9 at *
      generalize Um.run (fD false) (fun i => (X (k - 1 - i), Y (k - 1 - i))) x k = z10 at *
      subst r1 r2
      go_wp2_with fail
      refine (mAlive_any _).mono ?_
      rintro e w2 ⟨rfl, hb2⟩
      go_wp2
      go_ret
      exact ⟨rfl, hb.trans (hb2.mono hb.size)⟩

set_option maxHeartbeats 2000000 in
theorem walkE (w : World) (x : Nat) (a : Option Addr) (cap : Nat) :
    Calls Try.prog 9 #[.int .u64 x, .slice a 0 cap] w fun e w' => e = .returned (.bool true) ∧ Below w.heap.size w w' := by
  go_enter Try.func9, Try.ntmps9
  go_wp2_with fail
  go_loopw [5, 6, 7, 8, 22] (fun u7 u8 u9 u10 i wr => i = .int .i64 0 ∧ u7 = .int .u64 x ∧ u8 = .int .u64 x ∧ u9 = .int .u64 x ∧ u10 = .int .u64 x ∧ wr = w) (fun _ _ _ _ _ _ => 0)
  case atStart => exact ⟨rfl, rfl, rfl, rfl, rfl, rfl⟩
  case round =>
    obtain ⟨rfl, rfl, rfl, rfl, rfl, rfl⟩ := hrel
    go_wp2_with fail
    refine (mAlive_any _).mono ?_
    rintro e w2 ⟨rfl, hb2⟩
    go_wp2
    go_ret
    exact ⟨rfl, hb2⟩

set_option maxHeartbeats 2000000 in
theorem walkL (w : World) (x : Nat) (a : Option Addr) (len cap : Nat) (h : 100 < len) (hm : len ≤ maxLen) :
    Calls Try.prog 9 #[.int .u64 x, .slice a len cap] w fun e w' => e = .returned (.bool true) ∧ Below w.heap.size w w' := by
  unfold maxLen at hm
  have h' : (100 : Int) < (len : Int) := by omega
  go_enter Try.func9, Try.ntmps9
  go_wp2_with fail
  refine (mAlive_any _).mono ?_
  rintro e w2 ⟨rfl, hb2⟩
  go_wp2
  go_ret
  exact ⟨rfl, hb2⟩

theorem walk {H : Type} {enc : TypeId × Value → H} {base : Nat} {v : Value} {d : DataW H} {p : List MemPlace} (w : World) (a0 : Int) (w0 : (Lit.int .u64 a0).wf = true)
    (hv : Value.okWide Try.prog w .any base 35 v) (h : DataW.Trod enc Try.prog w 0 (fun _ => true) true 35 v d p) :
    Calls Try.prog 9 #[.int .u64 a0, v] w fun e w' => e = .returned (.bool true) ∧ Below w.heap.size w w' := by
  obtain ⟨x, rfl, hx⟩ := word_of w0
  rcases open_pairs hv h with ⟨a, cap, rfl⟩ | ⟨b, off, len, cap, X, Y, rfl, h0, hl, hm, hc⟩
  · exact walkE w x a cap
  · by_cases h100 : len ≤ 100
    · exact walkN w x hx b off len cap X Y h0 hl hm h100 hc
    · exact walkL w x _ len cap (by omega) (by omega)

set_option maxRecDepth 100000 in
theorem lifted (os : Os) (started : os.Started) (H : Type) (enc : TypeId × Value → H) :
    ReturnsInHanded {} Try.checked os 9 .any (Rows.markOrderSpec.pre6 enc Try.prog Try.f9 Rows.markOrderRow.domain false) (Rows.markOrderSpec.post enc Try.prog Try.f9 false true false false) := by
  refine returnsInHanded_of_change (C := Try.checked) own started (by kernel_rfl) Try.func9
    (ChangeSpec.witness6 (enc := enc) (C := Try.checked) false ⟨#[], #[.int .u64 0, .slice none 0 0], []⟩ 8 (by kernel_rfl) (by kernel_rfl) (by kernel_rfl) (by kernel_rfl)) ?_
  intro W base args ds gs before hval0 hW hcnd _
  have hval : ∀ (j : Nat) t v, Try.f9.params[j]? = some t → args[j]? = some v → Value.okWide Try.prog W .any base t v := hval0
  have hW' := hW
  obtain ⟨p, q, hA0, hV, rfl, hfz, hnd⟩ := hW
  have hA : DataW.TrodAll enc Try.prog W 0 (fun _ => true) true Try.f9.params.toList args.toList ds p := hA0
  rw [Try.params9] at hA hval
  obtain ⟨v0, vs0, d0, ds0, p0, q0, hargs, rfl, rfl, h0, r0⟩ := trodAll_cons hA
  obtain ⟨v1, vs1, d1, ds1, p1, q1, rfl, rfl, rfl, h1, r1⟩ := trodAll_cons r0
  obtain ⟨rfl, rfl, rfl⟩ := trodAll_nil r1
  obtain rfl : args = #[v0, v1] := by cases args; simp_all
  obtain ⟨rfl, rfl⟩ := trodVars_none hV
  have k0 := h0
  have lt0 : ∀ x ∈ p0, x.block < W.heap.size := by obtain ⟨m, hm⟩ := k0; exact DataW.trod_lt m _ _ _ hm
  have k1 := h1
  have lt1 : ∀ x ∈ p1, x.block < W.heap.size := by obtain ⟨m, hm⟩ := k1; exact DataW.trod_lt m _ _ _ hm
  obtain ⟨a0, rfl, hd0, hp0, w0⟩ := open_int Try.underlying22 (hval 0 22 v0 rfl rfl) h0
  refine (walk W a0 w0 (hval 1 35 v1 rfl rfl) h1).mono fun e W' ⟨he, bel⟩ => ?_
  subst he
  exact ⟨_, rfl, _, _, _, [], _, [], hW', trodAll_mk1 (shut_bool Try.underlying4 _), (trodAll_cons_mk (Below.trod laidOut (by kernel_rfl) (of_decide_eq_true (by kernel_rfl)) k0 bel lt0) (trodAll_cons_mk (Below.trod laidOut (by kernel_rfl) (of_decide_eq_true (by kernel_rfl)) k1 bel lt1) trodAll_mk0)), rfl, bel.frame _, fun h => by cases h⟩

theorem MarkOrder_proved : Rows.MarkOrderSaid :=
  OpenClaim.holds_of_wide 9 Try.f9 rfl rfl rfl rfl rfl rfl rfl ⟨rfl, rfl, rfl, rfl, rfl⟩ rfl rfl rfl rfl rfl (by kernel_rfl) Try.func9 (by kernel_rfl)
    (of_decide_eq_true (by kernel_rfl)) (by unfold Func.isWrapper; first | (rw [if_pos (by decide +kernel)]; kernel_rfl) | (rw [if_neg (by decide +kernel)]; exact ⟨rfl, rfl⟩))
    (fun os started H enc _ => lifted os started H enc)

end Go.Proofs.Ytpklhmaodhaflaa.markOrder
