/-
  The walks of Slots and Others: what the range over a function has collected.
-/
import Derived.Test.YtpklhmaodhaflaaMarkB
namespace Go.Proofs.Ytpklhmaodhaflaa
open Go.RowKit Go.Shelf

attribute [local go_sem] Oper.semAt_some

theorem infoInt : (Try.prog.info? 3).map (fun i => (i.zero, i.size, i.bytes)) = some (some (.int .i64 0), 1, 8) := by kernel_rfl

theorem ownsRow_base {W : World} {base base' : Nat} {e : TypeId} {size : Nat} {v : Value} {k : Nat} {xs : List Value} (h : W.ownsRow base e size v k xs) (hb : base' ≤ base) : W.ownsRow base' e size v k xs := by
  refine ⟨h.1, ?_⟩
  rcases h.2 with h | ⟨g, cap, cur, rfl, hg, h1, h2, h3, h4, h5⟩
  · exact .inl h
  · exact .inr ⟨g, cap, cur, rfl, by omega, h1, h2, h3, h4, h5⟩

set_option maxRecDepth 100000 in
set_option maxHeartbeats 2000000 in
theorem mSlots_any (x : Nat) (a : Int) (w : World) (hx : Um.Word x) :
    Calls Try.prog 18 #[.int .u64 x, .int .i64 a] w fun e W' => ∃ v, e = .returned v ∧ W'.ownsRow w.heap.size 3 1 v (Um.slotsN x a).length ((Um.slotsN x a).map (Value.int .i64)) ∧ Below w.heap.size w W' := by
  refine (callsIn_wide (n := 3)).1 ?_
  obtain ⟨i0, hi, hz0, hz1, hz2⟩ := info_parts infoInt
  refine callsIn_of_wp_marks Try.func18 rfl trivial ?_ rfl
  simp only [Try.ntmps18, List.size_toArray, List.length_cons, List.length_nil, Nat.reduceAdd, Nat.reduceSub, Array.replicate_succ, Array.replicate_zero, List.push_toArray, List.append_toArray, List.nil_append, List.cons_append]
  gi_wp2_with (refine ⟨trivial, ?_⟩; gi_at_call 25; refine (marked_in _ _ _ _).mono ?_; rintro e w' ⟨rfl, rfl⟩)
  have bO := Boxed.new w 29 (.slice none 0 0)
  have bW := Boxed.new (w.alloc (.cells #[.slice none 0 0] 29)) 22 (.int .u64 x)
  have bK := Boxed.new ((w.alloc (.cells #[.slice none 0 0] 29)).alloc (.cells #[.int .u64 x] 22)) 3 (.int .i64 a)
  simp only [World.size_alloc] at bW bK
  have hB0 : Below w.heap.size w (((w.alloc (.cells #[.slice none 0 0] 29)).alloc (.cells #[.int .u64 x] 22)).alloc (.cells #[.int .i64 a] 3)) := (((Below.refl _ w).alloc (Nat.le_refl _) _).alloc (by simp) _).alloc (by simp; omega) _
  refine wpIn_rangeFunc_ownG rfl (by omega) (gf := 27) (lb := #[.pointer (some ⟨w.heap.size + 1, 0, none⟩), .pointer (some ⟨w.heap.size + 1 + 1, 0, none⟩)]) rfl trivial (enters_of Try.func27 (by kernel_rfl) rfl)
    (marked_stops (3 - 1) (by omega) (w.heap.size + 1) (w.heap.size + 1 + 1) x hx a _ (by simp) (by simp) (bW.alloc _).cell bK.cell) keepsTwo_t keepsTwo_b (Below.refl _ _) (fun _ => rfl)
    (fun pre W => (∃ v, Boxed W w.heap.size 29 v ∧ W.ownsRow (w.heap.size + 3) 3 1 v pre.length (pre.map (Value.int .i64)) ∧ True) ∧ (Boxed W (w.heap.size + 1) 22 (.int .u64 x) ∧ Boxed W (w.heap.size + 1 + 1) 3 (.int .i64 a)) ∧ Below w.heap.size w W ∧ w.heap.size + 3 ≤ W.heap.size)
    (fun _ _ _ => False)
    ?hI
    (fun _ _ _ _ _ hs _ _ => hs)
    ⟨⟨_, (bO.alloc _).alloc _, World.ownsRow_nil _ _ _ _, trivial⟩, ⟨bW.alloc _, bK⟩, hB0, by simp⟩
    (fun y => { tmps := #[.int .u64 x, .int .i64 a, undef, undef, .slice none 0 0, .pointer (some ⟨w.heap.size, 0, none⟩), .int .i64 y, .int .u64 x, .int .i64 a, .func (.func 27) #[] #[.pointer (some ⟨w.heap.size + 1, 0, none⟩), .pointer (some ⟨w.heap.size + 1 + 1, 0, none⟩)], .int .i64 y, undef, undef, undef, undef, undef], defers := [] }) ?assign ?body ?done ?stop
  case hI =>
    exact OwnFrom.and (Own.from (holdsRow_own (w.heap.size + 3) w.heap.size 29 3 1 (fun pre : List Int => pre.length) (fun pre : List Int => pre.map (Value.int .i64)) (fun _ _ => True)) _)
      (OwnFrom.and (OwnFrom.and (Own.from (boxed_own _ _ _) _) (Own.from (boxed_own _ _ _) _)) (OwnFrom.and (ownFrom_below (Nat.le_refl _) (by simp; omega)) (fun _ _ _ _ hs hg _ => Nat.le_trans hs hg.size)))
  case assign =>
    intro l x W K hK
    gi_wp2
    exact hK
  case body =>
    rintro l pre y W ⟨⟨v, hv, hrow, _⟩, ⟨hw, hk⟩, hB, hs3⟩ hlt
    have hc := hv.cell
    gi_wp2_with (gi_at_builtin; refine wpListIn_append_own _ rfl _ _ 29 rfl (w.heap.size + 3) 3 i0 (.int .i64 0) 1 8 Try.underlying29 hi hz0 hz1 hz2 rfl (by decide) _ _ _ rfl (hrow.alloc _) ⟨W.heap.size, 0, none⟩ 1 1 [.int .i64 y] rfl rfl (cell_one_new _ _ _) (by simp [Value.oneCell']) (by unfold maxLen; omega) (by omega) (by simp; omega) ?_; intro v' w1 hown' hgrow _; obtain ⟨g', cap', rfl⟩ := ownsRow_succ hown'; obtain ⟨hv1, hv2, hr2, hk2, hb2, hb3⟩ := appended2 (n₀ := w.heap.size) hv hrow hs3 (Nat.le_refl _) (by omega) hown' hgrow; have hc1 := hv1.cell; have hf1 := hv1.frozen)
    have hw2 := hb3 _ _ _ (by omega) (by omega) hw
    have hk3 := hb3 _ _ _ (by omega) (by omega) hk
    exact ⟨hk2.from _, keepsTwo_boxed hw hk hw2 hk3, ⟨_, hv2, by simpa using hr2, trivial⟩, ⟨hw2, hk3⟩, hB.trans hb2, Nat.le_trans hs3 hb2.size⟩
  case done =>
    rintro D ys W hD rfl ⟨⟨v, hv, hrow, _⟩, ⟨hw, hk⟩, hB, hs3⟩ hK
    have hc := hv.cell
    gi_wp2
    refine ⟨by simp, .inl ⟨_, _, rfl, run_takeDeferred hK, ?_⟩⟩
    exact ⟨_, results_tmp rfl _ _ _, v, rfl, ownsRow_base (ownsRow_putObj hrow _ hK rfl) (by omega), hB.trans (belowK_b (w := w) (Nat.le_refl _) W D _ _ (by simp at hD; omega) hK rfl rfl)⟩
  case stop =>
    rintro D c pre W _ _ h _
    exact h.elim

/-- a list but for s -/
def butN (s : Int) (l : List Int) : List Int := l.filter (fun y => y != s)
theorem butN_same {s y : Int} {l : List Int} (h : y = s) : butN s (l ++ [y]) = butN s l := by simp [butN, h]
theorem butN_hit {s y : Int} {l : List Int} (h : ¬ y = s) : butN s (l ++ [y]) = butN s l ++ [y] := by simp [butN, h]

set_option maxRecDepth 100000 in
set_option maxHeartbeats 2000000 in
theorem mOthers_any (x : Nat) (a s : Int) (w : World) (hx : Um.Word x) :
    Calls Try.prog 20 #[.int .u64 x, .int .i64 a, .int .i64 s] w fun e W' => ∃ v, e = .returned v ∧ W'.ownsRow w.heap.size 3 1 v (Um.othersN x a s).length ((Um.othersN x a s).map (Value.int .i64)) ∧ Below w.heap.size w W' := by
  refine (callsIn_wide (n := 3)).1 ?_
  obtain ⟨i0, hi, hz0, hz1, hz2⟩ := info_parts infoInt
  refine callsIn_of_wp_marks Try.func20 rfl trivial ?_ rfl
  simp only [Try.ntmps20, List.size_toArray, List.length_cons, List.length_nil, Nat.reduceAdd, Nat.reduceSub, Array.replicate_succ, Array.replicate_zero, List.push_toArray, List.append_toArray, List.nil_append, List.cons_append]
  gi_wp2_with (refine ⟨trivial, ?_⟩; gi_at_call 25; refine (marked_in _ _ _ _).mono ?_; rintro e w' ⟨rfl, rfl⟩)
  have bS := Boxed.new w 3 (.int .i64 s)
  have bO := Boxed.new (w.alloc (.cells #[.int .i64 s] 3)) 29 (.slice none 0 0)
  have bW := Boxed.new ((w.alloc (.cells #[.int .i64 s] 3)).alloc (.cells #[.slice none 0 0] 29)) 22 (.int .u64 x)
  have bK := Boxed.new (((w.alloc (.cells #[.int .i64 s] 3)).alloc (.cells #[.slice none 0 0] 29)).alloc (.cells #[.int .u64 x] 22)) 3 (.int .i64 a)
  simp only [World.size_alloc] at bO bW bK
  have hB0 : Below w.heap.size w ((((w.alloc (.cells #[.int .i64 s] 3)).alloc (.cells #[.slice none 0 0] 29)).alloc (.cells #[.int .u64 x] 22)).alloc (.cells #[.int .i64 a] 3)) := ((((Below.refl _ w).alloc (Nat.le_refl _) _).alloc (by simp) _).alloc (by simp; omega) _).alloc (by simp; omega) _
  refine wpIn_rangeFunc_ownG rfl (by omega) (gf := 27) (lb := #[.pointer (some ⟨w.heap.size + 1 + 1, 0, none⟩), .pointer (some ⟨w.heap.size + 1 + 1 + 1, 0, none⟩)]) rfl trivial (enters_of Try.func27 (by kernel_rfl) rfl)
    (marked_stops (3 - 1) (by omega) (w.heap.size + 1 + 1) (w.heap.size + 1 + 1 + 1) x hx a _ (by simp) (by simp) (bW.alloc _).cell bK.cell) keepsTwo_t keepsTwo_b (Below.refl _ _) (fun _ => rfl)
    (fun pre W => (∃ v, Boxed W (w.heap.size + 1) 29 v ∧ W.ownsRow (w.heap.size + 4) 3 1 v (butN s pre).length ((butN s pre).map (Value.int .i64)) ∧ True) ∧ (Boxed W w.heap.size 3 (.int .i64 s) ∧ Boxed W (w.heap.size + 1 + 1) 22 (.int .u64 x) ∧ Boxed W (w.heap.size + 1 + 1 + 1) 3 (.int .i64 a)) ∧ Below w.heap.size w W ∧ w.heap.size + 4 ≤ W.heap.size)
    (fun _ _ _ => False)
    ?hI
    (fun _ _ _ _ _ hs _ _ => hs)
    ⟨⟨_, (bO.alloc _).alloc _, World.ownsRow_nil _ _ _ _, trivial⟩, ⟨((bS.alloc _).alloc _).alloc _, bW.alloc _, bK⟩, hB0, by simp⟩
    (fun y => { tmps := #[.int .u64 x, .int .i64 a, .int .i64 s, undef, undef, .pointer (some ⟨w.heap.size, 0, none⟩), .slice none 0 0, .pointer (some ⟨w.heap.size + 1, 0, none⟩), .int .i64 y, .int .u64 x, .int .i64 a, .func (.func 27) #[] #[.pointer (some ⟨w.heap.size + 1 + 1, 0, none⟩), .pointer (some ⟨w.heap.size + 1 + 1 + 1, 0, none⟩)], .int .i64 y, undef, undef, undef, undef, undef, undef, undef, undef], defers := [] }) ?assign ?body ?done ?stop
  case hI =>
    exact OwnFrom.and (Own.from (holdsRow_own (w.heap.size + 4) (w.heap.size + 1) 29 3 1 (fun pre : List Int => (butN s pre).length) (fun pre : List Int => (butN s pre).map (Value.int .i64)) (fun _ _ => True)) _)
      (OwnFrom.and (OwnFrom.and (Own.from (boxed_own _ _ _) _) (OwnFrom.and (Own.from (boxed_own _ _ _) _) (Own.from (boxed_own _ _ _) _))) (OwnFrom.and (ownFrom_below (Nat.le_refl _) (by simp; omega)) (fun _ _ _ _ hs hg _ => Nat.le_trans hs hg.size)))
  case assign =>
    intro l x W K hK
    gi_wp2
    exact hK
  case body =>
    rintro l pre y W ⟨⟨v, hv, hrow, _⟩, ⟨hs, hw, hk⟩, hB, hs3⟩ hlt
    have hc := hv.cell
    have hcs := hs.cell
    have hpl : (butN s pre).length ≤ pre.length := List.length_filter_le _ _
    by_cases hys : y = s
    · have hbn : butN s (pre ++ [y]) = butN s pre := butN_same hys
      have HBN := hide hbn
      clear hbn
      gi_wp2
      exact ⟨KeepsFrom.refl _ _, keepsTwo_boxed hw hk hw hk, ⟨v, hv, by rw [unhide HBN]; exact hrow, trivial⟩, ⟨hs, hw, hk⟩, hB, hs3⟩
    · have hbn : butN s (pre ++ [y]) = butN s pre ++ [y] := butN_hit hys
      have HBN := hide hbn
      clear hbn
      gi_wp2_with (gi_at_builtin; refine wpListIn_append_own _ rfl _ _ 29 rfl (w.heap.size + 4) 3 i0 (.int .i64 0) 1 8 Try.underlying29 hi hz0 hz1 hz2 rfl (by decide) _ _ _ rfl (hrow.alloc _) ⟨W.heap.size, 0, none⟩ 1 1 [.int .i64 y] rfl rfl (cell_one_new _ _ _) (by simp [Value.oneCell']) (by unfold maxLen; omega) (by omega) (by simp; omega) ?_; intro v' w1 hown' hgrow _; obtain ⟨g', cap', rfl⟩ := ownsRow_succ hown'; obtain ⟨hv1, hv2, hr2, hk2, hb2, hb3⟩ := appended2 (n₀ := w.heap.size) hv hrow hs3 (by omega) (by omega) hown' hgrow; have hc1 := hv1.cell; have hf1 := hv1.frozen)
      have hw2 := hb3 _ _ _ (by omega) (by omega) hw
      have hk3 := hb3 _ _ _ (by omega) (by omega) hk
      have hs2 := hb3 _ _ _ (by omega) (by omega) hs
      exact ⟨hk2.from _, keepsTwo_boxed hw hk hw2 hk3, ⟨_, hv2, by rw [unhide HBN]; simpa using hr2, trivial⟩, ⟨hs2, hw2, hk3⟩, hB.trans hb2, Nat.le_trans hs3 hb2.size⟩
  case done =>
    rintro D ys W hD rfl ⟨⟨v, hv, hrow, _⟩, ⟨hs, hw, hk⟩, hB, hs3⟩ hK
    have hc := hv.cell
    gi_wp2
    refine ⟨by simp, .inl ⟨_, _, rfl, run_takeDeferred hK, ?_⟩⟩
    exact ⟨_, results_tmp rfl _ _ _, v, rfl, ownsRow_base (ownsRow_putObj hrow _ hK rfl) (by omega), hB.trans (belowK_b (w := w) (Nat.le_refl _) W D _ _ (by simp at hD; omega) hK rfl rfl)⟩
  case stop =>
    rintro D c pre W _ _ h _
    exact h.elim

end Go.Proofs.Ytpklhmaodhaflaa
