/-
  The walks of layer 2's lists of slots: a range over a function, and what it collects.
-/
import Derived.RangeFuncNested
import Derived.RangeFuncBound
import Derived.RangeFuncCalls
import Derived.RangeFuncLeaves
import Derived.RangeFuncBox
import Derived.Shelf.Abstract
import Derived.Shelf.RegionOpen
import Derived.WalkKit
import Derived.OwnWalkIn
import Derived.TacticsInMore
import Derived.LoopNIn
import Derived.LoopIn
import Derived.Maps.AppendAt
import Derived.Test.YtpklhmaodhaflaaMarkA
namespace Go.Proofs.Ytpklhmaodhaflaa
open Go.RowKit Go.Shelf

attribute [local go_sem] Oper.semAt_some

/-- what lies in the boxes of a word and a kind stays there -/
def KeepsTwo (Bw Bk : Nat) (A B : World) : Prop :=
  (∀ v, A.cell? ⟨Bw, 0, none⟩ = some v → B.cell? ⟨Bw, 0, none⟩ = some v) ∧ (∀ v, A.cell? ⟨Bk, 0, none⟩ = some v → B.cell? ⟨Bk, 0, none⟩ = some v)

theorem keepsTwo_t {Bw Bk : Nat} {A B C : World} (h : KeepsTwo Bw Bk A B) (k : KeepsTwo Bw Bk B C) : KeepsTwo Bw Bk A C :=
  ⟨fun v e => k.1 v (h.1 v e), fun v e => k.2 v (h.2 v e)⟩

theorem keepsTwo_b {Bw Bk : Nat} {w : World} (W : World) (l : Nat) (o o' : Obj) (_ : w.heap.size ≤ l) (h : W.heap[l]? = some o) (hc : o.isCells = false) (_ : o.isWalk = false) : KeepsTwo Bw Bk W (W.putObj l o') :=
  ⟨fun v e => cell_kept e (grownBy_putObj' W l o') (fun r er => by cases er; exact ⟨o, h, hc⟩), fun v e => cell_kept e (grownBy_putObj' W l o') (fun r er => by cases er; exact ⟨o, h, hc⟩)⟩

theorem keepsTwo_boxed {Bw Bk : Nat} {A B : World} {t u : TypeId} {x y : Value} (h1 : Boxed A Bw t x) (h2 : Boxed A Bk u y) (k1 : Boxed B Bw t x) (k2 : Boxed B Bk u y) : KeepsTwo Bw Bk A B := by
  refine ⟨fun v e => ?_, fun v e => ?_⟩
  · rw [h1.cell] at e; cases e; exact k1.cell
  · rw [h2.cell] at e; cases e; exact k2.cell

/-- behind an append to a boxed slice whose row lies behind all boxes -/
theorem appended2 {W w1 : World} {n₀ base B : Nat} {t e : TypeId} {size : Nat} {v v' : Value} {k m : Nat} {xs ys : List Value} {tmp : Obj}
    (hv : Boxed W B t v) (hrow : W.ownsRow base e size v k xs) (hbs : base ≤ W.heap.size) (hB : n₀ ≤ B) (hB2 : B < base)
    (hown' : w1.ownsRow base e size v' m ys) (hgrow : (W.alloc tmp).grownBy w1 v.ownBlock) :
    Boxed w1 B t v ∧ Boxed (w1.setCell ⟨B, 0, none⟩ v') B t v' ∧ (w1.setCell ⟨B, 0, none⟩ v').ownsRow base e size v' m ys ∧ KeepsOthers W (w1.setCell ⟨B, 0, none⟩ v') ∧ Below n₀ W (w1.setCell ⟨B, 0, none⟩ v')
      ∧ ∀ C t' u, C < base → C ≠ B → Boxed W C t' u → Boxed (w1.setCell ⟨B, 0, none⟩ v') C t' u := by
  have nr : ∀ C, C < base → some C ≠ v.ownBlock := by
    intro C hC
    rcases hrow.2 with ⟨rfl, _⟩ | ⟨g, cap, cur, rfl, hg, _, _⟩
    · simp [Value.ownBlock]
    · intro e'
      obtain rfl : C = g := by simpa [Value.ownBlock] using e'
      omega
  have nr' : some B ≠ v'.ownBlock := by
    rcases hown'.2 with ⟨rfl, _⟩ | ⟨g, cap, cur, rfl, hg, _, _⟩
    · simp [Value.ownBlock]
    · intro e'
      obtain rfl : B = g := by simpa [Value.ownBlock] using e'
      omega
  have hv1 : Boxed w1 B t v := (hv.alloc tmp).kept hgrow (nr B hB2)
  refine ⟨hv1, hv1.set v', hown'.kept (grownBy_setCell' w1 B v') (.inr nr'.symm), ?_, ?_, ?_⟩
  · refine ((KeepsOthers.alloc W tmp).trans (KeepsOthers.of_grownBy hgrow fun j o ej hj => ?_)).trans (KeepsOthers.setCell _ _ _)
    rcases (hrow.alloc tmp).2 with ⟨rfl, _⟩ | ⟨g, cap, cur, rfl, _, hgb, _⟩
    · simp [Value.ownBlock] at ej
    · obtain rfl : g = j := by simpa [Value.ownBlock] using ej
      rw [hgb] at hj; cases hj; rfl
  · refine (((Below.refl n₀ W).alloc (by omega) tmp).grown hgrow (by simp; omega) fun j ej => ?_).setCell (p := ⟨B, 0, none⟩) hB v'
    rcases hrow.2 with ⟨rfl, _⟩ | ⟨g, cap, cur, rfl, hb, _, _⟩
    · simp [Value.ownBlock] at ej
    · obtain rfl : g = j := by simpa [Value.ownBlock] using ej
      omega
  · intro C t' u hC hne hb
    exact ((hb.alloc tmp).kept hgrow (nr C hC)).kept (grownBy_setCell' w1 B v') (by simpa using hne)

set_option maxRecDepth 100000 in
set_option maxHeartbeats 2000000 in
theorem marked1_in (n : Nat) (hn : 1 ≤ n) (l Bw Bk x : Nat) (hx : Um.Word x) (a : Int) (J Jx : List Int → World → Prop)
    (hY : ∀ pre y W, J pre W → pre.length < 12 → YieldAt Fence.wide (n - 1) Try.prog l #[.int .i64 y] W fun e W' =>
      (e = .returned (.bool true) ∧ J (pre ++ [y]) W' ∧ KeepsTwo Bw Bk W W') ∨ (e = .returned (.bool false) ∧ Jx (pre ++ [y]) W'))
    (W : World) (hBw : W.cell? ⟨Bw, 0, none⟩ = some (.int .u64 x)) (hBk : W.cell? ⟨Bk, 0, none⟩ = some (.int .i64 a)) (h0 : J [] W) :
    CallsIn Fence.wide n Try.prog 27 #[.func (.yield l) #[] #[], .pointer (some ⟨Bw, 0, none⟩), .pointer (some ⟨Bk, 0, none⟩)] W fun e W' => (∃ v, e = .returned v) ∧
      ((∃ ys, ys = Um.slotsN x a ∧ J ys W') ∨ (∃ pre, True ∧ Jx pre W')) := by
  refine callsIn_of_wp Try.func27 rfl trivial ?_ rfl
  simp only [Try.ntmps27, List.size_toArray, List.length_cons, List.length_nil, Nat.reduceAdd, Nat.reduceSub, Array.replicate_succ, Array.replicate_zero, List.push_toArray, List.append_toArray, List.nil_append, List.cons_append]
  gi_wp2
  gi_loopw [5] (fun i wr => ∃ k : Nat, k ≤ 12 ∧ i = .int .i64 k ∧ J (Um.slotsTo x a k) wr ∧ wr.cell? ⟨Bw, 0, none⟩ = some (.int .u64 x) ∧ wr.cell? ⟨Bk, 0, none⟩ = some (.int .i64 a))
    (fun i _ => 12 - (intOf i).toNat)
  case atStart => exact ⟨0, Nat.zero_le _, rfl, h0, hBw, hBk⟩
  case round =>
    obtain ⟨k, hk, rfl, hJs, hcw, hck⟩ := hrel
    by_cases hlt : k < 12
    · cases hh : Um.hasN x a (k : Int)
      · have hs := hide (Um.slotsTo_miss hh)
        gi_wp2_with (refine ⟨trivial, ?_⟩; gi_at_call 12; refine (callsIn_wide.2 (mHas_any _ _ _ _ hx)).mono ?_; rintro e w' ⟨rfl, rfl⟩)
        refine ⟨fun _ h => (by cases h), ?_⟩
        gi_wp2
        go_roundw
        case rel => exact ⟨k + 1, by omega, by simp, by rw [unhide hs]; exact hJs, hcw, hck⟩
        case measure => simp [intOf]; omega
      · have hs := hide (Um.slotsTo_hit hh)
        obtain ⟨fn, tmps, assign, body, hy, hR⟩ := hY _ (k : Int) wr hJs (by have := Um.slotsTo_length x a k; omega)
        gi_wp2_with (refine ⟨trivial, ?_⟩; gi_at_call 12; refine (callsIn_wide.2 (mHas_any _ _ _ _ hx)).mono ?_; rintro e w' ⟨rfl, rfl⟩)
        refine hR.mono ?_
        rintro e W3 (⟨rfl, hJ3, hk3⟩ | ⟨rfl, hJx3⟩)
        · gi_wp2
          go_roundw
          case rel => exact ⟨k + 1, by omega, by simp, by rw [unhide hs]; exact hJ3, hk3.1 _ hcw, hk3.2 _ hck⟩
          case measure => simp [intOf]; omega
        · gi_wp2
          refine bodyPost_ret (results_none rfl _ _ _) rfl ?_
          exact ⟨⟨_, rfl⟩, .inr ⟨_, trivial, hJx3⟩⟩
    · obtain rfl : k = 12 := by omega
      gi_wp2
      go_end0
      exact ⟨⟨_, rfl⟩, .inl ⟨_, rfl, hJs⟩⟩

set_option maxHeartbeats 1000000 in
theorem marked_in (n : Nat) (x : Nat) (a : Int) (w : World) :
    CallsIn Fence.wide n Try.prog 25 #[.int .u64 x, .int .i64 a] w fun e w' => e = .returned (.func (.func 27) #[] #[.pointer (some ⟨w.heap.size, 0, none⟩), .pointer (some ⟨w.heap.size + 1, 0, none⟩)]) ∧ w' = (w.alloc (.cells #[.int .u64 x] 22)).alloc (.cells #[.int .i64 a] 3) := by
  refine callsIn_of_wp Try.func25 rfl trivial ?_ rfl
  simp only [Try.ntmps25, List.size_toArray, List.length_cons, List.length_nil, Nat.reduceAdd, Nat.reduceSub, Array.replicate_succ, Array.replicate_zero, List.push_toArray, List.append_toArray, List.nil_append, List.cons_append]
  gi_wp2
  go_ret
  exact ⟨rfl, rfl⟩

theorem marked_stops (n : Nat) (hn : 1 ≤ n) (Bw Bk x : Nat) (hx : Um.Word x) (a : Int) (w : World) (hw : Bw < w.heap.size) (hk : Bk < w.heap.size)
    (hcw : w.cell? ⟨Bw, 0, none⟩ = some (.int .u64 x)) (hck : w.cell? ⟨Bk, 0, none⟩ = some (.int .i64 a)) :
    SeqStopsK Fence.wide n Try.prog 27 #[.pointer (some ⟨Bw, 0, none⟩), .pointer (some ⟨Bk, 0, none⟩)] (fun y : Int => #[Value.int .i64 y]) (KeepsTwo Bw Bk) (fun ys => ys = Um.slotsN x a) (fun _ => True) 12 w := fun l J Jx W hW _ _ hY h0 =>
  marked1_in n hn l Bw Bk x hx a J Jx hY W ((hW.cell (p := ⟨Bw, 0, none⟩) hw).trans hcw) ((hW.cell (p := ⟨Bk, 0, none⟩) hk).trans hck) h0

end Go.Proofs.Ytpklhmaodhaflaa
