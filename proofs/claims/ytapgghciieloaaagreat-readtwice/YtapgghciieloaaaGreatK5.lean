/-
  Texts that the laws stand on, merged (StoreL2, Og, StoreZ, OpenRd, PinMath, PinMath2, TallyMath, HelpMath, TallyA, WalkB, WalkC).
-/
import Derived.Test.YtapgghciieloaaaGreatK1
import Derived.Test.YtapgghciieloaaaGreatK2
import Derived.Test.YtapgghciieloaaaGreatK3
import Derived.Test.YtapgghciieloaaaGreatK4
import Derived.Deep.AppendLies
import Derived.Deep.RegionHeld3
import Derived.Deep.RegionLawGrows
import Derived.Deep.RegionWith
import Derived.Lib.QuietBelow
import Derived.Orders
import Derived.WalkKit
import Derived.WalkSmall

/-
  The walk of layer 6's pair of memories, of one row of words: the document's words lie in a block of their own.
-/
namespace Go.Proofs.YtapgghciieloaaaGreat
set_option maxRecDepth 100000
open Go.RowKit Go.Sort

set_option maxHeartbeats 2000000 in
theorem lOf_own (c : Um.Cf) (v : Value) (ws : Nat → Nat) (w : World) (h : c.r = true) (hv : IsWords w v c.n ws) :
    Calls Tryz.prog 10 #[(.agg #[.int .i64 (c.t), .int .i64 (c.s), .int .i64 (c.k), .int .i64 (c.g), .int .u64 (c.q : Int)]), v] w fun e W' => ∃ B C g cap, e = .returned (.tuple #[.pointer (some ⟨B, 0, none⟩), (.agg #[.int .i64 (c.t), .int .i64 (c.s), .int .i64 (c.k), .int .i64 (c.g), .int .u64 (c.q : Int), .slice (some ⟨g, 0, none⟩) c.n cap, .int .i64 0, .int .i64 0, .int .i64 0, .int .i64 0, .int .u64 0, .int .u64 0, .bool false]), .bool true]) ∧
      w.heap.size ≤ B ∧ w.heap.size ≤ C ∧ B < g ∧ C < g ∧ MemAt W' B C c ⟨ws, 0, Um.noT⟩ ∧ c.n ≤ cap ∧ cap ≤ maxLen ∧ BlkAt W' g (rowW ws c.n) ∧ Below w.heap.size w W' := by
  have hR := rRight_any c.t c.s c.k c.g c.q
  rw [show Um.rt c.t c.s c.k c.g c.q = true from h] at hR
  have hL := rLen_any c.t c.s c.k c.g c.q
  rw [Cf_len] at hL
  have hO := fun w hv => sOf_right c v ws w h hv
  have hD := fun w hv => rOf_own c v ws w h hv
  have HV := hide hv
  have HR := hide h
  have HO := hide hO
  have HD := hide hD
  have HW := hide (words_word hv)
  obtain ⟨a, cap, rfl⟩ := words_len hv
  clear h hv hO hD
  have hS := St.new w
  go_enter Tryz.func10, Tryz.ntmps10
  go_wp2_with (first | (refine wpl_box hS rfl _ _ rfl _ rfl _ (by intro _; simp only [Act.put, List.setIfInBounds_toArray, List.set_cons_zero, List.set_cons_succ]; first | done | exact rfl) ?_; clear hS; intro _ _ hS; dsimp only [blit, List.set, List.cons_append, List.nil_append, Value.cells, List.toList_toArray] at hS) | (refine wpl_alloc hS rfl _ rfl _ (zer_any rfl) _ (by intro _; simp only [Act.put, List.setIfInBounds_toArray, List.set_cons_zero, List.set_cons_succ]; first | done | exact rfl) ?_; clear hS; intro _ _ hS; dsimp only [blit, List.set, List.cons_append, List.nil_append, Value.cells, List.toList_toArray] at hS) | (refine wpl_ld hS rfl _ _ rfl _ _ rfl ?_; (first | refine ⟨0, _, rfl, ?_⟩ | refine ⟨1, _, rfl, ?_⟩ | refine ⟨2, _, rfl, ?_⟩ | refine ⟨3, _, rfl, ?_⟩ | refine ⟨4, _, rfl, ?_⟩ | refine ⟨5, _, rfl, ?_⟩ | refine ⟨6, _, rfl, ?_⟩ | refine ⟨7, _, rfl, ?_⟩ | refine ⟨8, _, rfl, ?_⟩ | refine ⟨9, _, rfl, ?_⟩); first | refine .inl ⟨_, one_any rfl, rfl, _, (by simp only [Act.put, List.setIfInBounds_toArray, List.set_cons_zero, List.set_cons_succ]; first | done | exact rfl), ?_⟩ | refine .inr ⟨_, _, row_any rfl, rfl, (by dsimp only [cutL, List.drop, List.take]; first | done | exact rfl), _, (by simp only [Act.put, List.setIfInBounds_toArray, List.set_cons_zero, List.set_cons_succ]; first | done | exact rfl), ?_⟩) | (refine wpl_st hS rfl _ _ _ rfl rfl _ _ rfl ?_; (first | refine ⟨0, _, rfl, ?_⟩ | refine ⟨1, _, rfl, ?_⟩ | refine ⟨2, _, rfl, ?_⟩ | refine ⟨3, _, rfl, ?_⟩ | refine ⟨4, _, rfl, ?_⟩ | refine ⟨5, _, rfl, ?_⟩ | refine ⟨6, _, rfl, ?_⟩ | refine ⟨7, _, rfl, ?_⟩ | refine ⟨8, _, rfl, ?_⟩ | refine ⟨9, _, rfl, ?_⟩); refine ⟨_, (by first | exact shA rfl | exact shI rfl | exact shB rfl | exact shS rfl | exact shP rfl | exact shF rfl | exact shN rfl), _, siz_any rfl, (by exact rfl), (by exact rfl), (by exact rfl), ?_⟩; clear hS; intro _ hS; dsimp only [blit, List.set, List.cons_append, List.nil_append, Value.cells, List.toList_toArray] at hS))
  refine (hR _).mono ?_
  rintro e w1 ⟨rfl, hb⟩
  replace hS := hS.call hb
  clear hb hR
  go_wp2_with (first | (refine wpl_box hS rfl _ _ rfl _ rfl _ (by intro _; simp only [Act.put, List.setIfInBounds_toArray, List.set_cons_zero, List.set_cons_succ]; first | done | exact rfl) ?_; clear hS; intro _ _ hS; dsimp only [blit, List.set, List.cons_append, List.nil_append, Value.cells, List.toList_toArray] at hS) | (refine wpl_alloc hS rfl _ rfl _ (zer_any rfl) _ (by intro _; simp only [Act.put, List.setIfInBounds_toArray, List.set_cons_zero, List.set_cons_succ]; first | done | exact rfl) ?_; clear hS; intro _ _ hS; dsimp only [blit, List.set, List.cons_append, List.nil_append, Value.cells, List.toList_toArray] at hS) | (refine wpl_ld hS rfl _ _ rfl _ _ rfl ?_; (first | refine ⟨0, _, rfl, ?_⟩ | refine ⟨1, _, rfl, ?_⟩ | refine ⟨2, _, rfl, ?_⟩ | refine ⟨3, _, rfl, ?_⟩ | refine ⟨4, _, rfl, ?_⟩ | refine ⟨5, _, rfl, ?_⟩ | refine ⟨6, _, rfl, ?_⟩ | refine ⟨7, _, rfl, ?_⟩ | refine ⟨8, _, rfl, ?_⟩ | refine ⟨9, _, rfl, ?_⟩); first | refine .inl ⟨_, one_any rfl, rfl, _, (by simp only [Act.put, List.setIfInBounds_toArray, List.set_cons_zero, List.set_cons_succ]; first | done | exact rfl), ?_⟩ | refine .inr ⟨_, _, row_any rfl, rfl, (by dsimp only [cutL, List.drop, List.take]; first | done | exact rfl), _, (by simp only [Act.put, List.setIfInBounds_toArray, List.set_cons_zero, List.set_cons_succ]; first | done | exact rfl), ?_⟩) | (refine wpl_st hS rfl _ _ _ rfl rfl _ _ rfl ?_; (first | refine ⟨0, _, rfl, ?_⟩ | refine ⟨1, _, rfl, ?_⟩ | refine ⟨2, _, rfl, ?_⟩ | refine ⟨3, _, rfl, ?_⟩ | refine ⟨4, _, rfl, ?_⟩ | refine ⟨5, _, rfl, ?_⟩ | refine ⟨6, _, rfl, ?_⟩ | refine ⟨7, _, rfl, ?_⟩ | refine ⟨8, _, rfl, ?_⟩ | refine ⟨9, _, rfl, ?_⟩); refine ⟨_, (by first | exact shA rfl | exact shI rfl | exact shB rfl | exact shS rfl | exact shP rfl | exact shF rfl | exact shN rfl), _, siz_any rfl, (by exact rfl), (by exact rfl), (by exact rfl), ?_⟩; clear hS; intro _ hS; dsimp only [blit, List.set, List.cons_append, List.nil_append, Value.cells, List.toList_toArray] at hS))
  refine (hL _).mono ?_
  rintro e w2 ⟨rfl, hb⟩
  replace hS := hS.call hb
  clear hb hL
  go_wp2_with (first | (refine wpl_box hS rfl _ _ rfl _ rfl _ (by intro _; simp only [Act.put, List.setIfInBounds_toArray, List.set_cons_zero, List.set_cons_succ]; first | done | exact rfl) ?_; clear hS; intro _ _ hS; dsimp only [blit, List.set, List.cons_append, List.nil_append, Value.cells, List.toList_toArray] at hS) | (refine wpl_alloc hS rfl _ rfl _ (zer_any rfl) _ (by intro _; simp only [Act.put, List.setIfInBounds_toArray, List.set_cons_zero, List.set_cons_succ]; first | done | exact rfl) ?_; clear hS; intro _ _ hS; dsimp only [blit, List.set, List.cons_append, List.nil_append, Value.cells, List.toList_toArray] at hS) | (refine wpl_ld hS rfl _ _ rfl _ _ rfl ?_; (first | refine ⟨0, _, rfl, ?_⟩ | refine ⟨1, _, rfl, ?_⟩ | refine ⟨2, _, rfl, ?_⟩ | refine ⟨3, _, rfl, ?_⟩ | refine ⟨4, _, rfl, ?_⟩ | refine ⟨5, _, rfl, ?_⟩ | refine ⟨6, _, rfl, ?_⟩ | refine ⟨7, _, rfl, ?_⟩ | refine ⟨8, _, rfl, ?_⟩ | refine ⟨9, _, rfl, ?_⟩); first | refine .inl ⟨_, one_any rfl, rfl, _, (by simp only [Act.put, List.setIfInBounds_toArray, List.set_cons_zero, List.set_cons_succ]; first | done | exact rfl), ?_⟩ | refine .inr ⟨_, _, row_any rfl, rfl, (by dsimp only [cutL, List.drop, List.take]; first | done | exact rfl), _, (by simp only [Act.put, List.setIfInBounds_toArray, List.set_cons_zero, List.set_cons_succ]; first | done | exact rfl), ?_⟩) | (refine wpl_st hS rfl _ _ _ rfl rfl _ _ rfl ?_; (first | refine ⟨0, _, rfl, ?_⟩ | refine ⟨1, _, rfl, ?_⟩ | refine ⟨2, _, rfl, ?_⟩ | refine ⟨3, _, rfl, ?_⟩ | refine ⟨4, _, rfl, ?_⟩ | refine ⟨5, _, rfl, ?_⟩ | refine ⟨6, _, rfl, ?_⟩ | refine ⟨7, _, rfl, ?_⟩ | refine ⟨8, _, rfl, ?_⟩ | refine ⟨9, _, rfl, ?_⟩); refine ⟨_, (by first | exact shA rfl | exact shI rfl | exact shB rfl | exact shS rfl | exact shP rfl | exact shF rfl | exact shN rfl), _, siz_any rfl, (by exact rfl), (by exact rfl), (by exact rfl), ?_⟩; clear hS; intro _ hS; dsimp only [blit, List.set, List.cons_append, List.nil_append, Value.cells, List.toList_toArray] at hS))
  refine ((unhide HO) _ (((unhide HV).low.below hS.bel).is hS.bel.size)).mono ?_
  rintro e w3 ⟨B, C, rfl, hl1, hl2, hM, hb⟩
  have hz1 := Nat.le_trans hS.bel.size hl1
  have hz2 := Nat.le_trans hS.bel.size hl2
  have hne := hM.ne
  have hlb := hM.hB
  have hlc := hM.hC
  replace hS := hS.addMem hb hM hl1 hl2
  dsimp only [List.cons_append, List.nil_append] at hS
  clear hb hM hl1 hl2 HO
  go_wp2_with (first | (refine wpl_box hS rfl _ _ rfl _ rfl _ (by intro _; simp only [Act.put, List.setIfInBounds_toArray, List.set_cons_zero, List.set_cons_succ]; first | done | exact rfl) ?_; clear hS; intro _ _ hS; dsimp only [blit, List.set, List.cons_append, List.nil_append, Value.cells, List.toList_toArray] at hS) | (refine wpl_alloc hS rfl _ rfl _ (zer_any rfl) _ (by intro _; simp only [Act.put, List.setIfInBounds_toArray, List.set_cons_zero, List.set_cons_succ]; first | done | exact rfl) ?_; clear hS; intro _ _ hS; dsimp only [blit, List.set, List.cons_append, List.nil_append, Value.cells, List.toList_toArray] at hS) | (refine wpl_ld hS rfl _ _ rfl _ _ rfl ?_; (first | refine ⟨0, _, rfl, ?_⟩ | refine ⟨1, _, rfl, ?_⟩ | refine ⟨2, _, rfl, ?_⟩ | refine ⟨3, _, rfl, ?_⟩ | refine ⟨4, _, rfl, ?_⟩ | refine ⟨5, _, rfl, ?_⟩ | refine ⟨6, _, rfl, ?_⟩ | refine ⟨7, _, rfl, ?_⟩ | refine ⟨8, _, rfl, ?_⟩ | refine ⟨9, _, rfl, ?_⟩); first | refine .inl ⟨_, one_any rfl, rfl, _, (by simp only [Act.put, List.setIfInBounds_toArray, List.set_cons_zero, List.set_cons_succ]; first | done | exact rfl), ?_⟩ | refine .inr ⟨_, _, row_any rfl, rfl, (by dsimp only [cutL, List.drop, List.take]; first | done | exact rfl), _, (by simp only [Act.put, List.setIfInBounds_toArray, List.set_cons_zero, List.set_cons_succ]; first | done | exact rfl), ?_⟩) | (refine wpl_stO hS rfl _ _ _ rfl rfl _ _ rfl ?_; (first | refine ⟨0, _, rfl, ?_⟩ | refine ⟨1, _, rfl, ?_⟩ | refine ⟨2, _, rfl, ?_⟩ | refine ⟨3, _, rfl, ?_⟩ | refine ⟨4, _, rfl, ?_⟩ | refine ⟨5, _, rfl, ?_⟩ | refine ⟨6, _, rfl, ?_⟩ | refine ⟨7, _, rfl, ?_⟩ | refine ⟨8, _, rfl, ?_⟩ | refine ⟨9, _, rfl, ?_⟩); refine ⟨_, (by first | exact shA rfl | exact shI rfl | exact shB rfl | exact shS rfl | exact shP rfl | exact shF rfl | exact shN rfl), _, siz_any rfl, (by exact rfl), (by exact rfl), (by exact rfl), ?_⟩; clear hS; intro _ hS hO; dsimp only [blit, List.set, List.cons_append, List.nil_append, Value.cells, List.toList_toArray] at hS))
  refine ((unhide HD) _ (((unhide HV).low.below hS.bel).is hS.bel.size)).mono ?_
  rintro e w4 ⟨v', rfl, ⟨g, cap', rfl, hg, hc1, hc2, hI⟩, hb⟩
  have hlR := (hS.get 1 rfl).lt
  replace hS := hS.call hb
  clear hb
  have HI := hide hI
  clear hI HD
  go_wp2_with (first | (refine wpl_box hS rfl _ _ rfl _ rfl _ (by intro _; simp only [Act.put, List.setIfInBounds_toArray, List.set_cons_zero, List.set_cons_succ]; first | done | exact rfl) ?_; clear hS; intro _ _ hS; dsimp only [blit, List.set, List.cons_append, List.nil_append, Value.cells, List.toList_toArray] at hS) | (refine wpl_alloc hS rfl _ rfl _ (zer_any rfl) _ (by intro _; simp only [Act.put, List.setIfInBounds_toArray, List.set_cons_zero, List.set_cons_succ]; first | done | exact rfl) ?_; clear hS; intro _ _ hS; dsimp only [blit, List.set, List.cons_append, List.nil_append, Value.cells, List.toList_toArray] at hS) | (refine wpl_ld hS rfl _ _ rfl _ _ rfl ?_; (first | refine ⟨0, _, rfl, ?_⟩ | refine ⟨1, _, rfl, ?_⟩ | refine ⟨2, _, rfl, ?_⟩ | refine ⟨3, _, rfl, ?_⟩ | refine ⟨4, _, rfl, ?_⟩ | refine ⟨5, _, rfl, ?_⟩ | refine ⟨6, _, rfl, ?_⟩ | refine ⟨7, _, rfl, ?_⟩ | refine ⟨8, _, rfl, ?_⟩ | refine ⟨9, _, rfl, ?_⟩); first | refine .inl ⟨_, one_any rfl, rfl, _, (by simp only [Act.put, List.setIfInBounds_toArray, List.set_cons_zero, List.set_cons_succ]; first | done | exact rfl), ?_⟩ | refine .inr ⟨_, _, row_any rfl, rfl, (by dsimp only [cutL, List.drop, List.take]; first | done | exact rfl), _, (by simp only [Act.put, List.setIfInBounds_toArray, List.set_cons_zero, List.set_cons_succ]; first | done | exact rfl), ?_⟩) | (refine wpl_stO hS rfl _ _ _ rfl rfl _ _ rfl ?_; (first | refine ⟨0, _, rfl, ?_⟩ | refine ⟨1, _, rfl, ?_⟩ | refine ⟨2, _, rfl, ?_⟩ | refine ⟨3, _, rfl, ?_⟩ | refine ⟨4, _, rfl, ?_⟩ | refine ⟨5, _, rfl, ?_⟩ | refine ⟨6, _, rfl, ?_⟩ | refine ⟨7, _, rfl, ?_⟩ | refine ⟨8, _, rfl, ?_⟩ | refine ⟨9, _, rfl, ?_⟩); refine ⟨_, (by first | exact shA rfl | exact shI rfl | exact shB rfl | exact shS rfl | exact shP rfl | exact shF rfl | exact shN rfl), _, siz_any rfl, (by exact rfl), (by exact rfl), (by exact rfl), ?_⟩; clear hS; intro _ hS hO; dsimp only [blit, List.set, List.cons_append, List.nil_append, Value.cells, List.toList_toArray] at hS))
  have hZ := hS.get 1 rfl
  have hgl := (unhide HI).lt
  refine bodyPost_ret (v := .tuple #[.pointer (some ⟨B, 0, none⟩), (.agg #[.int .i64 (c.t), .int .i64 (c.s), .int .i64 (c.k), .int .i64 (c.g), .int .u64 (c.q : Int), .slice (some ⟨g, 0, none⟩) c.n cap', .int .i64 0, .int .i64 0, .int .i64 0, .int .i64 0, .int .u64 0, .int .u64 0, .bool false]), .bool true]) (by simp [results, Tryz.results10, go_sem, hZ.cell 0 _ rfl, hZ.cell 1 _ rfl, hZ.cell 2 _ rfl, hZ.cell 3 _ rfl, hZ.cell 4 _ rfl, hZ.cell 5 _ rfl, hZ.cell 6 _ rfl, hZ.cell 7 _ rfl, hZ.cell 8 _ rfl, hZ.cell 9 _ rfl, hZ.cell 10 _ rfl, hZ.cell 11 _ rfl, hZ.cell 12 _ rfl]) rfl
    ⟨B, C, g, cap', rfl, hz1, hz2, by omega, by omega, memAt_of (hS.get 2 rfl) (hS.get 3 rfl) hne (unhide HR) (unhide HW), hc1, hc2, (unhide HI).off hO (by omega) (by omega), hS.bel⟩

end Go.Proofs.YtapgghciieloaaaGreat

/-
  A region that draws its order: one obligation an operation, whatever has come up beside it. No program in sight.
-/
namespace Go.Proofs.YtapgghciieloaaaGreat
set_option maxRecDepth 100000
open Go.RowKit

section
variable {P : Program} {ops : Array Oper} {Q : Exit → Act → World → Prop} {md : Region.Mode}

theorem count_set (l : List Bool) : ∀ (i : Nat), l[i]? = some false → (l.set i true).count true = l.count true + 1 := by
  induction l with
  | nil => intro i h; simp at h
  | cons x r ih =>
    intro i h
    cases i with
    | zero =>
      simp at h
      subst h
      simp
    | succ i =>
      simp at h
      have := ih i h
      simp only [List.set_cons_succ, List.count_cons, this]
      omega

theorem all_of_count (l : List Bool) (h : l.length ≤ l.count true) : ∀ i, i < l.length → l[i]? = some true := by
  induction l with
  | nil => intro i hi; simp at hi
  | cons x r ih =>
    have h1 := List.count_le_length (a := true) (l := r)
    intro i hi
    cases x with
    | false => simp at h; omega
    | true =>
      simp at h
      cases i with
      | zero => simp
      | succ i => simpa using ih (by omega) i (by simpa using hi)

theorem wpAny_og (I : (Nat → Bool) → Act → World → Prop)
    (hac : ∀ (i : Nat) (o : Oper), ops[i]? = some o → ∀ e ∈ o.after, Region.binds md e = true → e.on < i)
    (hst : ∀ (i : Nat) (o : Oper), ops[i]? = some o → ∀ D a w, D i = false → (∀ e ∈ o.after, Region.binds md e = true → D e.on = true) → I D a w → wpOp P ops Q i (fun a' w' => I (fun j => j == i || D j) a' w') a w)
    (hen : ∀ D a w, (∀ i, i < ops.size → D i = true) → I D a w → Q .normal a w) :
    ∀ (fuel : Nat) (listed : Array Bool) (a : Act) (w : World), listed.size = ops.size → ops.size ≤ fuel + listed.toList.count true → I (fun j => listed.getD j false) a w → wpAny P md ops Q fuel listed a w := by
  have hall : ∀ (listed : Array Bool), listed.size = ops.size → Region.ready md ops listed = [] → ∀ i, i < ops.size → listed.getD i false = true := by
    intro listed hs hr i
    induction i using Nat.strongRecOn with
    | ind i ih =>
      intro hi
      cases hb : listed.getD i false with
      | true => rfl
      | false =>
        have hil : i < listed.size := by omega
        have hin : i ∈ Region.ready md ops listed := by
          rw [mem_ready]
          refine ⟨by simpa [hil] using hb, ops[i], Array.getElem?_eq_getElem hi, fun e he hbd => ?_⟩
          have hlt := hac i ops[i] (Array.getElem?_eq_getElem hi) e he hbd
          exact ih e.on hlt (by omega)
        rw [hr] at hin
        cases hin
  have hat : ∀ (listed : Array Bool) (i : Nat), i ∈ Region.ready md ops listed → listed.getD i false = false ∧ listed.toList[i]? = some false ∧ ∃ o, ops[i]? = some o ∧ ∀ e ∈ o.after, Region.binds md e = true → listed.getD e.on false = true := by
    intro listed i hi
    obtain ⟨h0, o, ho, hp⟩ := mem_ready.1 hi
    have hil : i < listed.size := by
      rcases Nat.lt_or_ge i listed.size with h | h
      · exact h
      · simp [Array.getElem?_eq_none h] at h0
    have h1 : listed[i] = false := by simpa [hil] using h0
    exact ⟨by simp [hil, h1], by simp [hil, h1], o, ho, hp⟩
  intro fuel
  induction fuel with
  | zero =>
    intro listed a w hs hc hI
    have ht : ∀ i, i < ops.size → listed.getD i false = true := by
      intro i hi
      have hk := all_of_count listed.toList (by rw [Array.length_toList]; omega) i (by rw [Array.length_toList]; omega)
      have hil : i < listed.size := by omega
      simp [hil] at hk
      simp [hil, hk]
    refine ⟨?_, hen _ a w ht hI⟩
    apply List.eq_nil_iff_forall_not_mem.2
    intro i hi
    obtain ⟨h0, _, o, ho, _⟩ := hat listed i hi
    rw [ht i (Array.getElem?_eq_some_iff.1 ho).1] at h0
    cases h0
  | succ fuel ih =>
    intro listed a w hs hc hI
    refine ⟨fun hr => hen _ a w (hall listed hs hr) hI, fun i hi => ?_⟩
    obtain ⟨h0, h1, o, ho, hp⟩ := hat listed i hi
    refine wpOp_mono (fun a' w' hI' => ih (listed.setIfInBounds i true) a' w' (by simpa using hs) ?_ ?_) (hst i o ho _ a w h0 hp hI)
    · rw [Array.toList_setIfInBounds, count_set _ _ h1]
      omega
    · have e : (fun j => (listed.setIfInBounds i true).getD j false) = (fun j => j == i || listed.getD j false) := by
        funext j
        by_cases hj : j = i
        · subst hj
          have hil : j < listed.size := by
            rcases Nat.lt_or_ge j listed.size with h | h
            · exact h
            · simp [Array.getElem?_eq_none h] at h1
          simp [hil]
        · have : (j == i) = false := by simpa using hj
          rw [this, Bool.false_or]
          simp [Array.getD_eq_getD_getElem?, Ne.symm hj]
      rw [e]
      exact hI'

/-- edges that bind point to lower numbers, as a Bool -/
def acycB (md : Region.Mode) (ops : Array Oper) : Bool := (List.range ops.size).all fun i => (ops[i]?.map fun o => o.after.toList.all fun e => !Region.binds md e || decide (e.on < i)).getD true

theorem og_acyc (h : acycB md ops = true) {i : Nat} {o : Oper} (hi : ops[i]? = some o) {e : Edge} (he : e ∈ o.after) (hb : Region.binds md e = true) : e.on < i := by
  have h1 := List.all_eq_true.1 h i (List.mem_range.2 (Array.getElem?_eq_some_iff.1 hi).1)
  rw [hi] at h1
  simp only [Option.map_some, Option.getD_some] at h1
  have h2 := List.all_eq_true.1 h1 e (by simpa using he)
  simpa [hb] using h2

/-- one that comes ahead, as a Bool -/
def aheadB (md : Region.Mode) (o : Oper) (j : Nat) : Bool := o.after.toList.any fun e => Region.binds md e && e.on == j

theorem og_pre {o : Oper} {D : Nat → Bool} (hp : ∀ e ∈ o.after, Region.binds md e = true → D e.on = true) {j : Nat} (h : aheadB md o j = true) : D j = true := by
  obtain ⟨e, he, hb⟩ := List.any_eq_true.1 h
  simp only [Bool.and_eq_true, beq_iff_eq] at hb
  rw [← hb.2]
  exact hp e (by simpa using he) hb.1

/-- a region that draws: an assertion over what has come up, kept by each operation -/
theorem wp_region_og {id : Nat} {a : Act} {w : World} (I : (Nat → Bool) → Act → World → Prop) (hm : P.follows .mixedOrders = true)
    (hac : ∀ (i : Nat) (o : Oper), ops[i]? = some o → ∀ e ∈ o.after, Region.binds .any e = true → e.on < i)
    (h0 : I (fun _ => false) a w.drew)
    (hst : ∀ (i : Nat) (o : Oper), ops[i]? = some o → ∀ D a w, D i = false → (∀ e ∈ o.after, Region.binds .any e = true → D e.on = true) → I D a w → wpOp P ops Q i (fun a' w' => I (fun j => j == i || D j) a' w') a w)
    (hen : ∀ D a w, (∀ i, i < ops.size → D i = true) → I D a w → Q .normal a w) : (Code.region id ops true).wp P Q a w := by
  refine wp_region_any hm (wpAny_og I hac hst hen _ _ _ _ (by simp) (by simp) ?_)
  have e : (fun j => (Array.replicate ops.size false).getD j false) = (fun _ => false) := by
    funext j
    by_cases hj : j < ops.size <;> simp [Array.getD_eq_getD_getElem?, hj]
  rw [e]
  exact h0

end

end Go.Proofs.YtapgghciieloaaaGreat

/-
  Layer 6's contracts over blocks of two lists: the program's accesses, the document's, are they alike, a new pair.
-/
namespace Go.Proofs.YtapgghciieloaaaGreat
set_option maxRecDepth 100000
open Go.RowKit Go.Sort

/-- the words of one memory -/
def WordsOk (c : Um.Cf) (m : Um.Mm) : Prop := ∀ q, q < c.n → Um.Word (m.ws q)

/-- an elder block, or a new one -/
def Fr (w : World) (g g' : Nat) : Prop := g' = g ∨ w.heap.size ≤ g'

theorem Fr.refl (w : World) (g : Nat) : Fr w g g := .inl rfl

theorem Fr.trans {w u : World} {g g1 g2 : Nat} (h : Fr w g g1) (k : Fr u g1 g2) (hs : w.heap.size ≤ u.heap.size) : Fr w g g2 := by
  rcases k with rfl | k
  · exact h
  · exact .inr (Nat.le_trans hs k)

section
variable {bs : List Nat} {w0 w : World} {l e : List (Nat × List Value)} {B C g cg : Nat} {c : Um.Cf} {m : Um.Mm}

theorem Sx.mem (hS : Sx bs w0 w l e) (i j : Nat) (hi : l[i]? = some (B, memL c C m)) (hj : l[j]? = some (C, rowW m.ws c.n)) (hij : i ≠ j) (hr : c.r = true) (hw : WordsOk c m) : MemAt w B C c m :=
  memAt_of (hS.get i hi) (hS.get j hj) (hS.ne i j hi hj hij) hr hw

theorem Sx.memd {w' : World} {M : Um.Mm} (hS : Sx bs w0 w l e) (i j : Nat) (hi : l[i]? = some (B, memL c C m)) (hj : l[j]? = some (C, rowW m.ws c.n)) (hM : MemAt w' B C c M) (hO : Off B C w w') : Sx bs w0 w' (putL l [(i, B, memL c C M), (j, C, rowW M.ws c.n)]) e := by
  refine hS.sets _ (fun u hu => ?_) (Turn.of_off hO) (fun u hu => ?_)
  · rcases (by simpa using hu : u = (i, B, memL c C M) ∨ u = (j, C, rowW M.ws c.n)) with rfl | rfl
    · exact ⟨_, hi⟩
    · exact ⟨_, hj⟩
  · rcases (by simpa using hu : u = (i, B, memL c C M) ∨ u = (j, C, rowW M.ws c.n)) with rfl | rfl
    · exact hM.blkB
    · exact hM.blkC

theorem Sx.words (hS : Sx bs w0 w l e) (k : Nat) (hk : e[k]? = some (g, rowW m.ws c.n)) (hr : c.r = true) (hw : WordsOk c m) (h1 : c.n ≤ cg) (h2 : cg ≤ maxLen) : IsWords w (.slice (some ⟨g, 0, none⟩) c.n cg) c.n m.ws :=
  .inr ⟨g, 0, cg, rfl, by have := Um.Cf.n_pos hr; omega, h1, h2, (hS.getE k hk).lt, fun q hq => ⟨by rw [Nat.zero_add]; exact (hS.getE k hk).cell q _ (rowW_get _ c.n q hq), hw q hq⟩⟩

theorem mLoad_x (hS : Sx bs w0 w l e) (i j : Nat) (hi : l[i]? = some (B, memL c C m)) (hj : l[j]? = some (C, rowW m.ws c.n)) (hij : i ≠ j) (hr : c.r = true) (hw : WordsOk c m) (a b : Int) (hb0 : -9223372036854775808 ≤ b) (hb1 : b ≤ 9223372036854775807) (M : Um.Mm) (hM : M = Um.mtouch c m 1 a b 0 0) :
    Calls Tryz.prog 35 #[.pointer (some ⟨B, 0, none⟩), (.agg #[.int .i64 a, .int .i64 b])] w fun r w' => r = .returned (.int .u64 (M.l.old : Nat)) ∧ WordsOk c M ∧ Sx bs w0 w' (putL l [(i, B, memL c C M), (j, C, rowW M.ws c.n)]) e := by
  refine (mLoad_any (hS.mem i j hi hj hij hr hw) a b hb0 hb1 M hM).mono ?_
  rintro r w' ⟨rfl, h1, h2⟩
  exact ⟨rfl, h1.wd, hS.memd i j hi hj h1 h2⟩

theorem mStore_x (hS : Sx bs w0 w l e) (i j : Nat) (hi : l[i]? = some (B, memL c C m)) (hj : l[j]? = some (C, rowW m.ws c.n)) (hij : i ≠ j) (hr : c.r = true) (hw : WordsOk c m) (a b : Int) (x : Nat) (hx : Um.Word x) (hb0 : -9223372036854775808 ≤ b) (hb1 : b ≤ 9223372036854775807) (M : Um.Mm) (hM : M = Um.mtouch c m 2 a b 0 x) :
    Calls Tryz.prog 33 #[.pointer (some ⟨B, 0, none⟩), (.agg #[.int .i64 a, .int .i64 b]), .int .u64 (x : Nat)] w fun r w' => r = .returned (.tuple #[]) ∧ WordsOk c M ∧ Sx bs w0 w' (putL l [(i, B, memL c C M), (j, C, rowW M.ws c.n)]) e := by
  refine (mStore_any (hS.mem i j hi hj hij hr hw) a b x hx hb0 hb1 M hM).mono ?_
  rintro r w' ⟨rfl, h1, h2⟩
  exact ⟨rfl, h1.wd, hS.memd i j hi hj h1 h2⟩

theorem mSwap_x (hS : Sx bs w0 w l e) (i j : Nat) (hi : l[i]? = some (B, memL c C m)) (hj : l[j]? = some (C, rowW m.ws c.n)) (hij : i ≠ j) (hr : c.r = true) (hw : WordsOk c m) (a b : Int) (o x : Nat) (hx : Um.Word x) (hb0 : -9223372036854775808 ≤ b) (hb1 : b ≤ 9223372036854775807) (M : Um.Mm) (hM : M = Um.mtouch c m 3 a b o x) :
    Calls Tryz.prog 132 #[.pointer (some ⟨B, 0, none⟩), (.agg #[.int .i64 a, .int .i64 b]), .int .u64 (o : Nat), .int .u64 (x : Nat)] w fun r w' => r = .returned (.bool M.l.done) ∧ WordsOk c M ∧ Sx bs w0 w' (putL l [(i, B, memL c C M), (j, C, rowW M.ws c.n)]) e := by
  refine (mSwap_any (hS.mem i j hi hj hij hr hw) a b o x hx hb0 hb1 M hM).mono ?_
  rintro r w' ⟨rfl, h1, h2⟩
  exact ⟨rfl, h1.wd, hS.memd i j hi hj h1 h2⟩

theorem lOf_x (hS : Sx bs w0 w l e) (c : Um.Cf) (v : Value) (ws : Nat → Nat) (hr : c.r = true) (hv : IsWords w v c.n ws) :
    Calls Tryz.prog 10 #[(.agg #[.int .i64 (c.t), .int .i64 (c.s), .int .i64 (c.k), .int .i64 (c.g), .int .u64 (c.q : Int)]), v] w fun r w' => ∃ B C g cg, r = .returned (.tuple #[.pointer (some ⟨B, 0, none⟩), (.agg #[.int .i64 (c.t), .int .i64 (c.s), .int .i64 (c.k), .int .i64 (c.g), .int .u64 (c.q : Int), .slice (some ⟨g, 0, none⟩) c.n cg, .int .i64 0, .int .i64 0, .int .i64 0, .int .i64 0, .int .u64 0, .int .u64 0, .bool false]), .bool true]) ∧
      c.n ≤ cg ∧ cg ≤ maxLen ∧ WordsOk c ⟨ws, 0, Um.noT⟩ ∧ Sx bs w0 w' (l ++ [(B, memL c C ⟨ws, 0, Um.noT⟩), (C, rowW ws c.n)]) (e ++ [(g, rowW ws c.n)]) := by
  refine (lOf_own c v ws w hr hv).mono ?_
  rintro r w' ⟨B, C, g, cg, rfl, h1, h2, h3, h4, hM, h5, h6, hG, hb⟩
  refine ⟨B, C, g, cg, rfl, h5, h6, hM.wd, Sx.shelve ?_⟩
  rw [List.append_assoc]
  refine hS.adds hb _ (fun p hp => ?_) (fun p hp => ?_) ?_
  · rcases (by simpa using hp : p = (B, memL c C ⟨ws, 0, Um.noT⟩) ∨ p = (C, rowW ws c.n) ∨ p = (g, rowW ws c.n)) with rfl | rfl | rfl
    · exact hM.blkB
    · exact hM.blkC
    · exact hG
  · rcases (by simpa using hp : p = (B, memL c C ⟨ws, 0, Um.noT⟩) ∨ p = (C, rowW ws c.n) ∨ p = (g, rowW ws c.n)) with rfl | rfl | rfl
    · exact h1
    · exact h2
    · show w.heap.size ≤ g
      omega
  · have := hM.ne
    simp only [List.cons_append, List.nil_append, List.pairwise_cons, List.mem_cons, List.not_mem_nil, or_false, List.Pairwise.nil, and_true]
    refine ⟨?_, ?_, ?_⟩
    · rintro p (rfl | rfl)
      · exact this
      · show B ≠ g
        omega
    · rintro p rfl
      show C ≠ g
      omega
    · simp

end

end Go.Proofs.YtapgghciieloaaaGreat

/-
  What layer 12's laws are handed: a play (a ticket, a key, how many steps there are, what is written meanwhile): what its reading says of its cells; a row of words as a slice; many turns.
-/
namespace Go.Proofs.YtapgghciieloaaaGreat
set_option maxRecDepth 100000
open Go.ChangeShapes Go.WideShapes Go.ChangeAt Go.RowKit

theorem cellsPlay12 : Tryz.prog.cellsOf 28 = 4 := by kernel_rfl

theorem ar4d {α : Type} {cs : Array α} (h : cs.size = 4) : ∃ c0 c1 c2 c3, cs = #[c0, c1, c2, c3] := by
  obtain ⟨l⟩ := cs
  match l, h with
  | [c0, c1, c2, c3], _ => exact ⟨c0, c1, c2, c3, rfl⟩

theorem ls4d {α : Type} {cs : List α} (h : cs.length = 4) : ∃ c0 c1 c2 c3, cs = [c0, c1, c2, c3] := by
  match cs, h with
  | [c0, c1, c2, c3], _ => exact ⟨c0, c1, c2, c3, rfl⟩

theorem open_play12 {H : Type} {enc : TypeId × Value → H} {W : World} {base : Nat} {v : Value} {d : DataW H} {p : List MemPlace}
    (hv : Value.okWide Tryz.prog W .any base 28 v) (h : DataW.Trod enc Tryz.prog W 0 (fun _ => true) true 28 v d p) :
    ∃ (x : Nat) (ky st : Int) (la : Option Addr) (nl cl : Nat) (Z : Nat → Pok), v = .agg #[.int .u64 (x : Nat), .int .i64 ky, .int .i64 st, .slice la nl cl] ∧ Um.Word x ∧ (-9223372036854775808 ≤ ky ∧ ky ≤ 9223372036854775807) ∧ nl ≤ cl ∧ PokesAt W la nl Z := by
  obtain ⟨cs, rfl, hsz⟩ := okWide_struct Tryz.underlying28 hv
  obtain ⟨c0, c1, c2, c3, rfl⟩ := ar4d (hsz.trans cellsPlay12)
  obtain ⟨fuel, hf⟩ := h
  obtain ⟨xs, n, _, _, hl, hlen, hx⟩ := DataW.trod_struct Tryz.underlying28 hf
  obtain ⟨y0, y1, y2, y3, rfl⟩ := ls4d hlen
  obtain ⟨r, e0, _, k0⟩ := DataW.trod_int Tryz.underlying22 (hx 0 _ rfl)
  obtain ⟨ky, e1, _, k1⟩ := DataW.trod_int Tryz.underlying3 (hx 1 _ rfl)
  obtain ⟨st, e2, _, _⟩ := DataW.trod_int Tryz.underlying3 (hx 2 _ rfl)
  obtain ⟨la, nl, cl, Z, e3, hnc, hZ⟩ := open_pokes (hx 3 _ rfl)
  obtain ⟨r', rfl, w1⟩ := word_of k0
  simp [Value.cells, cellsWI, cellsWU, cellsPokes] at e0 e1 e2 e3
  subst e0 e1 e2 e3
  exact ⟨r', ky, st, la, nl, cl, Z, rfl, w1, int_of k1, hnc, hZ⟩

/-- a row of words of its own, as a slice -/
theorem isWords_blk {W : World} {g n : Nat} {ws : Nat → Nat} (hB : BlkAt W g (rowW ws n)) (h0 : 0 < n) (h2 : n ≤ maxLen) (hw : ∀ i, i < n → Um.Word (ws i)) : IsWords W (.slice (some ⟨g, 0, none⟩) n n) n ws :=
  .inr ⟨g, 0, n, rfl, h0, Nat.le_refl _, h2, hB.lt, fun q hq => ⟨by rw [Nat.zero_add]; exact hB.cell q _ (rowW_get _ n q hq), hw q hq⟩⟩

end Go.Proofs.YtapgghciieloaaaGreat

/-
  Plain arithmetic of layer 7: pins and graces over a memory. No Go in sight.
-/
namespace Um
set_option maxRecDepth 100000

/-- a grace over a memory: the memory, the thread that is asked next, did one hold -/
structure Gs where
  m : Mm
  oth : Int
  later : Bool

/-- a pin over a memory: the memory, what was loaded, how many steps there were -/
structure Ps where
  m : Mm
  ep : Nat
  st : Nat

theorem old_word {c : Cf} {m : Mm} {kind a b : Int} {old v : Nat} (h : ∀ i, i < c.n → Word (m.ws i)) : Word (mtouch c m kind a b old v).l.old := by
  unfold mtouch
  split
  · rename_i hp
    exact h _ (Cf.cl_lt hp)
  · show Word 0
    unfold Word
    omega

end Um

/-
  Plain arithmetic of layer 7: what pins and graces come to. No Go in sight.
-/
namespace Um
set_option maxRecDepth 100000

/-- an access that only loads leaves the words -/
theorem load_ws (c : Cf) (m : Mm) (a b : Int) : (mtouch c m 1 a b 0 0).ws = m.ws := by
  unfold mtouch
  split
  · show putW m.ws _ (trn 1 0 0 _) = m.ws
    exact putW_id (by simp [trn])
  · rfl

end Um

/-
  Plain arithmetic of layer 3's words: no Go in sight.
-/
namespace Um
set_option maxRecDepth 100000

/-- The parts of a word, and the word of which nothing is pending. -/
def seqN (x : Nat) : Nat := x / 16
def penN (x : Nat) : Int := (x % 16 : Nat) - 1
def setlN (x : Nat) : Nat := x - x % 16

def past (n s : Nat) : Bool := decide (0 < n ∧ n ≤ s)

end Um

/-
  Plain arithmetic of layer 8: a commit that is noted. No Go in sight.
-/
namespace Um
set_option maxRecDepth 100000

/-- a status word's state -/
def stN (x : Nat) : Nat := part x 27 3

/-- a status word of the state Committed, busy as it was -/
def comN (x : Nat) : Nat := moveN x 4 (x.testBit 26)

/-- a help over a memory: the memory, its next step (4: it is done), what it looked at -/
structure Hs where
  m : Mm
  nx : Nat
  s : Nat

end Um

/-
  The walks of layer 3's functions, and of the document's answers for them.
-/
namespace Go.Proofs.YtapgghciieloaaaGreat
set_option maxRecDepth 100000
open Go.RowKit Go.Sort

set_option maxHeartbeats 400000 in
theorem tPast_any (n s : Nat) (w : World) :
    Calls Tryz.prog 166 #[.int .u64 n, .int .u64 s] w fun e w' => e = .returned (.bool (Um.past n s)) ∧ w' = w := by
  by_cases h0 : n = 0
  · subst h0
    rw [show Um.past 0 s = false by unfold Um.past; simp]
    go_enter Tryz.func166, Tryz.ntmps166
    go_wp2
    all_goals go_ret
    all_goals exact ⟨rfl, rfl⟩
  · have h1 : ((n : Int) != 0) = true := by simp; omega
    go_enter Tryz.func166, Tryz.ntmps166
    go_wp2
    go_ret
    refine ⟨ret_bool ?_, rfl⟩
    unfold Um.past
    rw [Bool.eq_iff_iff, decide_eq_true_iff, decide_eq_true_iff]
    omega

end Go.Proofs.YtapgghciieloaaaGreat

/-
  The walks of layer 1's functions on words, and of the document's answers for them.
-/
namespace Go.Proofs.YtapgghciieloaaaGreat
set_option maxRecDepth 100000
open Go.RowKit

set_option maxHeartbeats 400000 in
theorem refHas_any (x : Nat) (a b : Int) (w : World) (hx : Um.Word x) :
    Calls Tryz.prog 66 #[.int .u64 x, .int .i64 a, .int .i64 b] w fun e w' => e = .returned (.bool (Um.hasN x a b)) ∧ w' = w := by
  cases ho : Um.okS a b with
  | true =>
    have hlt := Um.bitAt_lt ho
    have e : Um.hasN x a b = x.testBit (Um.bitAt a b) := by unfold Um.hasN; rw [ho]; rfl
    rw [e]
    clear e
    have hat : ∀ w, Calls Tryz.prog 78 #[.int .i64 a, .int .i64 b] w fun e w' => e = .returned (.int .i64 (Um.bitAt a b : Int)) ∧ w' = w := by
      intro w
      have := at_any a b w
      rwa [if_pos ho] at this
    have HA := hide hat
    clear hat
    generalize Um.bitAt a b = k at *
    go_enter Tryz.func66, Tryz.ntmps66
    go_wp2_with (first
      | (go_at_call 78; refine (unhide HA _).mono ?_; rintro e w' ⟨rfl, rfl⟩)
      | (go_at_call 95; refine (bit_any _ _ _ hx (by omega) (by omega)).mono ?_; rintro e w' ⟨rfl, rfl⟩))
    go_ret
    exact ⟨rfl, rfl⟩
  | false =>
    have e : Um.hasN x a b = false := by unfold Um.hasN; rw [ho]; rfl
    rw [e]
    clear e
    have hat : ∀ w, Calls Tryz.prog 78 #[.int .i64 a, .int .i64 b] w fun e w' => e = .returned (.int .i64 (-1)) ∧ w' = w := by
      intro w
      have := at_any a b w
      rwa [if_neg (by simp [ho])] at this
    have HA := hide hat
    clear hat
    go_enter Tryz.func66, Tryz.ntmps66
    go_wp2_with (first
      | (go_at_call 78; refine (unhide HA _).mono ?_; rintro e w' ⟨rfl, rfl⟩))
    go_ret
    exact ⟨rfl, rfl⟩

set_option maxHeartbeats 400000 in
theorem refWith_any (x : Nat) (a b : Int) (w : World) (hx : Um.Word x) :
    Calls Tryz.prog 38 #[.int .u64 x, .int .i64 a, .int .i64 b] w fun e w' => e = .returned (.int .u64 (Um.withN x a b)) ∧ w' = w := by
  cases ho : Um.okS a b with
  | true =>
    have hlt := Um.bitAt_lt ho
    have e : Um.withN x a b = Um.setN x ((Um.bitAt a b : Int).toNat) true := by unfold Um.withN; rw [ho]; rfl
    rw [e]
    clear e
    have hat : ∀ w, Calls Tryz.prog 78 #[.int .i64 a, .int .i64 b] w fun e w' => e = .returned (.int .i64 (Um.bitAt a b : Int)) ∧ w' = w := by
      intro w
      have := at_any a b w
      rwa [if_pos ho] at this
    have HA := hide hat
    clear hat
    generalize Um.bitAt a b = k at *
    go_enter Tryz.func38, Tryz.ntmps38
    go_wp2_with (first
      | (go_at_call 78; refine (unhide HA _).mono ?_; rintro e w' ⟨rfl, rfl⟩)
      | (go_at_call 64; refine (put_any _ _ _ _ hx (by omega) (by omega)).mono ?_; rintro e w' ⟨rfl, rfl⟩))
    go_ret
    exact ⟨rfl, rfl⟩
  | false =>
    have e : Um.withN x a b = x := Um.with_bad _ _ _ ho
    rw [e]
    clear e
    have hat : ∀ w, Calls Tryz.prog 78 #[.int .i64 a, .int .i64 b] w fun e w' => e = .returned (.int .i64 (-1)) ∧ w' = w := by
      intro w
      have := at_any a b w
      rwa [if_neg (by simp [ho])] at this
    have HA := hide hat
    clear hat
    go_enter Tryz.func38, Tryz.ntmps38
    go_wp2_with (first
      | (go_at_call 78; refine (unhide HA _).mono ?_; rintro e w' ⟨rfl, rfl⟩))
    go_ret
    exact ⟨rfl, rfl⟩

set_option maxHeartbeats 400000 in
theorem refAny_any (x : Nat) (a : Int) (w : World) (hx : Um.Word x) :
    Calls Tryz.prog 67 #[.int .u64 x, .int .i64 a] w fun e w' => e = .returned (.bool (Um.anyN x a)) ∧ ∃ n, w' = w.drewN n := by
  by_cases ha : a = 0 ∨ a = 1
  · have e : Um.anyN x a = (decide (0 < Um.part x (12 * a).toNat 12) || x.testBit (24 + a).toNat) := by unfold Um.anyN; simp [ha]
    rw [e]
    have ha0 : 0 ≤ a := by omega
    have ha1 : a ≤ 1 := by omega
    clear e ha
    have hn : ∀ w, Calls Tryz.prog 69 #[.int .u64 x, .int .i64 (12 * a), .int .i64 12] w fun e w' => e = .returned (.int .i64 (Um.part x (12 * a).toNat 12)) ∧ ∃ n, w' = w.drewN n :=
      fun w => number_any x (12 * a) 12 w hx (by omega) (by omega) (by omega) (by omega)
    have HN := hide hn
    clear hn
    generalize Um.part x (12 * a).toNat 12 = k at *
    by_cases hk : 0 < k
    all_goals
      go_enter Tryz.func67, Tryz.ntmps67
      go_wp2_with (first
        | (go_at_call 69; refine (unhide HN _).mono ?_; rintro e w' ⟨rfl, nq, rfl⟩)
        | (go_at_call 95; refine (bit_any _ _ _ hx (by omega) (by omega)).mono ?_; rintro e w' ⟨rfl, rfl⟩))
      go_ret
      refine ⟨ret_bool ?_, ⟨_, rfl⟩⟩
      simp [hk]
  · have h1 : Um.anyN x a = false := by unfold Um.anyN; simp [ha]
    rw [h1]
    clear h1
    go_enter Tryz.func67, Tryz.ntmps67
    go_wp2
    all_goals go_ret
    all_goals first | exact ⟨rfl, ⟨0, rfl⟩⟩ | omega

end Go.Proofs.YtapgghciieloaaaGreat

/-
  The walks of packing and unpacking.
-/
namespace Go.Proofs.YtapgghciieloaaaGreat
set_option maxRecDepth 100000
open Go.RowKit

attribute [local go_sem] alloc_drewN setCell_drewN

theorem div_word {x k : Nat} (h : Um.Word x) : Um.Word (x / k) := Nat.lt_of_le_of_lt (Nat.div_le_self _ _) h

theorem and_part (y n : Nat) (hy : Um.Word y) (hn : n < 63) : wrap64 (bits .and .u64 (y : Int) ((2 ^ n - 1 : Nat) : Int)) = (Um.part y 0 n : Int) := by
  have h1 : Um.Word (2 ^ n - 1) := Nat.lt_of_le_of_lt (Nat.sub_le _ _) (pow_word (by omega))
  have e : Um.part y 0 n = y % 2 ^ n := by unfold Um.part; simp
  rw [u64_and_nat _ _ hy h1, Um.and_mask, e]
  apply wrap64_small
  have h2 := Nat.mod_lt y (Nat.two_pow_pos n)
  have h3 : 2 ^ n < 2 ^ 63 := Nat.pow_lt_pow_right (by decide) hn
  rw [show (2:Nat) ^ 63 = 9223372036854775808 by decide] at h3
  omega

set_option maxHeartbeats 400000 in
theorem take_any (y : Nat) (a : Int) (B : Nat) (w : World) (hy : Um.Word y) (h0 : 0 ≤ a) (h1 : a < 63)
    (hc : w.cell? ⟨B, 0, none⟩ = some (.int .u64 y)) (hf : w.frozen? ⟨B, 0, none⟩ = false) :
    Calls Tryz.prog 129 #[.int .i64 a, .pointer (some ⟨B, 0, none⟩)] w fun e w' =>
      e = .returned (.int .i64 (Um.part y 0 a.toNat)) ∧ ∃ n, w' = (w.setCell ⟨B, 0, none⟩ (.int .u64 (y / 2 ^ a.toNat : Nat))).drewN n := by
  go_enter Tryz.func129, Tryz.ntmps129
  go_wp2
  go_quiet ((go_at_call 130; exact Calls.quiet_of_same (ones_any _ _ (by omega) (by omega))))
  go_wp2
  go_ret
  refine ⟨ret_i64 (and_part _ _ hy (by omega)), nq, ?_⟩
  rw [show ((y : Int) / 2 ^ a.toNat) = ((y / 2 ^ a.toNat : Nat) : Int) by simp]

set_option maxHeartbeats 4000000 in
theorem unpack_any (x : Nat) (w : World) (hx : Um.Word x) :
    Calls Tryz.prog 120 #[.int .u64 x] w fun e w' => e = .returned (.agg #[.int .i64 (Um.part x 30 32), .int .i64 (Um.part x 27 3), .bool (x.testBit 26), .bool (x.testBit 25), .bool (x.testBit 24), .int .i64 (Um.part x 12 12), .int .i64 (Um.part x 0 12)]) ∧ Below w.heap.size w w' := by
  go_enter Tryz.func120, Tryz.ntmps120
  go_wp2_with fail
  refine (take_any (x) _ _ _ (by repeat (first | exact hx | apply div_word)) (by omega) (by omega) (by go_simp) (by go_simp)).mono ?_
  rintro e w' ⟨rfl, n0, rfl⟩
  go_wp2_with fail
  refine (take_any (x / 2 ^ 12) _ _ _ (by repeat (first | exact hx | apply div_word)) (by omega) (by omega) (by go_simp) (by go_simp)).mono ?_
  rintro e w' ⟨rfl, n1, rfl⟩
  go_wp2_with fail
  refine (take_any (x / 2 ^ 12 / 2 ^ 12) _ _ _ (by repeat (first | exact hx | apply div_word)) (by omega) (by omega) (by go_simp) (by go_simp)).mono ?_
  rintro e w' ⟨rfl, n2, rfl⟩
  go_wp2_with fail
  refine (take_any (x / 2 ^ 12 / 2 ^ 12 / 2 ^ 1) _ _ _ (by repeat (first | exact hx | apply div_word)) (by omega) (by omega) (by go_simp) (by go_simp)).mono ?_
  rintro e w' ⟨rfl, n3, rfl⟩
  go_wp2_with fail
  refine (take_any (x / 2 ^ 12 / 2 ^ 12 / 2 ^ 1 / 2 ^ 1) _ _ _ (by repeat (first | exact hx | apply div_word)) (by omega) (by omega) (by go_simp) (by go_simp)).mono ?_
  rintro e w' ⟨rfl, n4, rfl⟩
  go_wp2_with fail
  refine (take_any (x / 2 ^ 12 / 2 ^ 12 / 2 ^ 1 / 2 ^ 1 / 2 ^ 1) _ _ _ (by repeat (first | exact hx | apply div_word)) (by omega) (by omega) (by go_simp) (by go_simp)).mono ?_
  rintro e w' ⟨rfl, n5, rfl⟩
  go_wp2_with fail
  refine (take_any (x / 2 ^ 12 / 2 ^ 12 / 2 ^ 1 / 2 ^ 1 / 2 ^ 1 / 2 ^ 3) _ _ _ (by repeat (first | exact hx | apply div_word)) (by omega) (by omega) (by go_simp) (by go_simp)).mono ?_
  rintro e w' ⟨rfl, n6, rfl⟩
  go_wp2
  simp only [Um.un12, Um.un24, Um.un25, Um.un26, Um.un27, Um.un30]
  refine bodyPost_ret (v := .agg #[.int .i64 (Um.part x 30 32), .int .i64 (Um.part x 27 3), .bool (x.testBit 26), .bool (x.testBit 25), .bool (x.testBit 24), .int .i64 (Um.part x 12 12), .int .i64 (Um.part x 0 12)]) (by simp [results, Tryz.results120, go_sem]) rfl ⟨rfl, ?_⟩
  apply below_drewN
  exact (((Below.refl _ _).alloc (Nat.le_refl _) _).alloc (by simp) _).alloc (by simp; omega) _

end Go.Proofs.YtapgghciieloaaaGreat
