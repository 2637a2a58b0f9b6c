/-
  A region that draws its order: one obligation an operation, whatever has come up beside it. No program in sight.
-/
import Derived.WalkKit
import Derived.Orders
namespace Go.Proofs.Ytjicfonpldobdaa
set_option maxRecDepth 100000
open Go.RowKit

section
variable {P : Program} {ops : Array Oper} {Q : Exit → Act → World → Prop} {md : Region.Mode}

theorem count_set (l : List Bool) : ∀ (i : Nat), l[i]? = some false → (l.set i true).count true = l.count true + 1 := by
  induction l with
  | nil => intro i h; simp at h
  | cons x r ih =>
    intro i h
    cases i with
    | zero =>
      simp at h
      subst h
      simp
    | succ i =>
      simp at h
      have := ih i h
      simp only [List.set_cons_succ, List.count_cons, this]
      omega

theorem all_of_count (l : List Bool) (h : l.length ≤ l.count true) : ∀ i, i < l.length → l[i]? = some true := by
  induction l with
  | nil => intro i hi; simp at hi
  | cons x r ih =>
    have h1 := List.count_le_length (a := true) (l := r)
    intro i hi
    cases x with
    | false => simp at h; omega
    | true =>
      simp at h
      cases i with
      | zero => simp
      | succ i => simpa using ih (by omega) i (by simpa using hi)

theorem wpAny_og (I : (Nat → Bool) → Act → World → Prop)
    (hac : ∀ (i : Nat) (o : Oper), ops[i]? = some o → ∀ e ∈ o.after, Region.binds md e = true → e.on < i)
    (hst : ∀ (i : Nat) (o : Oper), ops[i]? = some o → ∀ D a w, D i = false → (∀ e ∈ o.after, Region.binds md e = true → D e.on = true) → I D a w → wpOp P ops Q i (fun a' w' => I (fun j => j == i || D j) a' w') a w)
    (hen : ∀ D a w, (∀ i, i < ops.size → D i = true) → I D a w → Q .normal a w) :
    ∀ (fuel : Nat) (listed : Array Bool) (a : Act) (w : World), listed.size = ops.size → ops.size ≤ fuel + listed.toList.count true → I (fun j => listed.getD j false) a w → wpAny P md ops Q fuel listed a w := by
  have hall : ∀ (listed : Array Bool), listed.size = ops.size → Region.ready md ops listed = [] → ∀ i, i < ops.size → listed.getD i false = true := by
    intro listed hs hr i
    induction i using Nat.strongRecOn with
    | ind i ih =>
      intro hi
      cases hb : listed.getD i false with
      | true => rfl
      | false =>
        have hil : i < listed.size := by omega
        have hin : i ∈ Region.ready md ops listed := by
          rw [mem_ready]
          refine ⟨by simpa [hil] using hb, ops[i], Array.getElem?_eq_getElem hi, fun e he hbd => ?_⟩
          have hlt := hac i ops[i] (Array.getElem?_eq_getElem hi) e he hbd
          exact ih e.on hlt (by omega)
        rw [hr] at hin
        cases hin
  have hat : ∀ (listed : Array Bool) (i : Nat), i ∈ Region.ready md ops listed → listed.getD i false = false ∧ listed.toList[i]? = some false ∧ ∃ o, ops[i]? = some o ∧ ∀ e ∈ o.after, Region.binds md e = true → listed.getD e.on false = true := by
    intro listed i hi
    obtain ⟨h0, o, ho, hp⟩ := mem_ready.1 hi
    have hil : i < listed.size := by
      rcases Nat.lt_or_ge i listed.size with h | h
      · exact h
      · simp [Array.getElem?_eq_none h] at h0
    have h1 : listed[i] = false := by simpa [hil] using h0
    exact ⟨by simp [hil, h1], by simp [hil, h1], o, ho, hp⟩
  intro fuel
  induction fuel with
  | zero =>
    intro listed a w hs hc hI
    have ht : ∀ i, i < ops.size → listed.getD i false = true := by
      intro i hi
      have hk := all_of_count listed.toList (by rw [Array.length_toList]; omega) i (by rw [Array.length_toList]; omega)
      have hil : i < listed.size := by omega
      simp [hil] at hk
      simp [hil, hk]
    refine ⟨?_, hen _ a w ht hI⟩
    apply List.eq_nil_iff_forall_not_mem.2
    intro i hi
    obtain ⟨h0, _, o, ho, _⟩ := hat listed i hi
    rw [ht i (Array.getElem?_eq_some_iff.1 ho).1] at h0
    cases h0
  | succ fuel ih =>
    intro listed a w hs hc hI
    refine ⟨fun hr => hen _ a w (hall listed hs hr) hI, fun i hi => ?_⟩
    obtain ⟨h0, h1, o, ho, hp⟩ := hat listed i hi
    refine wpOp_mono (fun a' w' hI' => ih (listed.setIfInBounds i true) a' w' (by simpa using hs) ?_ ?_) (hst i o ho _ a w h0 hp hI)
    · rw [Array.toList_setIfInBounds, count_set _ _ h1]
      omega
    · have e : (fun j => (listed.setIfInBounds i true).getD j false) = (fun j => j == i || listed.getD j false) := by
        funext j
        by_cases hj : j = i
        · subst hj
          have hil : j < listed.size := by
            rcases Nat.lt_or_ge j listed.size with h | h
            · exact h
            · simp [Array.getElem?_eq_none h] at h1
          simp [hil]
        · have : (j == i) = false := by simpa using hj
          rw [this, Bool.false_or]
          simp [Array.getD_eq_getD_getElem?, Ne.symm hj]
      rw [e]
      exact hI'

/-- edges that bind point to lower numbers, as a Bool -/
def acycB (md : Region.Mode) (ops : Array Oper) : Bool := (List.range ops.size).all fun i => (ops[i]?.map fun o => o.after.toList.all fun e => !Region.binds md e || decide (e.on < i)).getD true

theorem og_acyc (h : acycB md ops = true) {i : Nat} {o : Oper} (hi : ops[i]? = some o) {e : Edge} (he : e ∈ o.after) (hb : Region.binds md e = true) : e.on < i := by
  have h1 := List.all_eq_true.1 h i (List.mem_range.2 (Array.getElem?_eq_some_iff.1 hi).1)
  rw [hi] at h1
  simp only [Option.map_some, Option.getD_some] at h1
  have h2 := List.all_eq_true.1 h1 e (by simpa using he)
  simpa [hb] using h2

/-- one that comes ahead, as a Bool -/
def aheadB (md : Region.Mode) (o : Oper) (j : Nat) : Bool := o.after.toList.any fun e => Region.binds md e && e.on == j

theorem og_pre {o : Oper} {D : Nat → Bool} (hp : ∀ e ∈ o.after, Region.binds md e = true → D e.on = true) {j : Nat} (h : aheadB md o j = true) : D j = true := by
  obtain ⟨e, he, hb⟩ := List.any_eq_true.1 h
  simp only [Bool.and_eq_true, beq_iff_eq] at hb
  rw [← hb.2]
  exact hp e (by simpa using he) hb.1

/-- a region that draws: an assertion over what has come up, kept by each operation -/
theorem wp_region_og {id : Nat} {a : Act} {w : World} (I : (Nat → Bool) → Act → World → Prop) (hm : P.follows .mixedOrders = true)
    (hac : ∀ (i : Nat) (o : Oper), ops[i]? = some o → ∀ e ∈ o.after, Region.binds .any e = true → e.on < i)
    (h0 : I (fun _ => false) a w.drew)
    (hst : ∀ (i : Nat) (o : Oper), ops[i]? = some o → ∀ D a w, D i = false → (∀ e ∈ o.after, Region.binds .any e = true → D e.on = true) → I D a w → wpOp P ops Q i (fun a' w' => I (fun j => j == i || D j) a' w') a w)
    (hen : ∀ D a w, (∀ i, i < ops.size → D i = true) → I D a w → Q .normal a w) : (Code.region id ops true).wp P Q a w := by
  refine wp_region_any hm (wpAny_og I hac hst hen _ _ _ _ (by simp) (by simp) ?_)
  have e : (fun j => (Array.replicate ops.size false).getD j false) = (fun _ => false) := by
    funext j
    by_cases hj : j < ops.size <;> simp [Array.getD_eq_getD_getElem?, hj]
  rw [e]
  exact h0

end

end Go.Proofs.Ytjicfonpldobdaa
