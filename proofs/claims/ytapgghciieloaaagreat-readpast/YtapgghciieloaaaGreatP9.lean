/-
  Texts that the laws stand on, merged (ReadS, ReadA, ReadB, GateMath4, GateMath5).
-/
import Derived.Test.YtapgghciieloaaaGreatP1
import Derived.Test.YtapgghciieloaaaGreatP6
import Derived.Test.YtapgghciieloaaaGreatP7
import Derived.Test.YtapgghciieloaaaGreatP8
import Derived.Laws.EntriesVeiled
import Derived.Lib.QuietBelow

/-
  A caller's blocks, a callee's: three of a list and all of its tail are handed in; what is handed back stands in their place.
-/
namespace Go.Proofs.YtapgghciieloaaaGreat
set_option maxRecDepth 100000
open Go.RowKit Go.Sort
set_option linter.unusedVariables false
set_option linter.unusedSimpArgs false

section
variable {bs : List Nat} {w0 w w' : World} {l e : List (Nat × List Value)}

/-- some of the blocks, in whatever order -/
theorem Sx.sub {l' e' : List (Nat × List Value)} (h : Sx bs w0 w l e) (hs : ∀ p ∈ l', p ∈ l) (hn : l'.Pairwise (fun p q => p.1 ≠ q.1)) (he : ∀ p ∈ e', p ∈ e) : Sx bs w0 w l' e' :=
  ⟨h.off, fun p hp => h.low p (hs p hp), fun p hp => h.blk p (hs p hp), hn, fun p hp => h.eb p (he p hp), fun p hp q hq => h.ed p (he p hp) q (hs q hq)⟩

/-- a row of places -/
def placesL (l : List (Nat × List Value)) (us : List (Nat × Nat × List Value)) : Prop := ∀ u ∈ us, ∃ cs, l[u.1]? = some (u.2.1, cs)

/-- what a callee was handed, by place, and what it has made -/
theorem Sx.backG {us : List (Nat × Nat × List Value)} {r sb : List (Nat × List Value)} (h : Sx bs w0 w l e) (hu : placesL l us) (hL : Sx (us.map (·.2.1)) w w' (us.map (fun u => (u.2.1, u.2.2)) ++ r) (e ++ sb)) (hsb : ∀ p ∈ sb, w.heap.size ≤ p.1) : Sx bs w0 w' (putL l us ++ r) (e ++ sb) := by
  have h1 : Sx bs w0 w' (putL l us) e := h.sets us hu hL.off (fun u hm => hL.blk (u.2.1, u.2.2) (List.mem_append_left _ (List.mem_map_of_mem hm)))
  have hnd := List.pairwise_append.1 hL.nd
  have hr : ∀ p ∈ r, w.heap.size ≤ p.1 := by
    intro p hp
    rcases hL.low p (List.mem_append_right _ hp) with q | q
    · obtain ⟨u, hu1, hu2⟩ := List.mem_map.1 q
      exact absurd hu2 (hnd.2.2 _ (List.mem_map_of_mem hu1) p hp)
    · exact q
  have hlt : ∀ p ∈ putL l us, p.1 < w.heap.size := by
    intro p hp
    have : p.1 ∈ (putL l us).map (·.1) := List.mem_map_of_mem hp
    rw [putL_fst us l hu] at this
    obtain ⟨q, hq, e⟩ := List.mem_map.1 this
    rw [← e]
    exact (h.blk q hq).lt
  refine ⟨h1.off, fun p hp => ?_, fun p hp => ?_, ?_, fun p hp => hL.eb p hp, fun p hp q hq => ?_⟩
  · rcases List.mem_append.1 hp with q | q
    · exact h1.low p q
    · exact .inr (Nat.le_trans h.size (hr p q))
  · rcases List.mem_append.1 hp with q | q
    · exact h1.blk p q
    · exact hL.blk p (List.mem_append_right _ q)
  · rw [List.pairwise_append]
    refine ⟨h1.nd, hnd.2.1, fun p hp q hq => ?_⟩
    have := hlt p hp
    have := hr q hq
    omega
  · rcases List.mem_append.1 hq with q1 | q1
    · rcases List.mem_append.1 hp with p1 | p1
      · exact h1.ed p p1 q q1
      · have := hlt q q1
        have := hsb p p1
        omega
    · exact hL.ed p hp q (List.mem_append_right _ q1)

section
variable {b1 b2 b3 : Nat} {c1 c2 c3 d1 d2 d3 : List Value} {hb hb' sb : List (Nat × List Value)}

theorem Sx.enters (hS : Sx bs w0 w (l ++ hb) e) (i j k : Nat) (hi : l[i]? = some (b1, c1)) (hj : l[j]? = some (b2, c2)) (hk : l[k]? = some (b3, c3)) (hij : i ≠ j) (hik : i ≠ k) (hjk : j ≠ k) :
    Sx (b1 :: b2 :: b3 :: hb.map (·.1)) w w ((b1, c1) :: (b2, c2) :: (b3, c3) :: hb) e := by
  have hl : Sx bs w0 w l e := hS.sub (fun p hp => List.mem_append_left _ hp) (List.pairwise_append.1 hS.nd).1 (fun p hp => hp)
  have hm := List.pairwise_append.1 hS.nd
  have m1 := List.mem_of_getElem? hi
  have m2 := List.mem_of_getElem? hj
  have m3 := List.mem_of_getElem? hk
  have n1 := hl.ne i j hi hj hij
  have n2 := hl.ne i k hi hk hik
  have n3 := hl.ne j k hj hk hjk
  refine hS.enter ((b1, c1) :: (b2, c2) :: (b3, c3) :: hb) e (fun p hp => ?_) ?_ (fun p hp => hp)
  · rcases List.mem_cons.1 hp with rfl | hp
    · exact List.mem_append_left _ m1
    rcases List.mem_cons.1 hp with rfl | hp
    · exact List.mem_append_left _ m2
    rcases List.mem_cons.1 hp with rfl | hp
    · exact List.mem_append_left _ m3
    · exact List.mem_append_right _ hp
  · refine List.pairwise_cons.2 ⟨fun p hp => ?_, List.pairwise_cons.2 ⟨fun p hp => ?_, List.pairwise_cons.2 ⟨fun p hp => hm.2.2 _ m3 p hp, hm.2.1⟩⟩⟩
    · rcases List.mem_cons.1 hp with rfl | hp
      · exact n1
      rcases List.mem_cons.1 hp with rfl | hp
      · exact n2
      · exact hm.2.2 _ m1 p hp
    · rcases List.mem_cons.1 hp with rfl | hp
      · exact n3
      · exact hm.2.2 _ m2 p hp

theorem Sx.backs (hS : Sx bs w0 w (l ++ hb) e) (i j k : Nat) (hi : l[i]? = some (b1, c1)) (hj : l[j]? = some (b2, c2)) (hk : l[k]? = some (b3, c3))
    (hL : Sx (b1 :: b2 :: b3 :: hb.map (·.1)) w w' ((b1, d1) :: (b2, d2) :: (b3, d3) :: hb') (e ++ sb)) (hsb : ∀ p ∈ sb, w.heap.size ≤ p.1) :
    Sx bs w0 w' (putL l [(i, b1, d1), (j, b2, d2), (k, b3, d3)] ++ hb') (e ++ sb) := by
  have hm := List.pairwise_append.1 hS.nd
  have hl : Sx bs w0 w l e := hS.sub (fun p hp => List.mem_append_left _ hp) hm.1 (fun p hp => hp)
  have m1 := List.mem_of_getElem? hi
  have m2 := List.mem_of_getElem? hj
  have m3 := List.mem_of_getElem? hk
  have hu : placesL l [(i, b1, d1), (j, b2, d2), (k, b3, d3)] := by
    intro u hu
    rcases (by simpa using hu : u = (i, b1, d1) ∨ u = (j, b2, d2) ∨ u = (k, b3, d3)) with rfl | rfl | rfl
    · exact ⟨_, hi⟩
    · exact ⟨_, hj⟩
    · exact ⟨_, hk⟩
  have hn : ∀ p ∈ putL l [(i, b1, d1), (j, b2, d2), (k, b3, d3)], ∃ q ∈ l, q.1 = p.1 := by
    intro p hp
    have : p.1 ∈ (putL l [(i, b1, d1), (j, b2, d2), (k, b3, d3)]).map (·.1) := List.mem_map_of_mem hp
    rw [putL_fst _ l hu] at this
    obtain ⟨q, hq, e⟩ := List.mem_map.1 this
    exact ⟨q, hq, e⟩
  have c3' := List.pairwise_cons.1 hL.nd
  have c2' := List.pairwise_cons.1 c3'.2
  have c1' := List.pairwise_cons.1 c2'.2
  have hlow : ∀ q ∈ hb', (∃ r ∈ hb, r.1 = q.1) ∨ w.heap.size ≤ q.1 := by
    intro q hq
    rcases hL.low q (by simp [hq]) with x | x
    · rcases List.mem_cons.1 x with x | x
      · exact absurd x.symm (c3'.1 q (by simp [hq]))
      rcases List.mem_cons.1 x with x | x
      · exact absurd x.symm (c2'.1 q (by simp [hq]))
      rcases List.mem_cons.1 x with x | x
      · exact absurd x.symm (c1'.1 q hq)
      · obtain ⟨r, hr, e⟩ := List.mem_map.1 x
        exact .inl ⟨r, hr, e⟩
    · exact .inr x
  refine ⟨hS.off.widen hL.off (fun x hx => ?_), fun p hp => ?_, fun p hp => ?_, ?_, fun p hp => hL.eb p hp, fun p hp q hq => ?_⟩
  · rcases List.mem_cons.1 hx with rfl | hx
    · exact hl.low _ m1
    rcases List.mem_cons.1 hx with rfl | hx
    · exact hl.low _ m2
    rcases List.mem_cons.1 hx with rfl | hx
    · exact hl.low _ m3
    · obtain ⟨r, hr, rfl⟩ := List.mem_map.1 hx
      exact hS.low r (List.mem_append_right _ hr)
  · rcases List.mem_append.1 hp with q | q
    · obtain ⟨r, hr, e⟩ := hn p q
      rw [← e]
      exact hl.low r hr
    · rcases hlow p q with ⟨r, hr, e⟩ | x
      · rw [← e]
        exact hS.low r (List.mem_append_right _ hr)
      · exact .inr (Nat.le_trans hS.size x)
  · rcases List.mem_append.1 hp with q | q
    · rcases putL_mem _ l p q with ⟨u, hu', rfl⟩ | ⟨x, hx, hne⟩
      · rcases (by simpa using hu' : u = (i, b1, d1) ∨ u = (j, b2, d2) ∨ u = (k, b3, d3)) with rfl | rfl | rfl
        · exact hL.blk (b1, d1) (by simp)
        · exact hL.blk (b2, d2) (by simp)
        · exact hL.blk (b3, d3) (by simp)
      · have hp' := List.mem_of_getElem? hx
        refine (hl.blk p hp').turn hL.off (fun hm' => ?_)
        rcases List.mem_cons.1 hm' with y | hm'
        · exact hl.ne (cs := c1) (cs' := p.2) i x hi hx (hne (i, b1, d1) (by simp)) y.symm
        rcases List.mem_cons.1 hm' with y | hm'
        · exact hl.ne (cs := c2) (cs' := p.2) j x hj hx (hne (j, b2, d2) (by simp)) y.symm
        rcases List.mem_cons.1 hm' with y | hm'
        · exact hl.ne (cs := c3) (cs' := p.2) k x hk hx (hne (k, b3, d3) (by simp)) y.symm
        · obtain ⟨r, hr, e⟩ := List.mem_map.1 hm'
          exact hm.2.2 p hp' r hr e.symm
    · exact hL.blk p (by simp [q])
  · rw [List.pairwise_append]
    refine ⟨?_, c1'.2, fun p hp q hq => ?_⟩
    · have : ((putL l [(i, b1, d1), (j, b2, d2), (k, b3, d3)]).map (·.1)).Pairwise (· ≠ ·) := by rw [putL_fst _ l hu, List.pairwise_map]; exact hm.1
      rw [List.pairwise_map] at this
      exact this
    · obtain ⟨r, hr, e⟩ := hn p hp
      rw [← e]
      rcases hlow q hq with ⟨x, hx, e2⟩ | x
      · rw [← e2]
        exact hm.2.2 r hr x hx
      · have := (hl.blk r hr).lt
        omega
  · rcases List.mem_append.1 hq with q1 | q1
    · obtain ⟨r, hr, e2⟩ := hn q q1
      rw [← e2]
      rcases List.mem_append.1 hp with p1 | p1
      · exact hl.ed p p1 r hr
      · have := (hl.blk r hr).lt
        have := hsb p p1
        omega
    · exact hL.ed p hp q (by simp [q1])

end

theorem Sx.back1s {b1 : Nat} {c1 d1 : List Value} {r sb : List (Nat × List Value)} (hS : Sx bs w0 w l e) (i : Nat) (hi : l[i]? = some (b1, c1)) (hL : Sx [b1] w w' ((b1, d1) :: r) (e ++ sb)) (hsb : ∀ p ∈ sb, w.heap.size ≤ p.1) : Sx bs w0 w' (putL l [(i, b1, d1)] ++ r) (e ++ sb) :=
  hS.backG (us := [(i, b1, d1)]) (fun u hu => by
    obtain rfl : u = _ := by simpa using hu
    exact ⟨_, hi⟩) hL hsb

theorem Sx.back1r {b1 : Nat} {c1 d1 : List Value} {r : List (Nat × List Value)} (hS : Sx bs w0 w l e) (i : Nat) (hi : l[i]? = some (b1, c1)) (hL : Sx [b1] w w' ((b1, d1) :: r) e) : Sx bs w0 w' (putL l [(i, b1, d1)] ++ r) e := by
  have h := hS.back1s (sb := []) i hi (by rw [List.append_nil]; exact hL) (fun p hp => by cases hp)
  rwa [List.append_nil] at h

theorem Sx.back2r {b1 b2 : Nat} {c1 c2 d1 d2 : List Value} {r : List (Nat × List Value)} (hS : Sx bs w0 w l e) (i j : Nat) (hi : l[i]? = some (b1, c1)) (hj : l[j]? = some (b2, c2)) (hL : Sx [b1, b2] w w' ((b1, d1) :: (b2, d2) :: r) e) : Sx bs w0 w' (putL l [(i, b1, d1), (j, b2, d2)] ++ r) e := by
  have h := hS.backG (w' := w') (us := [(i, b1, d1), (j, b2, d2)]) (r := r) (sb := []) (fun u hu => by
    rcases (by simpa using hu : u = (i, b1, d1) ∨ u = (j, b2, d2)) with rfl | rfl
    · exact ⟨_, hi⟩
    · exact ⟨_, hj⟩) (by rw [List.append_nil]; exact hL) (fun p hp => by cases hp)
  rwa [List.append_nil] at h

theorem Sx.enter2e {b1 b2 : Nat} {c1 c2 : List Value} (hS : Sx bs w0 w l e) (i j : Nat) (hi : l[i]? = some (b1, c1)) (hj : l[j]? = some (b2, c2)) (hij : i ≠ j) : Sx [b1, b2] w w [(b1, c1), (b2, c2)] e :=
  hS.enter [(b1, c1), (b2, c2)] e (fun p hp => by
      rcases (by simpa using hp : p = (b1, c1) ∨ p = (b2, c2)) with rfl | rfl
      · exact List.mem_of_getElem? hi
      · exact List.mem_of_getElem? hj)
    (by
      have h1 := hS.ne i j hi hj hij
      simp [h1]) (fun p hp => hp)

/-- blocks that a callee has made, and that are only read from then on -/
theorem Sx.addEs12 {sb : List (Nat × List Value)} (h : Sx bs w0 w l e) (b : Below w.heap.size w w') (hb : ∀ p ∈ sb, BlkAt w' p.1 p.2 ∧ w.heap.size ≤ p.1) : Sx bs w0 w' l (e ++ sb) := by
  have h' := h.call b
  refine ⟨h'.off, h'.low, h'.blk, h'.nd, fun p hp => ?_, fun p hp q hq => ?_⟩
  · rcases List.mem_append.1 hp with q | q
    · exact h'.eb p q
    · exact (hb p q).1
  · rcases List.mem_append.1 hp with q1 | q1
    · exact h'.ed p q1 q hq
    · have h3 := (h.blk q hq).lt
      have h4 := (hb p q1).2
      omega

theorem row_blk12 {W : World} {base : Nat} {t : TypeId} {v : Value} {xs : List Int} (h : W.ownsRow base t 1 v xs.length (xs.map (Value.int .i64))) :
    ∃ a n c, ∃ sb : List (Nat × List Value), v = .slice a n c ∧ (∀ p ∈ sb, BlkAt W p.1 p.2 ∧ base ≤ p.1) ∧ ∀ W', (∀ p ∈ sb, BlkAt W' p.1 p.2) → IsRow W' (.slice a n c) xs := by
  rcases h.2 with ⟨rfl, h0⟩ | ⟨g, cap, cur, rfl, hg, hb, h1, h2, h3, h4⟩
  · exact ⟨none, 0, 0, [], rfl, (fun p hp => by cases hp), fun W' _ => .inl ⟨rfl, List.length_eq_zero_iff.1 h0⟩⟩
  · have hB : BlkAt W g (xs.map (Value.int .i64)) := by
      have hn := blkAt_new hb
      refine ⟨hn.lt, fun j v hj => hn.cell j v ?_, hn.fz⟩
      rw [← h4] at hj
      have hl := (List.getElem?_eq_some_iff.1 hj).1
      rw [List.length_take] at hl
      exact (List.getElem?_take_of_lt (by omega)).symm.trans hj
    refine ⟨_, _, _, [(g, xs.map (Value.int .i64))], rfl, fun p hp => ?_, fun W' hW => .inr ⟨g, 0, cap, rfl, h1, h2, (hW (g, xs.map (Value.int .i64)) (by simp)).lt, fun j hj => ?_⟩⟩
    · obtain rfl : p = (g, xs.map (Value.int .i64)) := by simpa using hp
      exact ⟨hB, hg⟩
    · rw [Nat.zero_add]
      exact (hW (g, xs.map (Value.int .i64)) (by simp)).cell j _ (by simp [hj])

/-- a row cut at its head -/
theorem isRow_cut {W : World} {a : Option Addr} {n cap : Nat} {x : Int} {xs : List Int} (h : IsRow W (.slice a n cap) (x :: xs)) :
    ∃ b off, a = some ⟨b, off, none⟩ ∧ n = xs.length + 1 ∧ n ≤ cap ∧ cap ≤ maxLen ∧ b < W.heap.size ∧ W.cell? ⟨b, off, none⟩ = some (.int .i64 x) := by
  rcases h with ⟨_, h⟩ | ⟨b, off, cap', h, h1, h2, h3, h4⟩
  · cases h
  · simp only [Value.slice.injEq, List.length_cons] at h
    obtain ⟨rfl, rfl, rfl⟩ := h
    simp only [List.length_cons] at h1 h4
    exact ⟨b, off, rfl, rfl, h1, h2, h3, by have := h4 0 (by omega); simpa using this⟩

theorem isRow_rest {W : World} {b off cap : Nat} {x : Int} {xs : List Int} (h : IsRow W (.slice (some ⟨b, off, none⟩) (xs.length + 1) cap) (x :: xs)) : IsRow W (.slice (some ⟨b, off + 1, none⟩) xs.length (cap - 1)) xs := by
  rcases h with ⟨_, h⟩ | ⟨b', off', cap', h, h1, h2, h3, h4⟩
  · cases h
  · simp only [Value.slice.injEq, List.length_cons, Option.some.injEq, Addr.mk.injEq] at h
    obtain ⟨⟨rfl, rfl, _⟩, _, rfl⟩ := h
    simp only [List.length_cons] at h1 h4
    refine .inr ⟨b, off + 1, cap - 1, rfl, by omega, by omega, h3, fun j hj => ?_⟩
    have := h4 (j + 1) (by omega)
    simpa [Nat.add_assoc, Nat.add_comm 1 j] using this

theorem isRow_end {W : World} {b off cap : Nat} {x : Int} {xs : List Int} (h : IsRow W (.slice (some ⟨b, off, none⟩) (xs.length + 1) cap) (x :: xs)) (hc : cap = 1) : xs = [] ∧ IsRow W (.slice (some ⟨b, off, none⟩) xs.length 0) xs := by
  rcases h with ⟨_, h⟩ | ⟨b', off', cap', h, h1, h2, h3, h4⟩
  · cases h
  · simp only [Value.slice.injEq, List.length_cons, Option.some.injEq, Addr.mk.injEq] at h
    obtain ⟨⟨rfl, rfl, _⟩, _, rfl⟩ := h
    simp only [List.length_cons] at h1
    have hx : xs = [] := List.length_eq_zero_iff.1 (by omega)
    subst hx
    exact ⟨rfl, .inr ⟨b, off, 0, rfl, Nat.le_refl _, by omega, h3, fun j hj => absurd hj (Nat.not_lt_zero _)⟩⟩

theorem put3_get {i j k : Nat} {a b d : Nat × List Value} (hi : i < l.length) (hj : j < l.length) (hk : k < l.length) (hij : i ≠ j) (hik : i ≠ k) (hjk : j ≠ k) :
    (putL l [(i, a), (j, b), (k, d)])[i]? = some a ∧ (putL l [(i, a), (j, b), (k, d)])[j]? = some b ∧ (putL l [(i, a), (j, b), (k, d)])[k]? = some d := by
  show (((l.set i a).set j b).set k d)[i]? = some a ∧ (((l.set i a).set j b).set k d)[j]? = some b ∧ (((l.set i a).set j b).set k d)[k]? = some d
  simp [List.getElem?_set, hi, hj, hk, hij, hik, hjk, hij.symm, hik.symm, hjk.symm]

theorem put3_twice {i j k : Nat} {a b d a' b' d' : Nat × List Value} (hij : i ≠ j) (hik : i ≠ k) (hjk : j ≠ k) :
    putL (putL l [(i, a), (j, b), (k, d)]) [(i, a'), (j, b'), (k, d')] = putL l [(i, a'), (j, b'), (k, d')] := by
  show (((((l.set i a).set j b).set k d).set i a').set j b').set k d' = ((l.set i a').set j b').set k d'
  apply List.ext_getElem?
  intro x
  simp only [List.getElem?_set, List.length_set]
  by_cases h1 : k = x
  · simp [h1]
  · by_cases h2 : j = x
    · simp [h1, h2]
    · by_cases h3 : i = x
      · simp [h1, h2, h3]
      · simp [h1, h2, h3]

theorem put_get_lt {i : Nat} {a : Nat × List Value} (h : l[i]? = some a) : i < l.length := (List.getElem?_eq_some_iff.1 h).1

end

end Go.Proofs.YtapgghciieloaaaGreat

/-
  The walks of the program's read, the small ones: its spot, is it done, its error; the closure that goes through a list; it goes out; to the next other one.
-/
namespace Go.Proofs.YtapgghciieloaaaGreat
set_option maxRecDepth 100000
open Go.RowKit Go.Sort
set_option linter.unusedVariables false
set_option linter.unusedSimpArgs false

theorem eqRF (f : Fn) (x y : Array Value) (w : World) : (binOp .eql 56 (.func f x y) .nilFunc).run Tryz.prog w = .ok (.bool false) w := by kernel_rfl
theorem eqRN (w : World) : (binOp .eql 56 .nilFunc .nilFunc).run Tryz.prog w = .ok (.bool true) w := by kernel_rfl
theorem egJN12 (args : Array Value) (w : World) : (callFunc 143 args).run Tryz.prog w = .ok (.enter 143 args) w := by go_simp

section
variable {bs : List Nat} {w0 w : World} {l e : List (Nat × List Value)} {B C P L : Nat} {c : Um.Cf} {m : Um.Mm} {sl ky ot ft : Int} {sn s : Nat} {ov pg pj po pl nx : Value}

set_option maxHeartbeats 1000000 in
theorem rSpot_b (hB : BlkAt w P [.int .i64 sl, .int .i64 ky, .int .u64 (sn : Nat), .int .u64 (s : Nat), ov, .int .i64 ot, pg, pj, po, pl, nx, .int .i64 ft]) : Calls Tryz.prog 124 #[.pointer (some ⟨P, 0, none⟩)] w fun r w' => r = .returned (.agg #[.int .i64 8, .int .i64 ky]) ∧ Below w.heap.size w w' := by
  have hS := Sx.read1 hB
  clear hB
  go_enter Tryz.func124, Tryz.ntmps124
  go_wp2_with (first | (first | (refine ybox hS (h := ?_); clear hS; intro _ _ hS) | (refine yall hS (h := ?_); clear hS; intro _ _ hS) | refine yld hS (h := ?_) | (refine yst hS (h := ?_); clear hS; intro _ hS)) | (refine wpx_load1e hS 0 rfl _ _ rfl _ _ rfl _ rfl (one_any2 rfl) _ rfl _ (by simp only [Act.put, List.setIfInBounds_toArray, List.set_cons_zero, List.set_cons_succ]; first | done | exact rfl) ?_))
  have hZ := hS.get 0 rfl
  exact bodyPost_ret (v := (.agg #[.int .i64 8, .int .i64 ky])) (by simp [results, Tryz.results124, go_sem, hZ.cell 0 _ rfl, hZ.cell 1 _ rfl]) rfl ⟨rfl, hS.bel⟩

set_option maxHeartbeats 1000000 in
theorem rDone_f {cs : List Value} (f : Fn) (x y : Array Value) (hB : BlkAt w P cs) (hc : cs[10]? = some (.func f x y)) : Calls Tryz.prog 14 #[.pointer (some ⟨P, 0, none⟩)] w fun r w' => r = .returned (.bool false) ∧ w' = w := by
  have h2 := hB.cell 10 _ hc
  have hE := eqRF
  have hE0 := eqRN
  clear hB hc
  go_enter Tryz.func14, Tryz.ntmps14
  go_wp2
  go_ret
  exact ⟨rfl, rfl⟩

set_option maxHeartbeats 1000000 in
theorem rDone_n {cs : List Value} (hB : BlkAt w P cs) (hc : cs[10]? = some (.nilFunc)) : Calls Tryz.prog 14 #[.pointer (some ⟨P, 0, none⟩)] w fun r w' => r = .returned (.bool true) ∧ w' = w := by
  have h2 := hB.cell 10 _ hc
  have hE := eqRF
  have hE0 := eqRN
  clear hB hc
  go_enter Tryz.func14, Tryz.ntmps14
  go_wp2
  go_ret
  exact ⟨rfl, rfl⟩

set_option maxHeartbeats 1000000 in
theorem rError_f {cs : List Value} (f : Fn) (x y : Array Value) (hB : BlkAt w P cs) (hc : cs[10]? = some (.func f x y)) : Calls Tryz.prog 15 #[.pointer (some ⟨P, 0, none⟩)] w fun r w' => r = .returned (.int .i64 0) ∧ w' = w := by
  have HD := hide (rDone_f f x y hB hc)
  clear hB hc
  go_enter Tryz.func15, Tryz.ntmps15
  go_wp2_with fail
  refine (unhide HD).mono ?_
  rintro r u ⟨rfl, rfl⟩
  clear HD
  go_wp2
  go_ret
  exact ⟨rfl, rfl⟩

set_option maxHeartbeats 1000000 in
theorem rError_n {cs : List Value} (hB : BlkAt w P cs) (hc : cs[10]? = some .nilFunc) (hd : cs[11]? = some (.int .i64 ft)) : Calls Tryz.prog 15 #[.pointer (some ⟨P, 0, none⟩)] w fun r w' => r = .returned (.int .i64 ft) ∧ w' = w := by
  have HD := hide (rDone_n hB hc)
  have h2 := hB.cell 11 _ hd
  clear hB hc hd
  go_enter Tryz.func15, Tryz.ntmps15
  go_wp2_with fail
  refine (unhide HD).mono ?_
  rintro r u ⟨rfl, rfl⟩
  clear HD
  go_wp2
  go_ret
  exact ⟨rfl, rfl⟩

set_option maxHeartbeats 1000000 in
theorem rOne_0 {a : Option Addr} {cap : Nat} (hB : BlkAt w L [.slice a 0 cap]) : Calls Tryz.prog 140 #[.pointer (some ⟨L, 0, none⟩)] w fun r w' => r = .returned (.tuple #[.int .i64 0, .bool false]) ∧ w' = w := by
  have h2 := hB.cell 0 _ rfl
  clear hB
  go_enter Tryz.func140, Tryz.ntmps140
  go_wp2
  go_ret2
  exact ⟨rfl, rfl⟩

set_option maxHeartbeats 2000000 in
theorem rOne_a (hS : Sx bs w0 w l e) (n : Nat) {b off k cap : Nat} {x : Int} (hn : l[n]? = some (L, [.slice (some ⟨b, off, none⟩) (k + 1) cap])) (hcap : k + 1 ≤ cap) (hc1 : cap = 1) (hx : w.cell? ⟨b, off, none⟩ = some (.int .i64 x)) :
    Calls Tryz.prog 140 #[.pointer (some ⟨L, 0, none⟩)] w fun r w' => r = .returned (.tuple #[.int .i64 x, .bool true]) ∧ Sx bs w0 w' (putL l [(n, L, [.slice (some ⟨b, off, none⟩) k (0)])]) e := by
  have HS := hide hS
  have HI := hide hn
  have hL := hS.enter1e n hn
  have HX := hide hx
  clear hS hn hx
  have hS := hL
  clear hL
  have k0 : ¬ (((k + 1 : Nat) : Int) = 0) := by omega
  have k0b : (((k + 1 : Nat) : Int) == 0) = false := by simpa using k0
  have k1 : (1 : Int) ≤ ((k + 1 : Nat) : Int) := by omega
  have k2 : ((k + 1 : Nat) : Int) ≤ ((cap : Nat) : Int) := by omega
  have k3 : (1 : Int) ≤ ((cap : Nat) : Int) := by omega
  have k4 : (0 : Int) < ((k + 1 : Nat) : Int) := by omega
  have h2 := (hS.get 0 rfl).cell 0 _ rfl
  have hx := unhide HX
  go_enter Tryz.func140, Tryz.ntmps140
  go_wp2_with (first | (refine ybox hS (h := ?_); clear hS; intro _ _ hS) | (refine yall hS (h := ?_); clear hS; intro _ _ hS) | refine yld hS (h := ?_) | (refine yst hS (h := ?_); clear hS; intro _ hS))
  go_ret2
  exact ⟨rfl, (unhide HS).back1 n (unhide HI) hS⟩

set_option maxHeartbeats 2000000 in
theorem rOne_b (hS : Sx bs w0 w l e) (n : Nat) {b off k cap : Nat} {x : Int} (hn : l[n]? = some (L, [.slice (some ⟨b, off, none⟩) (k + 1) cap])) (hcap : k + 1 ≤ cap) (hc1 : ¬ cap = 1) (hx : w.cell? ⟨b, off, none⟩ = some (.int .i64 x)) :
    Calls Tryz.prog 140 #[.pointer (some ⟨L, 0, none⟩)] w fun r w' => r = .returned (.tuple #[.int .i64 x, .bool true]) ∧ Sx bs w0 w' (putL l [(n, L, [.slice (some ⟨b, off + 1, none⟩) k (cap - 1)])]) e := by
  have HS := hide hS
  have HI := hide hn
  have hL := hS.enter1e n hn
  have HX := hide hx
  clear hS hn hx
  have hS := hL
  clear hL
  have k0 : ¬ (((k + 1 : Nat) : Int) = 0) := by omega
  have k0b : (((k + 1 : Nat) : Int) == 0) = false := by simpa using k0
  have k1 : (1 : Int) ≤ ((k + 1 : Nat) : Int) := by omega
  have k2 : ((k + 1 : Nat) : Int) ≤ ((cap : Nat) : Int) := by omega
  have k3 : (1 : Int) ≤ ((cap : Nat) : Int) := by omega
  have k4 : (0 : Int) < ((k + 1 : Nat) : Int) := by omega
  have h2 := (hS.get 0 rfl).cell 0 _ rfl
  have hx := unhide HX
  go_enter Tryz.func140, Tryz.ntmps140
  go_wp2_with (first | (refine ybox hS (h := ?_); clear hS; intro _ _ hS) | (refine yall hS (h := ?_); clear hS; intro _ _ hS) | refine yld hS (h := ?_) | (refine yst hS (h := ?_); clear hS; intro _ hS))
  go_ret2
  exact ⟨rfl, (unhide HS).back1 n (unhide HI) hS⟩

set_option maxHeartbeats 1000000 in
theorem rOneByOne_x (hS : Sx bs w0 w l e) (a : Option Addr) (k cap : Nat) : Calls Tryz.prog 134 #[.slice a k cap] w fun r w' => ∃ L, r = .returned (.func (.func 140) #[] #[.pointer (some ⟨L, 0, none⟩)]) ∧ Sx bs w0 w' (l ++ [(L, [.slice a k cap])]) e := by
  go_enter Tryz.func134, Tryz.ntmps134
  go_wp2_with fail
  go_ret
  exact ⟨_, rfl, hS.alloc #[.slice a k cap] _⟩

set_option maxHeartbeats 2000000 in
theorem rGoOut_x (hS : Sx bs w0 w l e) (k : Nat) (hk : l[k]? = some (P, [.int .i64 sl, .int .i64 ky, .int .u64 (sn : Nat), .int .u64 (s : Nat), ov, .int .i64 ot, pg, pj, po, pl, nx, .int .i64 ft])) (st fe : Int) (m : Um.Mm) :
    Calls Tryz.prog 142 #[.pointer (some ⟨P, 0, none⟩), .int .i64 st, .int .i64 fe] w fun r w' => ∃ V, r = .returned (.tuple #[]) ∧ Sx bs w0 w' (putL l [(k, P, [.int .i64 sl, .int .i64 ky, .int .u64 (sn : Nat), .int .u64 (s : Nat), ov, .int .i64 ot, pg, pj, po, .pointer (some ⟨V, 0, none⟩), .func (.func 147) #[.pointer (some ⟨P, 0, none⟩)] #[], .int .i64 fe])] ++ [(V, leaL V sl st (Um.lnew m))]) e := by
  have HS := hide hS
  have HI := hide hk
  have hL := hS.enter1e k hk
  clear hS hk
  have hS := hL
  clear hL
  go_enter Tryz.func142, Tryz.ntmps142
  go_wp2_with (first | (refine ybox hS (h := ?_); clear hS; intro _ _ hS) | (refine yall hS (h := ?_); clear hS; intro _ _ hS) | refine yld hS (h := ?_) | (refine yst hS (h := ?_); clear hS; intro _ hS))
  refine (lnew_any hS sl st m).mono ?_
  rintro r u ⟨V, rfl, hSn⟩
  clear hS
  have hS := hSn
  clear hSn
  dsimp only [putL, List.set, List.cons_append, List.nil_append] at hS
  go_wp2_with (first | (refine ybox hS (h := ?_); clear hS; intro _ _ hS) | (refine yall hS (h := ?_); clear hS; intro _ _ hS) | refine yld hS (h := ?_) | (refine yst hS (h := ?_); clear hS; intro _ hS))
  first | go_end0 | ((try simp only [Exit.inBlock, Exit.then]); refine bodyPost_ret (results_none rfl _ _ _) rfl ?_)
  exact ⟨V, rfl, (unhide HS).back1r k (unhide HI) hS⟩

set_option maxHeartbeats 2000000 in
theorem rAnother_0 (hS : Sx bs w0 w l e) (k n : Nat) {a : Option Addr} {cap : Nat} (hk : l[k]? = some (P, [.int .i64 sl, .int .i64 ky, .int .u64 (sn : Nat), .int .u64 (s : Nat), .func (.func 140) #[] #[.pointer (some ⟨L, 0, none⟩)], .int .i64 ot, pg, pj, po, pl, nx, .int .i64 ft])) (hn : l[n]? = some (L, [.slice a 0 cap])) (hkn : k ≠ n) (m : Um.Mm) :
    Calls Tryz.prog 136 #[.pointer (some ⟨P, 0, none⟩)] w fun r w' => ∃ V, r = .returned (.tuple #[]) ∧ Sx bs w0 w' (putL l [(k, P, [.int .i64 sl, .int .i64 ky, .int .u64 (sn : Nat), .int .u64 (s : Nat), .func (.func 140) #[] #[.pointer (some ⟨L, 0, none⟩)], .int .i64 ot, pg, pj, po, .pointer (some ⟨V, 0, none⟩), .func (.func 147) #[.pointer (some ⟨P, 0, none⟩)] #[], .int .i64 0]), (n, L, [.slice a 0 cap])] ++ [(V, leaL V sl (-1) (Um.lnew m))]) e := by
  have HS := hide hS
  have HI := hide (And.intro hk hn)
  have hL := hS.enter2e k n hk hn hkn
  clear hS hk hn
  have hS := hL
  clear hL
  go_enter Tryz.func136, Tryz.ntmps136
  go_wp2_with (first | (refine ybox hS (h := ?_); clear hS; intro _ _ hS) | (refine yall hS (h := ?_); clear hS; intro _ _ hS) | refine yld hS (h := ?_) | (refine yst hS (h := ?_); clear hS; intro _ hS))
  refine (rOne_0 (hS.get 1 rfl)).mono ?_
  rintro r u ⟨rfl, rfl⟩
  go_wp2_with (first | (refine ybox hS (h := ?_); clear hS; intro _ _ hS) | (refine yall hS (h := ?_); clear hS; intro _ _ hS) | refine yld hS (h := ?_) | (refine yst hS (h := ?_); clear hS; intro _ hS))
  refine (rGoOut_x hS 0 rfl (-1) 0 m).mono ?_
  rintro r u ⟨V, rfl, hSn⟩
  clear hS
  have hS := hSn
  clear hSn
  dsimp only [putL, List.set, List.cons_append, List.nil_append] at hS
  go_wp2_with fail
  first | go_end0 | ((try simp only [Exit.inBlock, Exit.then]); refine bodyPost_ret (results_none rfl _ _ _) rfl ?_)
  exact ⟨V, rfl, (unhide HS).back2r k n (unhide HI).1 (unhide HI).2 hS⟩

set_option maxHeartbeats 4000000 in
theorem rAnother_c (hS : Sx bs w0 w l e) (k n : Nat) {v v' : Value} {x : Int} (hk : l[k]? = some (P, [.int .i64 sl, .int .i64 ky, .int .u64 (sn : Nat), .int .u64 (s : Nat), .func (.func 140) #[] #[.pointer (some ⟨L, 0, none⟩)], .int .i64 ot, pg, pj, po, pl, nx, .int .i64 ft])) (hn : l[n]? = some (L, [v])) (hkn : k ≠ n) (m : Um.Mm)
    (hO : ∀ (u : World), Below w.heap.size w u → ∀ (bs1 : List Nat) (l1 : List (Nat × List Value)), Sx bs1 w u l1 e → l1[1]? = some (L, [v]) → Calls Tryz.prog 140 #[.pointer (some ⟨L, 0, none⟩)] u fun r w' => r = .returned (.tuple #[.int .i64 x, .bool true]) ∧ Sx bs1 w w' (putL l1 [(1, L, [v'])]) e) :
    Calls Tryz.prog 136 #[.pointer (some ⟨P, 0, none⟩)] w fun r w' => ∃ J, r = .returned (.tuple #[]) ∧ Sx bs w0 w' (putL l [(k, P, [.int .i64 sl, .int .i64 ky, .int .u64 (sn : Nat), .int .u64 (s : Nat), .func (.func 140) #[] #[.pointer (some ⟨L, 0, none⟩)], .int .i64 x, pg, .pointer (some ⟨J, 0, none⟩), po, pl, .func (.func 144) #[.pointer (some ⟨P, 0, none⟩)] #[], .int .i64 ft]), (n, L, [v'])] ++ [(J, jnL x 1 sl sn (Um.jnew m))]) e := by
  have HO := hide hO
  clear hO
  have HS := hide hS
  have HI := hide (And.intro hk hn)
  have hL := hS.enter2e k n hk hn hkn
  clear hS hk hn
  have hS := hL
  clear hL
  go_enter Tryz.func136, Tryz.ntmps136
  go_wp2_with (first | (refine ybox hS (h := ?_); clear hS; intro _ _ hS) | (refine yall hS (h := ?_); clear hS; intro _ _ hS) | refine yld hS (h := ?_) | (refine yst hS (h := ?_); clear hS; intro _ hS))
  refine ((unhide HO) _ (Below.refl _ _) _ _ hS rfl).mono ?_
  rintro r u ⟨rfl, hSn⟩
  clear hS
  have hS := hSn
  clear hSn
  dsimp only [putL, List.set, List.cons_append, List.nil_append] at hS
  go_wp2_with (first | (refine ybox hS (h := ?_); clear hS; intro _ _ hS) | (refine yall hS (h := ?_); clear hS; intro _ _ hS) | refine yld hS (h := ?_) | (refine yst hS (h := ?_); clear hS; intro _ hS))
  clear HO
  refine wp_region_ogt (fun ts D ts' w' => ∃ (J : Nat), ts' = putS ts [(20, cond (D 0) (.pointer (some ⟨P, 0, none⟩)) undef), (21, cond (D 1) (.int .i64 x) undef), (22, cond (D 2) (.pointer (some ⟨P, 0, none⟩)) undef), (23, cond (D 3) (.pointer (some ⟨P, 0, none⟩)) undef), (24, cond (D 4) (.pointer (some ⟨P, 0, none⟩)) undef), (25, cond (D 5) (.int .i64 sl) undef), (26, cond (D 6) (.pointer (some ⟨P, 0, none⟩)) undef), (27, cond (D 7) (.pointer (some ⟨P, 0, none⟩)) undef), (28, cond (D 8) (.pointer (some ⟨P, 2, none⟩)) undef), (29, cond (D 9) (.int .u64 (sn : Nat)) undef), (30, cond (D 10) (.pointer (some ⟨J, 0, none⟩)) undef), (31, cond (D 11) (.pointer (some ⟨P, 0, none⟩)) undef), (32, cond (D 12) (.pointer (some ⟨P, 7, none⟩)) undef)] ∧ (D 13 = true → D 10 = true) ∧ Sx [P, L] w w' ([(P, cond (D 13) [.int .i64 sl, .int .i64 ky, .int .u64 (sn : Nat), .int .u64 (s : Nat), .func (.func 140) #[] #[.pointer (some ⟨L, 0, none⟩)], .int .i64 x, pg, .pointer (some ⟨J, 0, none⟩), po, pl, nx, .int .i64 ft] [.int .i64 sl, .int .i64 ky, .int .u64 (sn : Nat), .int .u64 (s : Nat), .func (.func 140) #[] #[.pointer (some ⟨L, 0, none⟩)], .int .i64 x, pg, pj, po, pl, nx, .int .i64 ft]), (L, [v'])] ++ cond (D 10) [(J, jnL x 1 sl sn (Um.jnew m))] []) e) (by kernel_rfl) (by kernel_rfl) ?start ?steps ?ends
  case start => exact ⟨0, rfl, (fun h => by cases h), hS.drew⟩
  case steps =>
    intro i o hi D ts' w' hD hpre hI
    obtain ⟨J, rfl, hz, hS⟩ := hI
    dsimp only [putS, List.set]
    match i, hi with
    | 0, hi =>
      cases hi
      refine wpOp_step rfl (fun K hK => ?_)
      refine stp_val rfl (yif_by rfl _ (fun w => by go_simp; first | done | exact rfl)) rfl ?_
      exact hK _ _ ⟨_, rfl, J, rfl, hz, hS⟩
    | 1, hi =>
      cases hi
      refine wpOp_step rfl (fun K hK => ?_)
      refine stp_val rfl (yif_by rfl _ (fun w => by go_simp; first | done | exact rfl)) rfl ?_
      exact hK _ _ ⟨_, rfl, J, rfl, hz, hS⟩
    | 2, hi =>
      cases hi
      refine wpOp_step rfl (fun K hK => ?_)
      refine stp_val rfl (yif_by rfl _ (fun w => by go_simp; first | done | exact rfl)) rfl ?_
      exact hK _ _ ⟨_, rfl, J, rfl, hz, hS⟩
    | 3, hi =>
      cases hi
      have d2 : D 2 = true := og_pre hpre (j := 2) (by kernel_rfl)
      refine wpOp_step rfl (fun K hK => ?_)
      refine stp_val rfl (yif_by rfl _ (fun w => by simp only [d2, cond_true]; go_simp; first | done | exact rfl)) rfl ?_
      exact hK _ _ ⟨_, rfl, J, rfl, hz, hS⟩
    | 4, hi =>
      cases hi
      have d3 : D 3 = true := og_pre hpre (j := 3) (by kernel_rfl)
      refine wpOp_step rfl (fun K hK => ?_)
      refine stp_val rfl (yif_by rfl _ (fun w => by simp only [d3, cond_true]; go_simp; first | done | exact rfl)) rfl ?_
      exact hK _ _ ⟨_, rfl, J, rfl, hz, hS⟩
    | 5, hi =>
      cases hi
      have d4 : D 4 = true := og_pre hpre (j := 4) (by kernel_rfl)
      refine wpOp_step rfl (fun K hK => ?_)
      refine stp_val rfl (by refine yif_load1 (S := fun q => q = w') rfl _ (.tmp 24) rfl P 0 ?_ _ (fun _ h => h ▸ hS.get 0 rfl) (one_any2 rfl) (.int .i64 sl) (by cases D 13 <;> rfl); exact cond_at d4 rfl) rfl ?_
      exact hK _ _ ⟨_, rfl, J, rfl, hz, hS⟩
    | 6, hi =>
      cases hi
      refine wpOp_step rfl (fun K hK => ?_)
      refine stp_val rfl (yif_by rfl _ (fun w => by go_simp; first | done | exact rfl)) rfl ?_
      exact hK _ _ ⟨_, rfl, J, rfl, hz, hS⟩
    | 7, hi =>
      cases hi
      have d6 : D 6 = true := og_pre hpre (j := 6) (by kernel_rfl)
      refine wpOp_step rfl (fun K hK => ?_)
      refine stp_val rfl (yif_by rfl _ (fun w => by simp only [d6, cond_true]; go_simp; first | done | exact rfl)) rfl ?_
      exact hK _ _ ⟨_, rfl, J, rfl, hz, hS⟩
    | 8, hi =>
      cases hi
      have d7 : D 7 = true := og_pre hpre (j := 7) (by kernel_rfl)
      refine wpOp_step rfl (fun K hK => ?_)
      refine stp_val rfl (yif_by rfl _ (fun w => by simp only [d7, cond_true]; go_simp; first | done | exact rfl)) rfl ?_
      exact hK _ _ ⟨_, rfl, J, rfl, hz, hS⟩
    | 9, hi =>
      cases hi
      have d8 : D 8 = true := og_pre hpre (j := 8) (by kernel_rfl)
      refine wpOp_step rfl (fun K hK => ?_)
      refine stp_val rfl (by refine yif_load1 (S := fun q => q = w') rfl _ (.tmp 28) rfl P 2 ?_ _ (fun _ h => h ▸ hS.get 0 rfl) (one_any2 rfl) (.int .u64 (sn : Nat)) (by cases D 13 <;> rfl); exact cond_at d8 rfl) rfl ?_
      exact hK _ _ ⟨_, rfl, J, rfl, hz, hS⟩
    | 10, hi =>
      cases hi
      have d1 : D 1 = true := og_pre hpre (j := 1) (by kernel_rfl)
      have d5 : D 5 = true := og_pre hpre (j := 5) (by kernel_rfl)
      have d9 : D 9 = true := og_pre hpre (j := 9) (by kernel_rfl)
      refine wpOp_step rfl (fun K hK => ?_)
      refine stp_call rfl _ _ _ rfl egJN12 _ (list4_eq (cond_at d1 rfl) rfl (cond_at d5 rfl) (cond_at d9 rfl)) _ rfl ?_
      have z0 := og_not hz hD
      simp only [z0, hD, cond_false, List.append_nil] at hS
      refine (jnew_any hS x 1 sl sn m).mono ?_
      rintro r u ⟨J, rfl, hS2⟩
      refine ⟨_, rfl, hK _ _ ⟨_, rfl, J, rfl, (fun _ => rfl), ?_⟩⟩
      show Sx _ _ _ ([(P, cond (D 13) _ _), (L, _)] ++ [(J, _)]) _
      rw [z0]
      exact hS2
    | 11, hi =>
      cases hi
      have d0 : D 0 = true := og_pre hpre (j := 0) (by kernel_rfl)
      refine wpOp_step rfl (fun K hK => ?_)
      refine stp_val rfl (yif_by rfl _ (fun w => by simp only [d0, cond_true]; go_simp; first | done | exact rfl)) rfl ?_
      exact hK _ _ ⟨_, rfl, J, rfl, hz, hS⟩
    | 12, hi =>
      cases hi
      have d11 : D 11 = true := og_pre hpre (j := 11) (by kernel_rfl)
      refine wpOp_step rfl (fun K hK => ?_)
      refine stp_val rfl (yif_by rfl _ (fun w => by simp only [d11, cond_true]; go_simp; first | done | exact rfl)) rfl ?_
      exact hK _ _ ⟨_, rfl, J, rfl, hz, hS⟩
    | 13, hi =>
      cases hi
      have d10 : D 10 = true := og_pre hpre (j := 10) (by kernel_rfl)
      have d12 : D 12 = true := og_pre hpre (j := 12) (by kernel_rfl)
      refine wpOp_step rfl (fun K hK => ?_)
      simp only [hD, cond_false] at hS
      refine stx_store hS 0 rfl _ _ _ rfl _ _ (cond_at d12 rfl) _ rfl _ (cond_at d10 rfl) _ rfl _ (siz_any2 rfl) (by exact rfl) (by exact rfl) (by exact rfl) rfl ?_
      intro u hS'
      exact hK _ _ ⟨_, rfl, J, rfl, (fun _ => d10), hS'⟩
    | i + 14, hi => simp at hi
  case ends =>
    intro D ts' w' hall hI
    obtain ⟨J, rfl, hz, hS⟩ := hI
    have d0 : D 0 = true := hall 0 (by decide)
    have d1 : D 1 = true := hall 1 (by decide)
    have d2 : D 2 = true := hall 2 (by decide)
    have d3 : D 3 = true := hall 3 (by decide)
    have d4 : D 4 = true := hall 4 (by decide)
    have d5 : D 5 = true := hall 5 (by decide)
    have d6 : D 6 = true := hall 6 (by decide)
    have d7 : D 7 = true := hall 7 (by decide)
    have d8 : D 8 = true := hall 8 (by decide)
    have d9 : D 9 = true := hall 9 (by decide)
    have d10 : D 10 = true := hall 10 (by decide)
    have d11 : D 11 = true := hall 11 (by decide)
    have d12 : D 12 = true := hall 12 (by decide)
    have d13 : D 13 = true := hall 13 (by decide)
    simp only [d10, d13, cond_true] at hS
    dsimp only [putS, List.set]
    simp only [d0, d1, d2, d3, d4, d5, d6, d7, d8, d9, d10, d11, d12, cond_true]
    clear hall d0 d1 d2 d3 d4 d5 d6 d7 d8 d9 d10 d11 d12 d13 hz
    go_wp2_with (first | (refine ybox hS (h := ?_); clear hS; intro _ _ hS) | (refine yall hS (h := ?_); clear hS; intro _ _ hS) | refine yld hS (h := ?_) | (refine yst hS (h := ?_); clear hS; intro _ hS))
    first | go_end0 | ((try simp only [Exit.inBlock, Exit.then]); refine bodyPost_ret (results_none rfl _ _ _) rfl ?_)
    exact ⟨J, rfl, (unhide HS).back2r k n (unhide HI).1 (unhide HI).2 hS⟩

end

end Go.Proofs.YtapgghciieloaaaGreat

/-
  The walks of the program's read: the writers are found; enter, snapshot, look, mark, join, own, leave.
-/
namespace Go.Proofs.YtapgghciieloaaaGreat
set_option maxRecDepth 100000
open Go.RowKit Go.Sort
set_option linter.unusedVariables false
set_option linter.unusedSimpArgs false

/-- what comes behind 'another' -/
def AnP (P L : Nat) (sl ky : Int) (sn s : Nat) (m : Um.Mm) (e : List (Nat × List Value)) (xs : List Int) (cs ls : List Value) (X : Nat) (xc : List Value) : Prop :=
  (xs = [] ∧ (∃ ot pg pj po, cs = [.int .i64 sl, .int .i64 ky, .int .u64 (sn : Nat), .int .u64 (s : Nat), .func (.func 140) #[] #[.pointer (some ⟨L, 0, none⟩)], .int .i64 ot, pg, pj, po, .pointer (some ⟨X, 0, none⟩), .func (.func 147) #[.pointer (some ⟨P, 0, none⟩)] #[], .int .i64 0]) ∧ xc = leaL X sl (-1) (Um.lnew m)) ∨
  (∃ (x : Int) (r : List Int) (a : Option Addr) (c' : Nat), xs = x :: r ∧ (∃ pg po pl ft, cs = [.int .i64 sl, .int .i64 ky, .int .u64 (sn : Nat), .int .u64 (s : Nat), .func (.func 140) #[] #[.pointer (some ⟨L, 0, none⟩)], .int .i64 x, pg, .pointer (some ⟨X, 0, none⟩), po, pl, .func (.func 144) #[.pointer (some ⟨P, 0, none⟩)] #[], .int .i64 ft]) ∧ xc = jnL x 1 sl sn (Um.jnew m) ∧ ls = [.slice a r.length c'] ∧ ∀ W', (∀ p ∈ e, BlkAt W' p.1 p.2) → IsRow W' (.slice a r.length c') r)

theorem egOt12 (args : Array Value) (w : World) : (callFunc 135 args).run Tryz.prog w = .ok (.enter 135 args) w := by go_simp
theorem egOb12 (args : Array Value) (w : World) : (callFunc 134 args).run Tryz.prog w = .ok (.enter 134 args) w := by go_simp
theorem egNo12 (args : Array Value) (w : World) : (callFunc 151 args).run Tryz.prog w = .ok (.enter 151 args) w := by go_simp

section
variable {bs : List Nat} {w0 w : World} {l e : List (Nat × List Value)} {B C P L : Nat} {c : Um.Cf} {m : Um.Mm} {sl ky ot ft : Int} {sn s : Nat} {ov pg pj po pl nx : Value}

theorem placesL3 {l : List (Nat × List Value)} {b1 b2 b3 : Nat} {c1 c2 c3 d1 d2 d3 : List Value} {i j k : Nat} (hi : l[i]? = some (b1, c1)) (hj : l[j]? = some (b2, c2)) (hk : l[k]? = some (b3, c3)) : placesL l [(i, b1, d1), (j, b2, d2), (k, b3, d3)] := by
  intro u hu
  rcases (by simpa using hu : u = (i, b1, d1) ∨ u = (j, b2, d2) ∨ u = (k, b3, d3)) with rfl | rfl | rfl
  · exact ⟨_, hi⟩
  · exact ⟨_, hj⟩
  · exact ⟨_, hk⟩

theorem rAnother_any (hS : Sx bs w0 w l e) (k n : Nat) {a : Option Addr} {nn cap : Nat} {xs : List Int} (hk : l[k]? = some (P, [.int .i64 sl, .int .i64 ky, .int .u64 (sn : Nat), .int .u64 (s : Nat), .func (.func 140) #[] #[.pointer (some ⟨L, 0, none⟩)], .int .i64 ot, pg, pj, po, pl, nx, .int .i64 ft])) (hn : l[n]? = some (L, [.slice a nn cap])) (hkn : k ≠ n) (m : Um.Mm) (hI : ∀ W', (∀ p ∈ e, BlkAt W' p.1 p.2) → IsRow W' (.slice a nn cap) xs) :
    Calls Tryz.prog 136 #[.pointer (some ⟨P, 0, none⟩)] w fun r w' => ∃ cs ls X xc, r = .returned (.tuple #[]) ∧ AnP P L sl ky sn s m e xs cs ls X xc ∧ Sx bs w0 w' (putL l [(k, P, cs), (n, L, ls)] ++ [(X, xc)]) e := by
  have h0 := hI w hS.eb
  match xs with
  | [] =>
    obtain rfl : nn = 0 := by
      rcases h0 with ⟨h, _⟩ | ⟨_, _, _, h, _⟩
      · simp only [Value.slice.injEq] at h
        exact h.2.1
      · simp only [Value.slice.injEq, List.length_nil] at h
        exact h.2.1
    refine (rAnother_0 hS k n hk hn hkn m).mono ?_
    rintro r w' ⟨V, rfl, hSn⟩
    exact ⟨_, _, V, _, rfl, .inl ⟨rfl, ⟨_, _, _, _, rfl⟩, rfl⟩, hSn⟩
  | x :: xs =>
    obtain ⟨b, off, rfl, rfl, hcap, hmax, hlt, hc⟩ := isRow_cut h0
    by_cases hc1 : cap = 1
    · refine (rAnother_c hS k n (x := x) (v' := .slice (some ⟨b, off, none⟩) xs.length 0) hk hn hkn m (fun u hb bs1 l1 hS1 h1 => ?_)).mono ?_
      · have h2 := hI u hS1.eb
        obtain ⟨b', off', e1, _, _, _, _, hc2⟩ := isRow_cut h2
        simp only [Option.some.injEq, Addr.mk.injEq] at e1
        obtain ⟨rfl, rfl, _⟩ := e1
        exact rOne_a hS1 1 h1 hcap hc1 hc2
      · rintro r w' ⟨J, rfl, hSn⟩
        exact ⟨_, _, J, _, rfl, .inr ⟨x, xs, _, _, rfl, ⟨_, _, _, _, rfl⟩, rfl, rfl, fun W' hW => (isRow_end (hI W' hW) hc1).2⟩, hSn⟩
    · refine (rAnother_c hS k n (x := x) (v' := .slice (some ⟨b, off + 1, none⟩) xs.length (cap - 1)) hk hn hkn m (fun u hb bs1 l1 hS1 h1 => ?_)).mono ?_
      · have h2 := hI u hS1.eb
        obtain ⟨b', off', e1, _, _, _, _, hc2⟩ := isRow_cut h2
        simp only [Option.some.injEq, Addr.mk.injEq] at e1
        obtain ⟨rfl, rfl, _⟩ := e1
        exact rOne_b hS1 1 h1 hcap hc1 hc2
      · rintro r w' ⟨J, rfl, hSn⟩
        exact ⟨_, _, J, _, rfl, .inr ⟨x, xs, _, _, rfl, ⟨_, _, _, _, rfl⟩, rfl, rfl, fun W' hW => isRow_rest (hI W' hW)⟩, hSn⟩

set_option maxHeartbeats 4000000 in
theorem rFound_x (hS : Sx bs w0 w l e) (k : Nat) (hk : l[k]? = some (P, [.int .i64 sl, .int .i64 ky, .int .u64 (sn : Nat), .int .u64 (s : Nat), ov, .int .i64 ot, pg, pj, po, pl, nx, .int .i64 ft])) (hs : Um.Word s) (m : Um.Mm) :
    Calls Tryz.prog 126 #[.pointer (some ⟨P, 0, none⟩)] w fun r w' => ∃ L cs ls X xc sb, r = .returned (.tuple #[]) ∧ AnP P L sl ky sn s m (e ++ sb) (Um.othersN s 1 sl) cs ls X xc ∧ (∀ p ∈ sb, w.heap.size ≤ p.1) ∧ Sx bs w0 w' (putL l [(k, P, cs)] ++ [(L, ls), (X, xc)]) (e ++ sb) := by
  have HW := hide hs
  clear hs
  have HS := hide hS
  have HI := hide hk
  have hL := hS.enter1e k hk
  clear hS hk
  have hS := hL
  clear hL
  go_enter Tryz.func126, Tryz.ntmps126
  go_wp2_with fail
  refine wp_region_ogt (fun ts D ts' w' => ∃ (a : Option Addr) (nn : Nat) (cap : Nat) (sb : List (Nat × List Value)) (L : Nat), ts' = putS ts [(2, cond (D 0) (.pointer (some ⟨P, 0, none⟩)) undef), (3, cond (D 1) (.pointer (some ⟨P, 0, none⟩)) undef), (4, cond (D 2) (.pointer (some ⟨P, 0, none⟩)) undef), (5, cond (D 3) (.pointer (some ⟨P, 3, none⟩)) undef), (6, cond (D 4) (.int .u64 (s : Nat)) undef), (7, cond (D 5) (.pointer (some ⟨P, 0, none⟩)) undef), (8, cond (D 6) (.pointer (some ⟨P, 0, none⟩)) undef), (9, cond (D 7) (.pointer (some ⟨P, 0, none⟩)) undef), (10, cond (D 8) (.int .i64 sl) undef), (11, cond (D 9) (.slice a nn cap) undef), (12, cond (D 10) (.func (.func 140) #[] #[.pointer (some ⟨L, 0, none⟩)]) undef), (13, cond (D 11) (.pointer (some ⟨P, 0, none⟩)) undef), (14, cond (D 12) (.pointer (some ⟨P, 4, none⟩)) undef)] ∧ (D 13 = true → D 10 = true) ∧ (D 10 = true → D 9 = true) ∧ (D 9 = true → ((∀ p ∈ sb, w.heap.size ≤ p.1) ∧ ∀ W', (∀ p ∈ sb, BlkAt W' p.1 p.2) → IsRow W' (.slice a nn cap) (Um.othersN s 1 sl))) ∧ Sx [P] w w' ([(P, cond (D 13) [.int .i64 sl, .int .i64 ky, .int .u64 (sn : Nat), .int .u64 (s : Nat), .func (.func 140) #[] #[.pointer (some ⟨L, 0, none⟩)], .int .i64 ot, pg, pj, po, pl, nx, .int .i64 ft] [.int .i64 sl, .int .i64 ky, .int .u64 (sn : Nat), .int .u64 (s : Nat), ov, .int .i64 ot, pg, pj, po, pl, nx, .int .i64 ft])] ++ cond (D 10) [(L, [.slice a nn cap])] []) (cond (D 9) (e ++ sb) e)) (by kernel_rfl) (by kernel_rfl) ?start ?steps ?ends
  case start => exact ⟨none, 0, 0, [], 0, rfl, (fun h => by cases h), (fun h => by cases h), (fun h => by cases h), hS.drew⟩
  case steps =>
    intro i o hi D ts' w' hD hpre hI
    obtain ⟨a, nn, cap, sb, L, rfl, hz, hy, hI, hS⟩ := hI
    dsimp only [putS, List.set]
    match i, hi with
    | 0, hi =>
      cases hi
      refine wpOp_step rfl (fun K hK => ?_)
      refine stp_val rfl (yif_by rfl _ (fun w => by go_simp; first | done | exact rfl)) rfl ?_
      exact hK _ _ ⟨_, rfl, a, nn, cap, sb, L, rfl, hz, hy, hI, hS⟩
    | 1, hi =>
      cases hi
      refine wpOp_step rfl (fun K hK => ?_)
      refine stp_val rfl (yif_by rfl _ (fun w => by go_simp; first | done | exact rfl)) rfl ?_
      exact hK _ _ ⟨_, rfl, a, nn, cap, sb, L, rfl, hz, hy, hI, hS⟩
    | 2, hi =>
      cases hi
      have d1 : D 1 = true := og_pre hpre (j := 1) (by kernel_rfl)
      refine wpOp_step rfl (fun K hK => ?_)
      refine stp_val rfl (yif_by rfl _ (fun w => by simp only [d1, cond_true]; go_simp; first | done | exact rfl)) rfl ?_
      exact hK _ _ ⟨_, rfl, a, nn, cap, sb, L, rfl, hz, hy, hI, hS⟩
    | 3, hi =>
      cases hi
      have d2 : D 2 = true := og_pre hpre (j := 2) (by kernel_rfl)
      refine wpOp_step rfl (fun K hK => ?_)
      refine stp_val rfl (yif_by rfl _ (fun w => by simp only [d2, cond_true]; go_simp; first | done | exact rfl)) rfl ?_
      exact hK _ _ ⟨_, rfl, a, nn, cap, sb, L, rfl, hz, hy, hI, hS⟩
    | 4, hi =>
      cases hi
      have d3 : D 3 = true := og_pre hpre (j := 3) (by kernel_rfl)
      refine wpOp_step rfl (fun K hK => ?_)
      refine stp_val rfl (by refine yif_load1 (S := fun q => q = w') rfl _ (.tmp 5) rfl P 3 ?_ _ (fun _ h => h ▸ hS.get 0 rfl) (one_any2 rfl) (.int .u64 (s : Nat)) (by cases D 13 <;> rfl); exact cond_at d3 rfl) rfl ?_
      exact hK _ _ ⟨_, rfl, a, nn, cap, sb, L, rfl, hz, hy, hI, hS⟩
    | 5, hi =>
      cases hi
      refine wpOp_step rfl (fun K hK => ?_)
      refine stp_val rfl (yif_by rfl _ (fun w => by go_simp; first | done | exact rfl)) rfl ?_
      exact hK _ _ ⟨_, rfl, a, nn, cap, sb, L, rfl, hz, hy, hI, hS⟩
    | 6, hi =>
      cases hi
      have d5 : D 5 = true := og_pre hpre (j := 5) (by kernel_rfl)
      refine wpOp_step rfl (fun K hK => ?_)
      refine stp_val rfl (yif_by rfl _ (fun w => by simp only [d5, cond_true]; go_simp; first | done | exact rfl)) rfl ?_
      exact hK _ _ ⟨_, rfl, a, nn, cap, sb, L, rfl, hz, hy, hI, hS⟩
    | 7, hi =>
      cases hi
      have d6 : D 6 = true := og_pre hpre (j := 6) (by kernel_rfl)
      refine wpOp_step rfl (fun K hK => ?_)
      refine stp_val rfl (yif_by rfl _ (fun w => by simp only [d6, cond_true]; go_simp; first | done | exact rfl)) rfl ?_
      exact hK _ _ ⟨_, rfl, a, nn, cap, sb, L, rfl, hz, hy, hI, hS⟩
    | 8, hi =>
      cases hi
      have d7 : D 7 = true := og_pre hpre (j := 7) (by kernel_rfl)
      refine wpOp_step rfl (fun K hK => ?_)
      refine stp_val rfl (by refine yif_load1 (S := fun q => q = w') rfl _ (.tmp 9) rfl P 0 ?_ _ (fun _ h => h ▸ hS.get 0 rfl) (one_any2 rfl) (.int .i64 sl) (by cases D 13 <;> rfl); exact cond_at d7 rfl) rfl ?_
      exact hK _ _ ⟨_, rfl, a, nn, cap, sb, L, rfl, hz, hy, hI, hS⟩
    | 9, hi =>
      cases hi
      have d4 : D 4 = true := og_pre hpre (j := 4) (by kernel_rfl)
      have d8 : D 8 = true := og_pre hpre (j := 8) (by kernel_rfl)
      refine wpOp_step rfl (fun K hK => ?_)
      refine stp_call rfl _ _ _ rfl egOt12 _ (list3_eq (cond_at d4 rfl) rfl (cond_at d8 rfl)) _ rfl ?_
      have y0 := og_not hy hD
      have z0 := og_not hz y0
      simp only [z0, y0, hD, cond_false, List.append_nil] at hS
      have hsz := hS.size
      refine (mOthers_any s 1 sl w' (unhide HW)).mono ?_
      rintro r u ⟨v, rfl, hq, hb⟩
      obtain ⟨a2, n2, cap2, sb2, rfl, hsb, hI2⟩ := row_blk12 hq
      have hS2 := hS.addEs12 hb hsb
      refine ⟨_, rfl, hK _ _ ⟨_, rfl, a2, n2, cap2, sb2, L, rfl, hz, (fun _ => rfl), (fun _ => ⟨fun p hp => Nat.le_trans hsz (hsb p hp).2, hI2⟩), ?_⟩⟩
      show Sx _ _ _ ([(P, cond (D 13) _ _)] ++ cond (D 10) [(L, _)] []) (e ++ sb2)
      rw [z0, y0]
      exact hS2
    | 10, hi =>
      cases hi
      have d9 : D 9 = true := og_pre hpre (j := 9) (by kernel_rfl)
      refine wpOp_step rfl (fun K hK => ?_)
      refine stp_call rfl _ _ _ rfl egOb12 _ (lst1_eq (cond_at d9 rfl)) _ rfl ?_
      have z0 := og_not hz hD
      simp only [z0, hD, d9, cond_false, cond_true, List.append_nil] at hS
      refine (rOneByOne_x hS a nn cap).mono ?_
      rintro r u ⟨L2, rfl, hS2⟩
      refine ⟨_, rfl, hK _ _ ⟨_, rfl, a, nn, cap, sb, L2, rfl, (fun _ => rfl), (fun _ => d9), hI, ?_⟩⟩
      show Sx _ _ _ ([(P, cond (D 13) _ _)] ++ [(L2, _)]) (cond (D 9) _ _)
      rw [z0, d9]
      exact hS2
    | 11, hi =>
      cases hi
      have d0 : D 0 = true := og_pre hpre (j := 0) (by kernel_rfl)
      refine wpOp_step rfl (fun K hK => ?_)
      refine stp_val rfl (yif_by rfl _ (fun w => by simp only [d0, cond_true]; go_simp; first | done | exact rfl)) rfl ?_
      exact hK _ _ ⟨_, rfl, a, nn, cap, sb, L, rfl, hz, hy, hI, hS⟩
    | 12, hi =>
      cases hi
      have d11 : D 11 = true := og_pre hpre (j := 11) (by kernel_rfl)
      refine wpOp_step rfl (fun K hK => ?_)
      refine stp_val rfl (yif_by rfl _ (fun w => by simp only [d11, cond_true]; go_simp; first | done | exact rfl)) rfl ?_
      exact hK _ _ ⟨_, rfl, a, nn, cap, sb, L, rfl, hz, hy, hI, hS⟩
    | 13, hi =>
      cases hi
      have d10 : D 10 = true := og_pre hpre (j := 10) (by kernel_rfl)
      have d12 : D 12 = true := og_pre hpre (j := 12) (by kernel_rfl)
      refine wpOp_step rfl (fun K hK => ?_)
      simp only [hD, cond_false] at hS
      refine stx_store hS 0 rfl _ _ _ rfl _ _ (cond_at d12 rfl) _ rfl _ (cond_at d10 rfl) _ rfl _ (siz_any2 rfl) (by exact rfl) (by exact rfl) (by exact rfl) rfl ?_
      intro u hS'
      exact hK _ _ ⟨_, rfl, a, nn, cap, sb, L, rfl, (fun _ => d10), hy, hI, hS'⟩
    | i + 14, hi => simp at hi
  case ends =>
    intro D ts' w' hall hI
    obtain ⟨a, nn, cap, sb, L, rfl, hz, hy, hI, hS⟩ := hI
    have d0 : D 0 = true := hall 0 (by decide)
    have d1 : D 1 = true := hall 1 (by decide)
    have d2 : D 2 = true := hall 2 (by decide)
    have d3 : D 3 = true := hall 3 (by decide)
    have d4 : D 4 = true := hall 4 (by decide)
    have d5 : D 5 = true := hall 5 (by decide)
    have d6 : D 6 = true := hall 6 (by decide)
    have d7 : D 7 = true := hall 7 (by decide)
    have d8 : D 8 = true := hall 8 (by decide)
    have d9 : D 9 = true := hall 9 (by decide)
    have d10 : D 10 = true := hall 10 (by decide)
    have d11 : D 11 = true := hall 11 (by decide)
    have d12 : D 12 = true := hall 12 (by decide)
    have d13 : D 13 = true := hall 13 (by decide)
    simp only [d9, d10, d13, cond_true] at hS
    dsimp only [putS, List.set]
    simp only [d0, d1, d2, d3, d4, d5, d6, d7, d8, d9, d10, d11, d12, cond_true]
    replace hy := hy d10
    replace hI := hI d9
    clear hall d0 d1 d2 d3 d4 d5 d6 d7 d8 d9 d10 d11 d12 d13 hz
    go_wp2_with fail
    refine (rAnother_any hS 0 1 rfl rfl (by decide) m (fun W' h => hI.2 W' (fun p hp => h p (List.mem_append_right _ hp)))).mono ?_
    rintro r u ⟨cs, ls, X, xc, rfl, hA, hSn⟩
    clear hS
    have hS := hSn
    clear hSn
    dsimp only [putL, List.set, List.cons_append, List.nil_append] at hS
    go_wp2_with fail
    first | go_end0 | ((try simp only [Exit.inBlock, Exit.then]); refine bodyPost_ret (results_none rfl _ _ _) rfl ?_)
    exact ⟨L, cs, ls, X, xc, sb, rfl, hA, hI.1, (unhide HS).back1s k (unhide HI) hS hI.1⟩

set_option maxHeartbeats 4000000 in
theorem rEnter_a {G h nl cl : Nat} {la : Option Addr} {Z : Nat → Int} {g O : Um.Es} (hS : Sx bs w0 w [(P, [.int .i64 sl, .int .i64 ky, .int .u64 (sn : Nat), .int .u64 (s : Nat), ov, .int .i64 ot, .pointer (some ⟨G, 0, none⟩), pj, po, pl, .func (.func 45) #[.pointer (some ⟨P, 0, none⟩)] #[], .int .i64 ft]), (B, memL c C g.m), (C, rowW g.m.ws c.n), (G, entL G h la nl cl g)] e) (hr : c.r = true) (hO : O = Um.estep c h (fun k => inZ Z nl ((k : Nat) : Int)) g) (ho : Um.Eok c g) (hh : Um.Word h) (hnl : nl ≤ 50) (hSt : StB la nl Z e) (hn : Um.ook h c.s = true) (hen : O.en = false) :
    Calls Tryz.prog 45 #[.pointer (some ⟨P, 0, none⟩), .pointer (some ⟨B, 0, none⟩)] w fun r w' => r = .returned (.tuple #[]) ∧ Um.Eok c O ∧ Sx bs w0 w' [(P, [.int .i64 sl, .int .i64 ky, .int .u64 (sn : Nat), .int .u64 (s : Nat), ov, .int .i64 ot, .pointer (some ⟨G, 0, none⟩), pj, po, pl, .func (.func 45) #[.pointer (some ⟨P, 0, none⟩)] #[], .int .i64 ft]), (B, memL c C O.m), (C, rowW O.m.ws c.n), (G, entL G h la nl cl O)] e := by
  have HR := hide hr
  have HO := hide hO
  have HE := hide ho
  have HH := hide hh
  have HST := hide hSt
  have HD := hide (show Um.edn c h O = false by unfold Um.edn; rw [hen, hn]; rfl)
  clear hr hO ho hh hSt hen hn
  go_enter Tryz.func45, Tryz.ntmps45
  go_wp2_with (first | (refine ybox hS (h := ?_); clear hS; intro _ _ hS) | (refine yall hS (h := ?_); clear hS; intro _ _ hS) | refine yld hS (h := ?_) | (refine yst hS (h := ?_); clear hS; intro _ hS))
  refine (gStep_any hS 1 2 3 g O (unhide HO) rfl rfl rfl (by decide) (by decide) (by decide) (unhide HR) (unhide HE) (unhide HH) hnl (unhide HST)).mono ?_
  rintro r u ⟨rfl, hOn, hSn⟩
  clear hS
  have hS := hSn
  clear hSn
  dsimp only [putL, List.set, List.cons_append, List.nil_append] at hS
  have HOK := hide hOn
  clear hOn
  go_wp2_with (first | (refine ybox hS (h := ?_); clear hS; intro _ _ hS) | (refine yall hS (h := ?_); clear hS; intro _ _ hS) | refine yld hS (h := ?_) | (refine yst hS (h := ?_); clear hS; intro _ hS))
  refine (gDone_any hS 1 2 3 rfl rfl rfl (by decide) (unhide HR) (unhide HOK).wd (unhide HH)).mono ?_
  rintro r u ⟨rfl, hb⟩
  replace hS := hS.call hb
  clear hb
  rw [unhide HD]
  go_wp2_with (first | (refine ybox hS (h := ?_); clear hS; intro _ _ hS) | (refine yall hS (h := ?_); clear hS; intro _ _ hS) | refine yld hS (h := ?_) | (refine yst hS (h := ?_); clear hS; intro _ hS))
  first | go_end0 | ((try simp only [Exit.inBlock, Exit.then]); refine bodyPost_ret (results_none rfl _ _ _) rfl ?_)
  exact ⟨rfl, unhide HOK, hS⟩

set_option maxHeartbeats 4000000 in
theorem rEnter_b {G h nl cl : Nat} {la : Option Addr} {Z : Nat → Int} {g O : Um.Es} (hS : Sx bs w0 w [(P, [.int .i64 sl, .int .i64 ky, .int .u64 (sn : Nat), .int .u64 (s : Nat), ov, .int .i64 ot, .pointer (some ⟨G, 0, none⟩), pj, po, pl, .func (.func 45) #[.pointer (some ⟨P, 0, none⟩)] #[], .int .i64 ft]), (B, memL c C g.m), (C, rowW g.m.ws c.n), (G, entL G h la nl cl g)] e) (hr : c.r = true) (hO : O = Um.estep c h (fun k => inZ Z nl ((k : Nat) : Int)) g) (ho : Um.Eok c g) (hh : Um.Word h) (hnl : nl ≤ 50) (hSt : StB la nl Z e) (hn : Um.ook h c.s = true) (hen : O.en = true) (he : O.e ≠ 0) :
    Calls Tryz.prog 45 #[.pointer (some ⟨P, 0, none⟩), .pointer (some ⟨B, 0, none⟩)] w fun r w' => r = .returned (.tuple #[]) ∧ Um.Eok c O ∧ Sx bs w0 w' [(P, [.int .i64 sl, .int .i64 ky, .int .u64 (sn : Nat), .int .u64 (s : Nat), ov, .int .i64 ot, .pointer (some ⟨G, 0, none⟩), pj, po, pl, .nilFunc, .int .i64 O.e]), (B, memL c C O.m), (C, rowW O.m.ws c.n), (G, entL G h la nl cl O)] e := by
  have HR := hide hr
  have HO := hide hO
  have HE := hide ho
  have HH := hide hh
  have HST := hide hSt
  have HD := hide (show Um.edn c h O = true by unfold Um.edn; rw [hen, hn]; rfl)
  have HER := hide (show Um.eer c h O = O.e by unfold Um.eer; rw [hn]; rfl)
  have f1 : ¬ O.e = 0 := he
  have f2 : (O.e != 0) = true := by simpa using f1
  clear he
  clear hr hO ho hh hSt hen hn
  go_enter Tryz.func45, Tryz.ntmps45
  go_wp2_with (first | (refine ybox hS (h := ?_); clear hS; intro _ _ hS) | (refine yall hS (h := ?_); clear hS; intro _ _ hS) | refine yld hS (h := ?_) | (refine yst hS (h := ?_); clear hS; intro _ hS))
  refine (gStep_any hS 1 2 3 g O (unhide HO) rfl rfl rfl (by decide) (by decide) (by decide) (unhide HR) (unhide HE) (unhide HH) hnl (unhide HST)).mono ?_
  rintro r u ⟨rfl, hOn, hSn⟩
  clear hS
  have hS := hSn
  clear hSn
  dsimp only [putL, List.set, List.cons_append, List.nil_append] at hS
  have HOK := hide hOn
  clear hOn
  go_wp2_with (first | (refine ybox hS (h := ?_); clear hS; intro _ _ hS) | (refine yall hS (h := ?_); clear hS; intro _ _ hS) | refine yld hS (h := ?_) | (refine yst hS (h := ?_); clear hS; intro _ hS))
  refine (gDone_any hS 1 2 3 rfl rfl rfl (by decide) (unhide HR) (unhide HOK).wd (unhide HH)).mono ?_
  rintro r u ⟨rfl, hb⟩
  replace hS := hS.call hb
  clear hb
  rw [unhide HD]
  go_wp2_with (first | (refine ybox hS (h := ?_); clear hS; intro _ _ hS) | (refine yall hS (h := ?_); clear hS; intro _ _ hS) | refine yld hS (h := ?_) | (refine yst hS (h := ?_); clear hS; intro _ hS))
  refine (gError_any hS 1 2 3 rfl rfl rfl (by decide) (unhide HR) (unhide HOK).wd (unhide HH)).mono ?_
  rintro r u ⟨rfl, hb⟩
  replace hS := hS.call hb
  clear hb
  rw [unhide HER]
  go_wp2_with (first | (refine ybox hS (h := ?_); clear hS; intro _ _ hS) | (refine yall hS (h := ?_); clear hS; intro _ _ hS) | refine yld hS (h := ?_) | (refine yst hS (h := ?_); clear hS; intro _ hS))
  first | go_end0 | ((try simp only [Exit.inBlock, Exit.then]); refine bodyPost_ret (results_none rfl _ _ _) rfl ?_)
  exact ⟨rfl, unhide HOK, hS⟩

set_option maxHeartbeats 4000000 in
theorem rEnter_c {G h nl cl : Nat} {la : Option Addr} {Z : Nat → Int} {g O : Um.Es} (hS : Sx bs w0 w [(P, [.int .i64 sl, .int .i64 ky, .int .u64 (sn : Nat), .int .u64 (s : Nat), ov, .int .i64 ot, .pointer (some ⟨G, 0, none⟩), pj, po, pl, .func (.func 45) #[.pointer (some ⟨P, 0, none⟩)] #[], .int .i64 ft]), (B, memL c C g.m), (C, rowW g.m.ws c.n), (G, entL G h la nl cl g)] e) (hr : c.r = true) (hO : O = Um.estep c h (fun k => inZ Z nl ((k : Nat) : Int)) g) (ho : Um.Eok c g) (hh : Um.Word h) (hnl : nl ≤ 50) (hSt : StB la nl Z e) (hn : Um.ook h c.s = true) (hen : O.en = true) (he : O.e = 0) :
    Calls Tryz.prog 45 #[.pointer (some ⟨P, 0, none⟩), .pointer (some ⟨B, 0, none⟩)] w fun r w' => r = .returned (.tuple #[]) ∧ Um.Eok c O ∧ Sx bs w0 w' [(P, [.int .i64 sl, .int .i64 ky, .int .u64 (sn : Nat), .int .u64 (s : Nat), ov, .int .i64 ot, .pointer (some ⟨G, 0, none⟩), pj, po, pl, .func (.func 89) #[.pointer (some ⟨P, 0, none⟩)] #[], .int .i64 0]), (B, memL c C O.m), (C, rowW O.m.ws c.n), (G, entL G h la nl cl O)] e := by
  have HR := hide hr
  have HO := hide hO
  have HE := hide ho
  have HH := hide hh
  have HST := hide hSt
  have HD := hide (show Um.edn c h O = true by unfold Um.edn; rw [hen, hn]; rfl)
  have HER := hide (show Um.eer c h O = O.e by unfold Um.eer; rw [hn]; rfl)
  have HE0 := hide he
  clear he
  clear hr hO ho hh hSt hen hn
  go_enter Tryz.func45, Tryz.ntmps45
  go_wp2_with (first | (refine ybox hS (h := ?_); clear hS; intro _ _ hS) | (refine yall hS (h := ?_); clear hS; intro _ _ hS) | refine yld hS (h := ?_) | (refine yst hS (h := ?_); clear hS; intro _ hS))
  refine (gStep_any hS 1 2 3 g O (unhide HO) rfl rfl rfl (by decide) (by decide) (by decide) (unhide HR) (unhide HE) (unhide HH) hnl (unhide HST)).mono ?_
  rintro r u ⟨rfl, hOn, hSn⟩
  clear hS
  have hS := hSn
  clear hSn
  dsimp only [putL, List.set, List.cons_append, List.nil_append] at hS
  have HOK := hide hOn
  clear hOn
  go_wp2_with (first | (refine ybox hS (h := ?_); clear hS; intro _ _ hS) | (refine yall hS (h := ?_); clear hS; intro _ _ hS) | refine yld hS (h := ?_) | (refine yst hS (h := ?_); clear hS; intro _ hS))
  refine (gDone_any hS 1 2 3 rfl rfl rfl (by decide) (unhide HR) (unhide HOK).wd (unhide HH)).mono ?_
  rintro r u ⟨rfl, hb⟩
  replace hS := hS.call hb
  clear hb
  rw [unhide HD]
  go_wp2_with (first | (refine ybox hS (h := ?_); clear hS; intro _ _ hS) | (refine yall hS (h := ?_); clear hS; intro _ _ hS) | refine yld hS (h := ?_) | (refine yst hS (h := ?_); clear hS; intro _ hS))
  refine (gError_any hS 1 2 3 rfl rfl rfl (by decide) (unhide HR) (unhide HOK).wd (unhide HH)).mono ?_
  rintro r u ⟨rfl, hb⟩
  replace hS := hS.call hb
  clear hb
  rw [unhide HER]
  rw [unhide HE0]
  go_wp2_with (first | (refine ybox hS (h := ?_); clear hS; intro _ _ hS) | (refine yall hS (h := ?_); clear hS; intro _ _ hS) | refine yld hS (h := ?_) | (refine yst hS (h := ?_); clear hS; intro _ hS))
  first | go_end0 | ((try simp only [Exit.inBlock, Exit.then]); refine bodyPost_ret (results_none rfl _ _ _) rfl ?_)
  exact ⟨rfl, unhide HOK, hS⟩

set_option maxHeartbeats 4000000 in
theorem rSnap_x (hS : Sx bs w0 w [(P, [.int .i64 sl, .int .i64 ky, .int .u64 (sn : Nat), .int .u64 (s : Nat), ov, .int .i64 ot, pg, pj, po, pl, .func (.func 89) #[.pointer (some ⟨P, 0, none⟩)] #[], .int .i64 ft]), (B, memL c C m), (C, rowW m.ws c.n)] e) (hr : c.r = true) (hw : WordsOk c m) (hb : -9223372036854775808 ≤ sl ∧ sl ≤ 9223372036854775807) (hkb : -9223372036854775808 ≤ ky ∧ ky ≤ 9223372036854775807) (M : Um.Mm) (hM : M = Um.mtouch c m 1 5 sl 0 0) :
    Calls Tryz.prog 89 #[.pointer (some ⟨P, 0, none⟩), .pointer (some ⟨B, 0, none⟩)] w fun r w' => r = .returned (.tuple #[]) ∧ WordsOk c M ∧ Sx bs w0 w' [(P, [.int .i64 sl, .int .i64 ky, .int .u64 (M.l.old : Nat), .int .u64 (s : Nat), ov, .int .i64 ot, pg, pj, po, pl, .func (.func 105) #[.pointer (some ⟨P, 0, none⟩)] #[], .int .i64 ft]), (B, memL c C M), (C, rowW M.ws c.n)] e := by
  have HR := hide hr
  have HW := hide hw
  have HM := hide hM
  have HBD := hide hb
  have HKB := hide hkb
  clear hr hw hM hb hkb
  go_enter Tryz.func89, Tryz.ntmps89
  go_wp2_with (first | (refine ybox hS (h := ?_); clear hS; intro _ _ hS) | (refine yall hS (h := ?_); clear hS; intro _ _ hS) | refine yld hS (h := ?_) | (refine yst hS (h := ?_); clear hS; intro _ hS))
  refine (mLoad_x hS 1 2 rfl rfl (by decide) (unhide HR) (unhide HW) 5 sl (unhide HBD).1 (unhide HBD).2 M (unhide HM)).mono ?_
  rintro r u ⟨rfl, hWn, hSn⟩
  clear hS
  have hS := hSn
  clear hSn
  dsimp only [putL, List.set, List.cons_append, List.nil_append] at hS
  have HW6 := hide hWn
  clear hWn
  go_wp2_with (first | (refine ybox hS (h := ?_); clear hS; intro _ _ hS) | (refine yall hS (h := ?_); clear hS; intro _ _ hS) | refine yld hS (h := ?_) | (refine yst hS (h := ?_); clear hS; intro _ hS))
  first | go_end0 | ((try simp only [Exit.inBlock, Exit.then]); refine bodyPost_ret (results_none rfl _ _ _) rfl ?_)
  exact ⟨rfl, unhide HW6, hS⟩

set_option maxHeartbeats 4000000 in
theorem rLook_n (hS : Sx bs w0 w [(P, [.int .i64 sl, .int .i64 ky, .int .u64 (sn : Nat), .int .u64 (s : Nat), ov, .int .i64 ot, pg, pj, po, pl, .func (.func 105) #[.pointer (some ⟨P, 0, none⟩)] #[], .int .i64 ft]), (B, memL c C m), (C, rowW m.ws c.n)] e) (hr : c.r = true) (hw : WordsOk c m) (hb : -9223372036854775808 ≤ sl ∧ sl ≤ 9223372036854775807) (hkb : -9223372036854775808 ≤ ky ∧ ky ≤ 9223372036854775807) (M : Um.Mm) (hM : M = Um.mtouch c m 1 8 ky 0 0) (hh : Um.hasN M.l.old 0 sl = false) :
    Calls Tryz.prog 105 #[.pointer (some ⟨P, 0, none⟩), .pointer (some ⟨B, 0, none⟩)] w fun r w' => r = .returned (.tuple #[]) ∧ WordsOk c M ∧ Sx bs w0 w' [(P, [.int .i64 sl, .int .i64 ky, .int .u64 (sn : Nat), .int .u64 (M.l.old : Nat), ov, .int .i64 ot, pg, pj, po, pl, .func (.func 127) #[.pointer (some ⟨P, 0, none⟩)] #[], .int .i64 ft]), (B, memL c C M), (C, rowW M.ws c.n)] e := by
  have HO := hide (show Um.Word (Um.mtouch c m 1 8 ky 0 0).l.old from Um.old_word hw)
  rw [← hM] at HO
  have HHH := hide hh
  clear hh
  have HR := hide hr
  have HW := hide hw
  have HM := hide hM
  have HBD := hide hb
  have HKB := hide hkb
  clear hr hw hM hb hkb
  go_enter Tryz.func105, Tryz.ntmps105
  go_wp2_with (first | (refine ybox hS (h := ?_); clear hS; intro _ _ hS) | (refine yall hS (h := ?_); clear hS; intro _ _ hS) | refine yld hS (h := ?_) | (refine yst hS (h := ?_); clear hS; intro _ hS))
  refine (rSpot_b (hS.get 0 rfl)).mono ?_
  rintro r u ⟨rfl, hb⟩
  replace hS := hS.call hb
  clear hb
  go_wp2_with (first | (refine ybox hS (h := ?_); clear hS; intro _ _ hS) | (refine yall hS (h := ?_); clear hS; intro _ _ hS) | refine yld hS (h := ?_) | (refine yst hS (h := ?_); clear hS; intro _ hS))
  refine (mLoad_x hS 1 2 rfl rfl (by decide) (unhide HR) (unhide HW) 8 ky (unhide HKB).1 (unhide HKB).2 M (unhide HM)).mono ?_
  rintro r u ⟨rfl, hWn, hSn⟩
  clear hS
  have hS := hSn
  clear hSn
  dsimp only [putL, List.set, List.cons_append, List.nil_append] at hS
  have HW6 := hide hWn
  clear hWn
  go_wp2_with (first | (refine ybox hS (h := ?_); clear hS; intro _ _ hS) | (refine yall hS (h := ?_); clear hS; intro _ _ hS) | refine yld hS (h := ?_) | (refine yst hS (h := ?_); clear hS; intro _ hS))
  have HHS := hide (fun u => same_below (mHas_any M.l.old 0 sl u (unhide HO)))
  rw [unhide HHH] at HHS
  obtain ⟨u, rfl⟩ := nameW hS
  have k3 := cell_regrown ((hS.get 0 rfl).cell 3 _ rfl)
  have k0 := cell_regrown ((hS.get 0 rfl).cell 0 _ rfl)
  have HSQ := hide hS
  clear hS
  refine wp_region_quiet_below (by kernel_rfl) (by kernel_rfl) ?_
  repeat (go_big_quiet_step (first | (go_at_call 125; exact Calls.regrown_of ((unhide HHS) _))))
  refine wpQuiet_nil ?_
  intro _ hw'
  obtain ⟨⟨dq, osq⟩, hw''⟩ := hw'
  subst hw''
  have hS := (unhide HSQ).call (below_regrown u dq osq)
  clear HSQ k3 k0
  generalize grow (redrawn u dq) osq = u9 at *
  clear HHS
  go_wp2_with (first | (refine ybox hS (h := ?_); clear hS; intro _ _ hS) | (refine yall hS (h := ?_); clear hS; intro _ _ hS) | refine yld hS (h := ?_) | (refine yst hS (h := ?_); clear hS; intro _ hS))
  first | go_end0 | ((try simp only [Exit.inBlock, Exit.then]); refine bodyPost_ret (results_none rfl _ _ _) rfl ?_)
  exact ⟨rfl, unhide HW6, hS⟩

set_option maxHeartbeats 4000000 in
theorem rLook_t (hS : Sx bs w0 w [(P, [.int .i64 sl, .int .i64 ky, .int .u64 (sn : Nat), .int .u64 (s : Nat), ov, .int .i64 ot, pg, pj, po, pl, .func (.func 105) #[.pointer (some ⟨P, 0, none⟩)] #[], .int .i64 ft]), (B, memL c C m), (C, rowW m.ws c.n)] e) (hr : c.r = true) (hw : WordsOk c m) (hb : -9223372036854775808 ≤ sl ∧ sl ≤ 9223372036854775807) (hkb : -9223372036854775808 ≤ ky ∧ ky ≤ 9223372036854775807) (M : Um.Mm) (hM : M = Um.mtouch c m 1 8 ky 0 0) (hh : Um.hasN M.l.old 0 sl = true) :
    Calls Tryz.prog 105 #[.pointer (some ⟨P, 0, none⟩), .pointer (some ⟨B, 0, none⟩)] w fun r w' => ∃ L cs ls X xc sb, r = .returned (.tuple #[]) ∧ AnP P L sl ky sn M.l.old M (e ++ sb) (Um.othersN M.l.old 1 sl) cs ls X xc ∧ (∀ p ∈ sb, w.heap.size ≤ p.1) ∧ WordsOk c M ∧ Sx bs w0 w' [(P, cs), (B, memL c C M), (C, rowW M.ws c.n), (L, ls), (X, xc)] (e ++ sb) := by
  have HO := hide (show Um.Word (Um.mtouch c m 1 8 ky 0 0).l.old from Um.old_word hw)
  rw [← hM] at HO
  have HHH := hide hh
  clear hh
  have HS := hide hS
  have hS0 := hS.enter3e 0 1 2 rfl rfl rfl (by decide) (by decide) (by decide)
  clear hS
  have hS := hS0
  clear hS0
  have HR := hide hr
  have HW := hide hw
  have HM := hide hM
  have HBD := hide hb
  have HKB := hide hkb
  clear hr hw hM hb hkb
  go_enter Tryz.func105, Tryz.ntmps105
  go_wp2_with (first | (refine ybox hS (h := ?_); clear hS; intro _ _ hS) | (refine yall hS (h := ?_); clear hS; intro _ _ hS) | refine yld hS (h := ?_) | (refine yst hS (h := ?_); clear hS; intro _ hS))
  refine (rSpot_b (hS.get 0 rfl)).mono ?_
  rintro r u ⟨rfl, hb⟩
  replace hS := hS.call hb
  clear hb
  go_wp2_with (first | (refine ybox hS (h := ?_); clear hS; intro _ _ hS) | (refine yall hS (h := ?_); clear hS; intro _ _ hS) | refine yld hS (h := ?_) | (refine yst hS (h := ?_); clear hS; intro _ hS))
  refine (mLoad_x hS 1 2 rfl rfl (by decide) (unhide HR) (unhide HW) 8 ky (unhide HKB).1 (unhide HKB).2 M (unhide HM)).mono ?_
  rintro r u ⟨rfl, hWn, hSn⟩
  clear hS
  have hS := hSn
  clear hSn
  dsimp only [putL, List.set, List.cons_append, List.nil_append] at hS
  have HW6 := hide hWn
  clear hWn
  go_wp2_with (first | (refine ybox hS (h := ?_); clear hS; intro _ _ hS) | (refine yall hS (h := ?_); clear hS; intro _ _ hS) | refine yld hS (h := ?_) | (refine yst hS (h := ?_); clear hS; intro _ hS))
  have HHS := hide (fun u => same_below (mHas_any M.l.old 0 sl u (unhide HO)))
  rw [unhide HHH] at HHS
  obtain ⟨u, rfl⟩ := nameW hS
  have k3 := cell_regrown ((hS.get 0 rfl).cell 3 _ rfl)
  have k0 := cell_regrown ((hS.get 0 rfl).cell 0 _ rfl)
  have HSQ := hide hS
  clear hS
  refine wp_region_quiet_below (by kernel_rfl) (by kernel_rfl) ?_
  repeat (go_big_quiet_step (first | (go_at_call 125; exact Calls.regrown_of ((unhide HHS) _))))
  refine wpQuiet_nil ?_
  intro _ hw'
  obtain ⟨⟨dq, osq⟩, hw''⟩ := hw'
  subst hw''
  have hS := (unhide HSQ).call (below_regrown u dq osq)
  clear HSQ k3 k0
  generalize grow (redrawn u dq) osq = u9 at *
  clear HHS
  go_wp2_with (first | (refine ybox hS (h := ?_); clear hS; intro _ _ hS) | (refine yall hS (h := ?_); clear hS; intro _ _ hS) | refine yld hS (h := ?_) | (refine yst hS (h := ?_); clear hS; intro _ hS))
  have hsz := hS.size
  refine (rFound_x hS 0 rfl (unhide HO) M).mono ?_
  rintro r u2 ⟨L, cs, ls, X, xc, sb, rfl, hA, hsb, hSn⟩
  clear hS
  have hS := hSn
  clear hSn
  dsimp only [putL, List.set, List.cons_append, List.nil_append] at hS
  have HA := hide (And.intro hA (fun p (hp : p ∈ sb) => Nat.le_trans hsz (hsb p hp)))
  clear hA hsb hsz
  go_wp2_with fail
  first | go_end0 | ((try simp only [Exit.inBlock, Exit.then]); refine bodyPost_ret (results_none rfl _ _ _) rfl ?_)
  refine ⟨L, cs, ls, X, xc, sb, rfl, (unhide HA).1, (unhide HA).2, unhide HW6, ?_⟩
  have h9 := (unhide HS).backG (us := [(0, P, cs), (1, B, memL c C M), (2, C, rowW M.ws c.n)]) (r := [(L, ls), (X, xc)]) (sb := sb) (placesL3 rfl rfl rfl) hS (unhide HA).2
  exact h9

set_option maxHeartbeats 4000000 in
theorem rMark_f (hS : Sx bs w0 w [(P, [.int .i64 sl, .int .i64 ky, .int .u64 (sn : Nat), .int .u64 (s : Nat), ov, .int .i64 ot, pg, pj, po, pl, .func (.func 127) #[.pointer (some ⟨P, 0, none⟩)] #[], .int .i64 ft]), (B, memL c C m), (C, rowW m.ws c.n)] e) (hr : c.r = true) (hw : WordsOk c m) (hb : -9223372036854775808 ≤ sl ∧ sl ≤ 9223372036854775807) (hkb : -9223372036854775808 ≤ ky ∧ ky ≤ 9223372036854775807) (M : Um.Mm) (hM : M = Um.mtouch c m 3 8 ky s (Um.withN s 0 sl)) (hs : Um.Word s) (hd : M.l.done = false) :
    Calls Tryz.prog 127 #[.pointer (some ⟨P, 0, none⟩), .pointer (some ⟨B, 0, none⟩)] w fun r w' => r = .returned (.tuple #[]) ∧ WordsOk c M ∧ Sx bs w0 w' [(P, [.int .i64 sl, .int .i64 ky, .int .u64 (sn : Nat), .int .u64 (s : Nat), ov, .int .i64 ot, pg, pj, po, pl, .func (.func 105) #[.pointer (some ⟨P, 0, none⟩)] #[], .int .i64 ft]), (B, memL c C M), (C, rowW M.ws c.n)] e := by
  have HV := hide hs
  have HD := hide hd
  clear hs hd
  have HR := hide hr
  have HW := hide hw
  have HM := hide hM
  have HBD := hide hb
  have HKB := hide hkb
  clear hr hw hM hb hkb
  have k0 := fun w' (hq : BlkAt w' P [.int .i64 sl, .int .i64 ky, .int .u64 (sn : Nat), .int .u64 (s : Nat), ov, .int .i64 ot, pg, pj, po, pl, .func (.func 127) #[.pointer (some ⟨P, 0, none⟩)] #[], .int .i64 ft]) => hq.cell 0 _ rfl
  have k3 := fun w' (hq : BlkAt w' P [.int .i64 sl, .int .i64 ky, .int .u64 (sn : Nat), .int .u64 (s : Nat), ov, .int .i64 ot, pg, pj, po, pl, .func (.func 127) #[.pointer (some ⟨P, 0, none⟩)] #[], .int .i64 ft]) => hq.cell 3 _ rfl
  have HP := hide (hS.get 0 rfl)
  go_enter Tryz.func127, Tryz.ntmps127
  go_wp2_with fail
  have HS3 := hide hS
  clear hS
  go_region_held3 (fun w' => BlkAt w' P [.int .i64 sl, .int .i64 ky, .int .u64 (sn : Nat), .int .u64 (s : Nat), ov, .int .i64 ot, pg, pj, po, pl, .func (.func 127) #[.pointer (some ⟨P, 0, none⟩)] #[], .int .i64 ft]) (first | exact (unhide HP).drew | exact BlkAt.below (by assumption) (by assumption) | assumption) (first | (go_at_call 124; refine (rSpot_b (by assumption)).mono ?_; rintro e u5 ⟨rfl, hb5⟩) | (go_at_call 137; refine (mWith_any s 0 sl _ (unhide HV)).mono ?_; rintro e u6 ⟨rfl, rfl⟩) | (go_at_call 132; refine (mSwap_x ((unhide HS3).undrew hb5) 1 2 rfl rfl (by decide) (unhide HR) (unhide HW) 8 ky s (Um.withN s 0 sl) (Um.with_word (unhide HV) _ _) (unhide HKB).1 (unhide HKB).2 M (unhide HM)).mono ?_; rintro e u7 ⟨rfl, hW6, hS6⟩; have hP6 := hS6.get 0 rfl))
  have hS := hS6
  have HW6 := hide hW6
  clear hS6 hP6 hW6 k0 k3 HS3 HP
  dsimp only [putL, List.set] at hS
  simp only [unhide HD]
  go_wp2_with (first | (refine ybox hS (h := ?_); clear hS; intro _ _ hS) | (refine yall hS (h := ?_); clear hS; intro _ _ hS) | refine yld hS (h := ?_) | (refine yst hS (h := ?_); clear hS; intro _ hS))
  first | go_end0 | ((try simp only [Exit.inBlock, Exit.then]); refine bodyPost_ret (results_none rfl _ _ _) rfl ?_)
  exact ⟨rfl, unhide HW6, hS⟩

set_option maxHeartbeats 4000000 in
theorem rMark_t (hS : Sx bs w0 w [(P, [.int .i64 sl, .int .i64 ky, .int .u64 (sn : Nat), .int .u64 (s : Nat), ov, .int .i64 ot, pg, pj, po, pl, .func (.func 127) #[.pointer (some ⟨P, 0, none⟩)] #[], .int .i64 ft]), (B, memL c C m), (C, rowW m.ws c.n)] e) (hr : c.r = true) (hw : WordsOk c m) (hb : -9223372036854775808 ≤ sl ∧ sl ≤ 9223372036854775807) (hkb : -9223372036854775808 ≤ ky ∧ ky ≤ 9223372036854775807) (M : Um.Mm) (hM : M = Um.mtouch c m 3 8 ky s (Um.withN s 0 sl)) (hs : Um.Word s) (hd : M.l.done = true) :
    Calls Tryz.prog 127 #[.pointer (some ⟨P, 0, none⟩), .pointer (some ⟨B, 0, none⟩)] w fun r w' => ∃ L cs ls X xc sb, r = .returned (.tuple #[]) ∧ AnP P L sl ky sn s M (e ++ sb) (Um.othersN s 1 sl) cs ls X xc ∧ (∀ p ∈ sb, w.heap.size ≤ p.1) ∧ WordsOk c M ∧ Sx bs w0 w' [(P, cs), (B, memL c C M), (C, rowW M.ws c.n), (L, ls), (X, xc)] (e ++ sb) := by
  have HV := hide hs
  have HD := hide hd
  clear hs hd
  have HS := hide hS
  have hS0 := hS.enter3e 0 1 2 rfl rfl rfl (by decide) (by decide) (by decide)
  clear hS
  have hS := hS0
  clear hS0
  have HR := hide hr
  have HW := hide hw
  have HM := hide hM
  have HBD := hide hb
  have HKB := hide hkb
  clear hr hw hM hb hkb
  have k0 := fun w' (hq : BlkAt w' P [.int .i64 sl, .int .i64 ky, .int .u64 (sn : Nat), .int .u64 (s : Nat), ov, .int .i64 ot, pg, pj, po, pl, .func (.func 127) #[.pointer (some ⟨P, 0, none⟩)] #[], .int .i64 ft]) => hq.cell 0 _ rfl
  have k3 := fun w' (hq : BlkAt w' P [.int .i64 sl, .int .i64 ky, .int .u64 (sn : Nat), .int .u64 (s : Nat), ov, .int .i64 ot, pg, pj, po, pl, .func (.func 127) #[.pointer (some ⟨P, 0, none⟩)] #[], .int .i64 ft]) => hq.cell 3 _ rfl
  have HP := hide (hS.get 0 rfl)
  go_enter Tryz.func127, Tryz.ntmps127
  go_wp2_with fail
  have HS3 := hide hS
  clear hS
  go_region_held3 (fun w' => BlkAt w' P [.int .i64 sl, .int .i64 ky, .int .u64 (sn : Nat), .int .u64 (s : Nat), ov, .int .i64 ot, pg, pj, po, pl, .func (.func 127) #[.pointer (some ⟨P, 0, none⟩)] #[], .int .i64 ft]) (first | exact (unhide HP).drew | exact BlkAt.below (by assumption) (by assumption) | assumption) (first | (go_at_call 124; refine (rSpot_b (by assumption)).mono ?_; rintro e u5 ⟨rfl, hb5⟩) | (go_at_call 137; refine (mWith_any s 0 sl _ (unhide HV)).mono ?_; rintro e u6 ⟨rfl, rfl⟩) | (go_at_call 132; refine (mSwap_x ((unhide HS3).undrew hb5) 1 2 rfl rfl (by decide) (unhide HR) (unhide HW) 8 ky s (Um.withN s 0 sl) (Um.with_word (unhide HV) _ _) (unhide HKB).1 (unhide HKB).2 M (unhide HM)).mono ?_; rintro e u7 ⟨rfl, hW6, hS6⟩; have hP6 := hS6.get 0 rfl))
  have hS := hS6
  have HW6 := hide hW6
  clear hS6 hP6 hW6 k0 k3 HS3 HP
  dsimp only [putL, List.set] at hS
  simp only [unhide HD]
  go_wp2_with (first | (refine ybox hS (h := ?_); clear hS; intro _ _ hS) | (refine yall hS (h := ?_); clear hS; intro _ _ hS) | refine yld hS (h := ?_) | (refine yst hS (h := ?_); clear hS; intro _ hS))
  have hsz := hS.size
  refine (rFound_x hS 0 rfl (unhide HV) M).mono ?_
  rintro r u2 ⟨L, cs, ls, X, xc, sb, rfl, hA, hsb, hSn⟩
  clear hS
  have hS := hSn
  clear hSn
  dsimp only [putL, List.set, List.cons_append, List.nil_append] at hS
  have HA := hide (And.intro hA (fun p (hp : p ∈ sb) => Nat.le_trans hsz (hsb p hp)))
  clear hA hsb hsz
  go_wp2_with fail
  first | go_end0 | ((try simp only [Exit.inBlock, Exit.then]); refine bodyPost_ret (results_none rfl _ _ _) rfl ?_)
  refine ⟨L, cs, ls, X, xc, sb, rfl, (unhide HA).1, (unhide HA).2, unhide HW6, ?_⟩
  exact (unhide HS).backG (us := [(0, P, cs), (1, B, memL c C M), (2, C, rowW M.ws c.n)]) (r := [(L, ls), (X, xc)]) (sb := sb) (placesL3 rfl rfl rfl) hS (unhide HA).2

set_option maxHeartbeats 4000000 in
theorem rJoin_0 {J : Nat} {x : Int} {j O : Um.Js} {lv : Value} (hS : Sx bs w0 w [(P, [.int .i64 sl, .int .i64 ky, .int .u64 (sn : Nat), .int .u64 (s : Nat), ov, .int .i64 ot, pg, .pointer (some ⟨J, 0, none⟩), po, pl, .func (.func 144) #[.pointer (some ⟨P, 0, none⟩)] #[], .int .i64 ft]), (B, memL c C j.m), (C, rowW j.m.ws c.n), (L, [lv]), (J, jnL x 1 sl sn j)] e) (hr : c.r = true) (hO : O = Um.jstep c x 1 sl sn j) (ho : Um.Jok c j) (hx : -9223372036854775808 ≤ x ∧ x ≤ 9223372036854775807) (h : O.r = 0) :
    Calls Tryz.prog 144 #[.pointer (some ⟨P, 0, none⟩), .pointer (some ⟨B, 0, none⟩)] w fun r w' => r = .returned (.tuple #[]) ∧ Um.Jok c O ∧ Sx bs w0 w' [(P, [.int .i64 sl, .int .i64 ky, .int .u64 (sn : Nat), .int .u64 (s : Nat), ov, .int .i64 ot, pg, .pointer (some ⟨J, 0, none⟩), po, pl, .func (.func 144) #[.pointer (some ⟨P, 0, none⟩)] #[], .int .i64 ft]), (B, memL c C O.m), (C, rowW O.m.ws c.n), (L, [lv]), (J, jnL x 1 sl sn O)] e := by
  have HR := hide hr
  have HO := hide hO
  have HJ := hide ho
  have HX := hide hx
  have HRR := hide h
  clear hr hO ho hx h
  go_enter Tryz.func144, Tryz.ntmps144
  go_wp2_with (first | (refine ybox hS (h := ?_); clear hS; intro _ _ hS) | (refine yall hS (h := ?_); clear hS; intro _ _ hS) | refine yld hS (h := ?_) | (refine yst hS (h := ?_); clear hS; intro _ hS))
  refine (jStep_any (sl := x) (sd := 1) (b := sl) (sn := sn) hS 1 2 4 j O (unhide HO) rfl rfl rfl (by decide) (by decide) (by decide) (unhide HR) (unhide HJ) (unhide HX).1 (unhide HX).2 (by decide) (by decide)).mono ?_
  rintro r u ⟨rfl, hOn, hSn⟩
  clear hS
  have hS := hSn
  clear hSn
  dsimp only [putL, List.set, List.cons_append, List.nil_append] at hS
  have HOK := hide hOn
  clear hOn
  go_wp2_with (first | (refine ybox hS (h := ?_); clear hS; intro _ _ hS) | (refine yall hS (h := ?_); clear hS; intro _ _ hS) | refine yld hS (h := ?_) | (refine yst hS (h := ?_); clear hS; intro _ hS))
  refine (jRes_any (o := O) (hS.get 4 rfl)).mono ?_
  rintro r u ⟨rfl, rfl⟩
  rw [show ((O.r : Nat) : Int) = 0 by rw [unhide HRR]; rfl]
  go_wp2_with (first | (refine ybox hS (h := ?_); clear hS; intro _ _ hS) | (refine yall hS (h := ?_); clear hS; intro _ _ hS) | refine yld hS (h := ?_) | (refine yst hS (h := ?_); clear hS; intro _ hS))
  first | go_end0 | ((try simp only [Exit.inBlock, Exit.then]); refine bodyPost_ret (results_none rfl _ _ _) rfl ?_)
  exact ⟨rfl, unhide HOK, hS⟩

set_option maxHeartbeats 4000000 in
theorem rJoin_3 {J : Nat} {x : Int} {j O : Um.Js} {lv : Value} (hS : Sx bs w0 w [(P, [.int .i64 sl, .int .i64 ky, .int .u64 (sn : Nat), .int .u64 (s : Nat), ov, .int .i64 ot, pg, .pointer (some ⟨J, 0, none⟩), po, pl, .func (.func 144) #[.pointer (some ⟨P, 0, none⟩)] #[], .int .i64 ft]), (B, memL c C j.m), (C, rowW j.m.ws c.n), (L, [lv]), (J, jnL x 1 sl sn j)] e) (hr : c.r = true) (hO : O = Um.jstep c x 1 sl sn j) (ho : Um.Jok c j) (hx : -9223372036854775808 ≤ x ∧ x ≤ 9223372036854775807) (h : O.r = 3) :
    Calls Tryz.prog 144 #[.pointer (some ⟨P, 0, none⟩), .pointer (some ⟨B, 0, none⟩)] w fun r w' => ∃ V, r = .returned (.tuple #[]) ∧ Um.Jok c O ∧ Sx bs w0 w' [(P, [.int .i64 sl, .int .i64 ky, .int .u64 (sn : Nat), .int .u64 (s : Nat), ov, .int .i64 ot, pg, .pointer (some ⟨J, 0, none⟩), po, .pointer (some ⟨V, 0, none⟩), .func (.func 147) #[.pointer (some ⟨P, 0, none⟩)] #[], .int .i64 7]), (B, memL c C O.m), (C, rowW O.m.ws c.n), (L, [lv]), (J, jnL x 1 sl sn O), (V, leaL V sl 5 (Um.lnew O.m))] e := by
  have HR := hide hr
  have HO := hide hO
  have HJ := hide ho
  have HX := hide hx
  have HRR := hide h
  clear hr hO ho hx h
  go_enter Tryz.func144, Tryz.ntmps144
  go_wp2_with (first | (refine ybox hS (h := ?_); clear hS; intro _ _ hS) | (refine yall hS (h := ?_); clear hS; intro _ _ hS) | refine yld hS (h := ?_) | (refine yst hS (h := ?_); clear hS; intro _ hS))
  refine (jStep_any (sl := x) (sd := 1) (b := sl) (sn := sn) hS 1 2 4 j O (unhide HO) rfl rfl rfl (by decide) (by decide) (by decide) (unhide HR) (unhide HJ) (unhide HX).1 (unhide HX).2 (by decide) (by decide)).mono ?_
  rintro r u ⟨rfl, hOn, hSn⟩
  clear hS
  have hS := hSn
  clear hSn
  dsimp only [putL, List.set, List.cons_append, List.nil_append] at hS
  have HOK := hide hOn
  clear hOn
  go_wp2_with (first | (refine ybox hS (h := ?_); clear hS; intro _ _ hS) | (refine yall hS (h := ?_); clear hS; intro _ _ hS) | refine yld hS (h := ?_) | (refine yst hS (h := ?_); clear hS; intro _ hS))
  refine (jRes_any (o := O) (hS.get 4 rfl)).mono ?_
  rintro r u ⟨rfl, rfl⟩
  rw [show ((O.r : Nat) : Int) = 3 by rw [unhide HRR]; rfl]
  go_wp2_with (first | (refine ybox hS (h := ?_); clear hS; intro _ _ hS) | (refine yall hS (h := ?_); clear hS; intro _ _ hS) | refine yld hS (h := ?_) | (refine yst hS (h := ?_); clear hS; intro _ hS))
  refine (rGoOut_x hS 0 rfl 5 7 O.m).mono ?_
  rintro r u ⟨V, rfl, hSn⟩
  clear hS
  have hS := hSn
  clear hSn
  dsimp only [putL, List.set, List.cons_append, List.nil_append] at hS
  go_wp2_with fail
  first | go_end0 | ((try simp only [Exit.inBlock, Exit.then]); refine bodyPost_ret (results_none rfl _ _ _) rfl ?_)
  exact ⟨V, rfl, unhide HOK, hS⟩

set_option maxHeartbeats 4000000 in
theorem rJoin_2 {J : Nat} {x : Int} {j O : Um.Js} {lv : Value} (hS : Sx bs w0 w [(P, [.int .i64 sl, .int .i64 ky, .int .u64 (sn : Nat), .int .u64 (s : Nat), ov, .int .i64 ot, pg, .pointer (some ⟨J, 0, none⟩), po, pl, .func (.func 144) #[.pointer (some ⟨P, 0, none⟩)] #[], .int .i64 ft]), (B, memL c C j.m), (C, rowW j.m.ws c.n), (L, [lv]), (J, jnL x 1 sl sn j)] e) (hr : c.r = true) (hO : O = Um.jstep c x 1 sl sn j) (ho : Um.Jok c j) (hx : -9223372036854775808 ≤ x ∧ x ≤ 9223372036854775807) (h : O.r = 2) :
    Calls Tryz.prog 144 #[.pointer (some ⟨P, 0, none⟩), .pointer (some ⟨B, 0, none⟩)] w fun r w' => ∃ OW, r = .returned (.tuple #[]) ∧ Um.Jok c O ∧ Sx bs w0 w' [(P, [.int .i64 sl, .int .i64 ky, .int .u64 (sn : Nat), .int .u64 (s : Nat), ov, .int .i64 ot, pg, .pointer (some ⟨J, 0, none⟩), .pointer (some ⟨OW, 0, none⟩), pl, .func (.func 152) #[.pointer (some ⟨P, 0, none⟩)] #[], .int .i64 ft]), (B, memL c C O.m), (C, rowW O.m.ws c.n), (L, [lv]), (J, jnL x 1 sl sn O), (OW, owL sl 0 ot (Um.lnew O.m))] e := by
  have HR := hide hr
  have HO := hide hO
  have HJ := hide ho
  have HX := hide hx
  have HRR := hide h
  clear hr hO ho hx h
  go_enter Tryz.func144, Tryz.ntmps144
  go_wp2_with (first | (refine ybox hS (h := ?_); clear hS; intro _ _ hS) | (refine yall hS (h := ?_); clear hS; intro _ _ hS) | refine yld hS (h := ?_) | (refine yst hS (h := ?_); clear hS; intro _ hS))
  refine (jStep_any (sl := x) (sd := 1) (b := sl) (sn := sn) hS 1 2 4 j O (unhide HO) rfl rfl rfl (by decide) (by decide) (by decide) (unhide HR) (unhide HJ) (unhide HX).1 (unhide HX).2 (by decide) (by decide)).mono ?_
  rintro r u ⟨rfl, hOn, hSn⟩
  clear hS
  have hS := hSn
  clear hSn
  dsimp only [putL, List.set, List.cons_append, List.nil_append] at hS
  have HOK := hide hOn
  clear hOn
  go_wp2_with (first | (refine ybox hS (h := ?_); clear hS; intro _ _ hS) | (refine yall hS (h := ?_); clear hS; intro _ _ hS) | refine yld hS (h := ?_) | (refine yst hS (h := ?_); clear hS; intro _ hS))
  refine (jRes_any (o := O) (hS.get 4 rfl)).mono ?_
  rintro r u ⟨rfl, rfl⟩
  rw [show ((O.r : Nat) : Int) = 2 by rw [unhide HRR]; rfl]
  go_wp2_with (first | (refine ybox hS (h := ?_); clear hS; intro _ _ hS) | (refine yall hS (h := ?_); clear hS; intro _ _ hS) | refine yld hS (h := ?_) | (refine yst hS (h := ?_); clear hS; intro _ hS))
  refine wp_region_ogt (fun ts D ts' w' => ∃ (OW : Nat), ts' = putS ts [(17, cond (D 0) (.pointer (some ⟨P, 0, none⟩)) undef), (18, cond (D 1) (.pointer (some ⟨P, 0, none⟩)) undef), (19, cond (D 2) (.pointer (some ⟨P, 0, none⟩)) undef), (20, cond (D 3) (.pointer (some ⟨P, 0, none⟩)) undef), (21, cond (D 4) (.int .i64 sl) undef), (22, cond (D 5) (.pointer (some ⟨P, 0, none⟩)) undef), (23, cond (D 6) (.pointer (some ⟨P, 0, none⟩)) undef), (24, cond (D 7) (.pointer (some ⟨P, 5, none⟩)) undef), (25, cond (D 8) (.int .i64 ot) undef), (26, cond (D 9) (.pointer (some ⟨OW, 0, none⟩)) undef), (27, cond (D 10) (.pointer (some ⟨P, 0, none⟩)) undef), (28, cond (D 11) (.pointer (some ⟨P, 8, none⟩)) undef)] ∧ (D 12 = true → D 9 = true) ∧ Sx bs w0 w' ([(P, cond (D 12) [.int .i64 sl, .int .i64 ky, .int .u64 (sn : Nat), .int .u64 (s : Nat), ov, .int .i64 ot, pg, .pointer (some ⟨J, 0, none⟩), .pointer (some ⟨OW, 0, none⟩), pl, .func (.func 144) #[.pointer (some ⟨P, 0, none⟩)] #[], .int .i64 ft] [.int .i64 sl, .int .i64 ky, .int .u64 (sn : Nat), .int .u64 (s : Nat), ov, .int .i64 ot, pg, .pointer (some ⟨J, 0, none⟩), po, pl, .func (.func 144) #[.pointer (some ⟨P, 0, none⟩)] #[], .int .i64 ft]), (B, memL c C O.m), (C, rowW O.m.ws c.n), (L, [lv]), (J, jnL x 1 sl sn O)] ++ cond (D 9) [(OW, owL sl 0 ot (Um.lnew O.m))] []) e) (by kernel_rfl) (by kernel_rfl) ?start ?steps ?ends
  case start => exact ⟨0, rfl, (fun h => by cases h), hS.drew⟩
  case steps =>
    intro i o hi D ts' w' hD hpre hI
    obtain ⟨OW, rfl, hz, hS⟩ := hI
    dsimp only [putS, List.set]
    match i, hi with
    | 0, hi =>
      cases hi
      refine wpOp_step rfl (fun K hK => ?_)
      refine stp_val rfl (yif_by rfl _ (fun w => by go_simp; first | done | exact rfl)) rfl ?_
      exact hK _ _ ⟨_, rfl, OW, rfl, hz, hS⟩
    | 1, hi =>
      cases hi
      refine wpOp_step rfl (fun K hK => ?_)
      refine stp_val rfl (yif_by rfl _ (fun w => by go_simp; first | done | exact rfl)) rfl ?_
      exact hK _ _ ⟨_, rfl, OW, rfl, hz, hS⟩
    | 2, hi =>
      cases hi
      have d1 : D 1 = true := og_pre hpre (j := 1) (by kernel_rfl)
      refine wpOp_step rfl (fun K hK => ?_)
      refine stp_val rfl (yif_by rfl _ (fun w => by simp only [d1, cond_true]; go_simp; first | done | exact rfl)) rfl ?_
      exact hK _ _ ⟨_, rfl, OW, rfl, hz, hS⟩
    | 3, hi =>
      cases hi
      have d2 : D 2 = true := og_pre hpre (j := 2) (by kernel_rfl)
      refine wpOp_step rfl (fun K hK => ?_)
      refine stp_val rfl (yif_by rfl _ (fun w => by simp only [d2, cond_true]; go_simp; first | done | exact rfl)) rfl ?_
      exact hK _ _ ⟨_, rfl, OW, rfl, hz, hS⟩
    | 4, hi =>
      cases hi
      have d3 : D 3 = true := og_pre hpre (j := 3) (by kernel_rfl)
      refine wpOp_step rfl (fun K hK => ?_)
      refine stp_val rfl (by refine yif_load1 (S := fun q => q = w') rfl _ (.tmp 20) rfl P 0 ?_ _ (fun _ h => h ▸ hS.get 0 rfl) (one_any2 rfl) (.int .i64 sl) (by cases D 12 <;> rfl); exact cond_at d3 rfl) rfl ?_
      exact hK _ _ ⟨_, rfl, OW, rfl, hz, hS⟩
    | 5, hi =>
      cases hi
      refine wpOp_step rfl (fun K hK => ?_)
      refine stp_val rfl (yif_by rfl _ (fun w => by go_simp; first | done | exact rfl)) rfl ?_
      exact hK _ _ ⟨_, rfl, OW, rfl, hz, hS⟩
    | 6, hi =>
      cases hi
      have d5 : D 5 = true := og_pre hpre (j := 5) (by kernel_rfl)
      refine wpOp_step rfl (fun K hK => ?_)
      refine stp_val rfl (yif_by rfl _ (fun w => by simp only [d5, cond_true]; go_simp; first | done | exact rfl)) rfl ?_
      exact hK _ _ ⟨_, rfl, OW, rfl, hz, hS⟩
    | 7, hi =>
      cases hi
      have d6 : D 6 = true := og_pre hpre (j := 6) (by kernel_rfl)
      refine wpOp_step rfl (fun K hK => ?_)
      refine stp_val rfl (yif_by rfl _ (fun w => by simp only [d6, cond_true]; go_simp; first | done | exact rfl)) rfl ?_
      exact hK _ _ ⟨_, rfl, OW, rfl, hz, hS⟩
    | 8, hi =>
      cases hi
      have d7 : D 7 = true := og_pre hpre (j := 7) (by kernel_rfl)
      refine wpOp_step rfl (fun K hK => ?_)
      refine stp_val rfl (by refine yif_load1 (S := fun q => q = w') rfl _ (.tmp 24) rfl P 5 ?_ _ (fun _ h => h ▸ hS.get 0 rfl) (one_any2 rfl) (.int .i64 ot) (by cases D 12 <;> rfl); exact cond_at d7 rfl) rfl ?_
      exact hK _ _ ⟨_, rfl, OW, rfl, hz, hS⟩
    | 9, hi =>
      cases hi
      have d4 : D 4 = true := og_pre hpre (j := 4) (by kernel_rfl)
      have d8 : D 8 = true := og_pre hpre (j := 8) (by kernel_rfl)
      refine wpOp_step rfl (fun K hK => ?_)
      refine stp_call rfl _ _ _ rfl egNo12 _ (list3_eq (cond_at d4 rfl) rfl (cond_at d8 rfl)) _ rfl ?_
      have z0 := og_not hz hD
      simp only [z0, hD, cond_false, List.append_nil] at hS
      refine (onew_any hS sl 0 ot O.m).mono ?_
      rintro r u ⟨OW, rfl, hS2⟩
      refine ⟨_, rfl, hK _ _ ⟨_, rfl, OW, rfl, (fun _ => rfl), ?_⟩⟩
      show Sx _ _ _ ([(P, cond (D 12) _ _), _, _, _, _] ++ [(OW, _)]) _
      rw [z0]
      exact hS2
    | 10, hi =>
      cases hi
      have d0 : D 0 = true := og_pre hpre (j := 0) (by kernel_rfl)
      refine wpOp_step rfl (fun K hK => ?_)
      refine stp_val rfl (yif_by rfl _ (fun w => by simp only [d0, cond_true]; go_simp; first | done | exact rfl)) rfl ?_
      exact hK _ _ ⟨_, rfl, OW, rfl, hz, hS⟩
    | 11, hi =>
      cases hi
      have d10 : D 10 = true := og_pre hpre (j := 10) (by kernel_rfl)
      refine wpOp_step rfl (fun K hK => ?_)
      refine stp_val rfl (yif_by rfl _ (fun w => by simp only [d10, cond_true]; go_simp; first | done | exact rfl)) rfl ?_
      exact hK _ _ ⟨_, rfl, OW, rfl, hz, hS⟩
    | 12, hi =>
      cases hi
      have d9 : D 9 = true := og_pre hpre (j := 9) (by kernel_rfl)
      have d11 : D 11 = true := og_pre hpre (j := 11) (by kernel_rfl)
      refine wpOp_step rfl (fun K hK => ?_)
      simp only [hD, cond_false] at hS
      refine stx_store hS 0 rfl _ _ _ rfl _ _ (cond_at d11 rfl) _ rfl _ (cond_at d9 rfl) _ rfl _ (siz_any2 rfl) (by exact rfl) (by exact rfl) (by exact rfl) rfl ?_
      intro u hS'
      exact hK _ _ ⟨_, rfl, OW, rfl, (fun _ => d9), hS'⟩
    | i + 13, hi => simp at hi
  case ends =>
    intro D ts' w' hall hI
    obtain ⟨OW, rfl, hz, hS⟩ := hI
    have d0 : D 0 = true := hall 0 (by decide)
    have d1 : D 1 = true := hall 1 (by decide)
    have d2 : D 2 = true := hall 2 (by decide)
    have d3 : D 3 = true := hall 3 (by decide)
    have d4 : D 4 = true := hall 4 (by decide)
    have d5 : D 5 = true := hall 5 (by decide)
    have d6 : D 6 = true := hall 6 (by decide)
    have d7 : D 7 = true := hall 7 (by decide)
    have d8 : D 8 = true := hall 8 (by decide)
    have d9 : D 9 = true := hall 9 (by decide)
    have d10 : D 10 = true := hall 10 (by decide)
    have d11 : D 11 = true := hall 11 (by decide)
    have d12 : D 12 = true := hall 12 (by decide)
    simp only [d9, d12, cond_true] at hS
    dsimp only [putS, List.set]
    simp only [d0, d1, d2, d3, d4, d5, d6, d7, d8, d9, d10, d11, cond_true]
    clear hall d0 d1 d2 d3 d4 d5 d6 d7 d8 d9 d10 d11 d12 hz
    go_wp2_with (first | (refine ybox hS (h := ?_); clear hS; intro _ _ hS) | (refine yall hS (h := ?_); clear hS; intro _ _ hS) | refine yld hS (h := ?_) | (refine yst hS (h := ?_); clear hS; intro _ hS))
    first | go_end0 | ((try simp only [Exit.inBlock, Exit.then]); refine bodyPost_ret (results_none rfl _ _ _) rfl ?_)
    exact ⟨OW, rfl, unhide HOK, hS⟩

set_option maxHeartbeats 4000000 in
theorem rJoin_1 {J : Nat} {x : Int} {j O : Um.Js} {a : Option Addr} {nn cap : Nat} {xs : List Int} (hS : Sx bs w0 w [(P, [.int .i64 sl, .int .i64 ky, .int .u64 (sn : Nat), .int .u64 (s : Nat), .func (.func 140) #[] #[.pointer (some ⟨L, 0, none⟩)], .int .i64 ot, pg, .pointer (some ⟨J, 0, none⟩), po, pl, .func (.func 144) #[.pointer (some ⟨P, 0, none⟩)] #[], .int .i64 ft]), (B, memL c C j.m), (C, rowW j.m.ws c.n), (L, [.slice a nn cap]), (J, jnL x 1 sl sn j)] e) (hr : c.r = true) (hO : O = Um.jstep c x 1 sl sn j) (ho : Um.Jok c j) (hx : -9223372036854775808 ≤ x ∧ x ≤ 9223372036854775807) (hI : ∀ W', (∀ p ∈ e, BlkAt W' p.1 p.2) → IsRow W' (.slice a nn cap) xs) (h : O.r = 1) :
    Calls Tryz.prog 144 #[.pointer (some ⟨P, 0, none⟩), .pointer (some ⟨B, 0, none⟩)] w fun r w' => ∃ cs ls X xc, r = .returned (.tuple #[]) ∧ AnP P L sl ky sn s O.m e xs cs ls X xc ∧ Um.Jok c O ∧ Sx bs w0 w' [(P, cs), (B, memL c C O.m), (C, rowW O.m.ws c.n), (L, ls), (J, jnL x 1 sl sn O), (X, xc)] e := by
  have HIR := hide hI
  clear hI
  have HR := hide hr
  have HO := hide hO
  have HJ := hide ho
  have HX := hide hx
  have HRR := hide h
  clear hr hO ho hx h
  go_enter Tryz.func144, Tryz.ntmps144
  go_wp2_with (first | (refine ybox hS (h := ?_); clear hS; intro _ _ hS) | (refine yall hS (h := ?_); clear hS; intro _ _ hS) | refine yld hS (h := ?_) | (refine yst hS (h := ?_); clear hS; intro _ hS))
  refine (jStep_any (sl := x) (sd := 1) (b := sl) (sn := sn) hS 1 2 4 j O (unhide HO) rfl rfl rfl (by decide) (by decide) (by decide) (unhide HR) (unhide HJ) (unhide HX).1 (unhide HX).2 (by decide) (by decide)).mono ?_
  rintro r u ⟨rfl, hOn, hSn⟩
  clear hS
  have hS := hSn
  clear hSn
  dsimp only [putL, List.set, List.cons_append, List.nil_append] at hS
  have HOK := hide hOn
  clear hOn
  go_wp2_with (first | (refine ybox hS (h := ?_); clear hS; intro _ _ hS) | (refine yall hS (h := ?_); clear hS; intro _ _ hS) | refine yld hS (h := ?_) | (refine yst hS (h := ?_); clear hS; intro _ hS))
  refine (jRes_any (o := O) (hS.get 4 rfl)).mono ?_
  rintro r u ⟨rfl, rfl⟩
  rw [show ((O.r : Nat) : Int) = 1 by rw [unhide HRR]; rfl]
  go_wp2_with (first | (refine ybox hS (h := ?_); clear hS; intro _ _ hS) | (refine yall hS (h := ?_); clear hS; intro _ _ hS) | refine yld hS (h := ?_) | (refine yst hS (h := ?_); clear hS; intro _ hS))
  refine (rAnother_any hS 0 3 rfl rfl (by decide) O.m (unhide HIR)).mono ?_
  rintro r u ⟨cs, ls, X, xc, rfl, hA, hSn⟩
  clear hS
  have hS := hSn
  clear hSn
  dsimp only [putL, List.set, List.cons_append, List.nil_append] at hS
  go_wp2_with fail
  first | go_end0 | ((try simp only [Exit.inBlock, Exit.then]); refine bodyPost_ret (results_none rfl _ _ _) rfl ?_)
  exact ⟨cs, ls, X, xc, rfl, hA, unhide HOK, hS⟩

set_option maxHeartbeats 4000000 in
theorem rOwn_0 {OW : Nat} {x : Int} {v O : Um.Ls} {a : Option Addr} {nn cap : Nat} {xs : List Int} (hS : Sx bs w0 w [(P, [.int .i64 sl, .int .i64 ky, .int .u64 (sn : Nat), .int .u64 (s : Nat), .func (.func 140) #[] #[.pointer (some ⟨L, 0, none⟩)], .int .i64 ot, pg, pj, .pointer (some ⟨OW, 0, none⟩), pl, .func (.func 152) #[.pointer (some ⟨P, 0, none⟩)] #[], .int .i64 ft]), (B, memL c C v.m), (C, rowW v.m.ws c.n), (L, [.slice a nn cap]), (OW, owL sl 0 x v)] e) (hr : c.r = true) (hO : O = Um.wstep c sl 0 x v) (ho : Um.Lok c v) (hb : -9223372036854775808 ≤ sl ∧ sl ≤ 9223372036854775807) (h : O.dn = false) :
    Calls Tryz.prog 152 #[.pointer (some ⟨P, 0, none⟩), .pointer (some ⟨B, 0, none⟩)] w fun r w' => r = .returned (.tuple #[]) ∧ Um.Lok c O ∧ Sx bs w0 w' [(P, [.int .i64 sl, .int .i64 ky, .int .u64 (sn : Nat), .int .u64 (s : Nat), .func (.func 140) #[] #[.pointer (some ⟨L, 0, none⟩)], .int .i64 ot, pg, pj, .pointer (some ⟨OW, 0, none⟩), pl, .func (.func 152) #[.pointer (some ⟨P, 0, none⟩)] #[], .int .i64 ft]), (B, memL c C O.m), (C, rowW O.m.ws c.n), (L, [.slice a nn cap]), (OW, owL sl 0 x O)] e := by
  have HR := hide hr
  have HO := hide hO
  have HL := hide ho
  have HBD := hide hb
  have HDD := hide h
  clear hr hO ho hb h
  go_enter Tryz.func152, Tryz.ntmps152
  go_wp2_with (first | (refine ybox hS (h := ?_); clear hS; intro _ _ hS) | (refine yall hS (h := ?_); clear hS; intro _ _ hS) | refine yld hS (h := ?_) | (refine yst hS (h := ?_); clear hS; intro _ hS))
  refine (oStep_any (sl := sl) (sd := 0) (b := x) hS 1 2 4 v O (unhide HO) rfl rfl rfl (by decide) (by decide) (by decide) (unhide HR) (unhide HL) (unhide HBD).1 (unhide HBD).2).mono ?_
  rintro r u ⟨rfl, hOn, hSn⟩
  clear hS
  have hS := hSn
  clear hSn
  dsimp only [putL, List.set, List.cons_append, List.nil_append] at hS
  have HOK := hide hOn
  clear hOn
  go_wp2_with (first | (refine ybox hS (h := ?_); clear hS; intro _ _ hS) | (refine yall hS (h := ?_); clear hS; intro _ _ hS) | refine yld hS (h := ?_) | (refine yst hS (h := ?_); clear hS; intro _ hS))
  refine (oDone_any (o := O) (hS.get 4 rfl)).mono ?_
  rintro r u ⟨rfl, rfl⟩
  rw [unhide HDD]
  go_wp2_with (first | (refine ybox hS (h := ?_); clear hS; intro _ _ hS) | (refine yall hS (h := ?_); clear hS; intro _ _ hS) | refine yld hS (h := ?_) | (refine yst hS (h := ?_); clear hS; intro _ hS))
  first | go_end0 | ((try simp only [Exit.inBlock, Exit.then]); refine bodyPost_ret (results_none rfl _ _ _) rfl ?_)
  exact ⟨rfl, unhide HOK, hS⟩

set_option maxHeartbeats 4000000 in
theorem rOwn_1 {OW : Nat} {x : Int} {v O : Um.Ls} {a : Option Addr} {nn cap : Nat} {xs : List Int} (hS : Sx bs w0 w [(P, [.int .i64 sl, .int .i64 ky, .int .u64 (sn : Nat), .int .u64 (s : Nat), .func (.func 140) #[] #[.pointer (some ⟨L, 0, none⟩)], .int .i64 ot, pg, pj, .pointer (some ⟨OW, 0, none⟩), pl, .func (.func 152) #[.pointer (some ⟨P, 0, none⟩)] #[], .int .i64 ft]), (B, memL c C v.m), (C, rowW v.m.ws c.n), (L, [.slice a nn cap]), (OW, owL sl 0 x v)] e) (hr : c.r = true) (hO : O = Um.wstep c sl 0 x v) (ho : Um.Lok c v) (hb : -9223372036854775808 ≤ sl ∧ sl ≤ 9223372036854775807) (hI : ∀ W', (∀ p ∈ e, BlkAt W' p.1 p.2) → IsRow W' (.slice a nn cap) xs) (h : O.dn = true) :
    Calls Tryz.prog 152 #[.pointer (some ⟨P, 0, none⟩), .pointer (some ⟨B, 0, none⟩)] w fun r w' => ∃ cs ls X xc, r = .returned (.tuple #[]) ∧ AnP P L sl ky sn s O.m e xs cs ls X xc ∧ Um.Lok c O ∧ Sx bs w0 w' [(P, cs), (B, memL c C O.m), (C, rowW O.m.ws c.n), (L, ls), (OW, owL sl 0 x O), (X, xc)] e := by
  have HIR := hide hI
  clear hI
  have HR := hide hr
  have HO := hide hO
  have HL := hide ho
  have HBD := hide hb
  have HDD := hide h
  clear hr hO ho hb h
  go_enter Tryz.func152, Tryz.ntmps152
  go_wp2_with (first | (refine ybox hS (h := ?_); clear hS; intro _ _ hS) | (refine yall hS (h := ?_); clear hS; intro _ _ hS) | refine yld hS (h := ?_) | (refine yst hS (h := ?_); clear hS; intro _ hS))
  refine (oStep_any (sl := sl) (sd := 0) (b := x) hS 1 2 4 v O (unhide HO) rfl rfl rfl (by decide) (by decide) (by decide) (unhide HR) (unhide HL) (unhide HBD).1 (unhide HBD).2).mono ?_
  rintro r u ⟨rfl, hOn, hSn⟩
  clear hS
  have hS := hSn
  clear hSn
  dsimp only [putL, List.set, List.cons_append, List.nil_append] at hS
  have HOK := hide hOn
  clear hOn
  go_wp2_with (first | (refine ybox hS (h := ?_); clear hS; intro _ _ hS) | (refine yall hS (h := ?_); clear hS; intro _ _ hS) | refine yld hS (h := ?_) | (refine yst hS (h := ?_); clear hS; intro _ hS))
  refine (oDone_any (o := O) (hS.get 4 rfl)).mono ?_
  rintro r u ⟨rfl, rfl⟩
  rw [unhide HDD]
  go_wp2_with (first | (refine ybox hS (h := ?_); clear hS; intro _ _ hS) | (refine yall hS (h := ?_); clear hS; intro _ _ hS) | refine yld hS (h := ?_) | (refine yst hS (h := ?_); clear hS; intro _ hS))
  refine (rAnother_any hS 0 3 rfl rfl (by decide) O.m (unhide HIR)).mono ?_
  rintro r u ⟨cs, ls, X, xc, rfl, hA, hSn⟩
  clear hS
  have hS := hSn
  clear hSn
  dsimp only [putL, List.set, List.cons_append, List.nil_append] at hS
  go_wp2_with fail
  first | go_end0 | ((try simp only [Exit.inBlock, Exit.then]); refine bodyPost_ret (results_none rfl _ _ _) rfl ?_)
  exact ⟨cs, ls, X, xc, rfl, hA, unhide HOK, hS⟩

set_option maxHeartbeats 4000000 in
theorem rLeave_0 {V : Nat} {st : Int} {v O : Um.Ls} (hS : Sx bs w0 w [(P, [.int .i64 sl, .int .i64 ky, .int .u64 (sn : Nat), .int .u64 (s : Nat), ov, .int .i64 ot, pg, pj, po, .pointer (some ⟨V, 0, none⟩), .func (.func 147) #[.pointer (some ⟨P, 0, none⟩)] #[], .int .i64 ft]), (B, memL c C v.m), (C, rowW v.m.ws c.n), (V, leaL V sl st v)] e) (hr : c.r = true) (hO : O = Um.lstep c sl st v) (ho : Um.Lok c v) (hb : -9223372036854775808 ≤ sl ∧ sl ≤ 9223372036854775807) (h : O.dn = false) :
    Calls Tryz.prog 147 #[.pointer (some ⟨P, 0, none⟩), .pointer (some ⟨B, 0, none⟩)] w fun r w' => r = .returned (.tuple #[]) ∧ Um.Lok c O ∧ Sx bs w0 w' [(P, [.int .i64 sl, .int .i64 ky, .int .u64 (sn : Nat), .int .u64 (s : Nat), ov, .int .i64 ot, pg, pj, po, .pointer (some ⟨V, 0, none⟩), .func (.func 147) #[.pointer (some ⟨P, 0, none⟩)] #[], .int .i64 ft]), (B, memL c C O.m), (C, rowW O.m.ws c.n), (V, leaL V sl st O)] e := by
  have HR := hide hr
  have HO := hide hO
  have HL := hide ho
  have HBD := hide hb
  have HDD := hide h
  clear hr hO ho hb h
  go_enter Tryz.func147, Tryz.ntmps147
  go_wp2_with (first | (refine ybox hS (h := ?_); clear hS; intro _ _ hS) | (refine yall hS (h := ?_); clear hS; intro _ _ hS) | refine yld hS (h := ?_) | (refine yst hS (h := ?_); clear hS; intro _ hS))
  refine (lStep_any (sl := sl) (st := st) hS 1 2 3 v O (unhide HO) rfl rfl rfl (by decide) (by decide) (by decide) (unhide HR) (unhide HL) (unhide HBD).1 (unhide HBD).2).mono ?_
  rintro r u ⟨rfl, hOn, hSn⟩
  clear hS
  have hS := hSn
  clear hSn
  dsimp only [putL, List.set, List.cons_append, List.nil_append] at hS
  have HOK := hide hOn
  clear hOn
  go_wp2_with (first | (refine ybox hS (h := ?_); clear hS; intro _ _ hS) | (refine yall hS (h := ?_); clear hS; intro _ _ hS) | refine yld hS (h := ?_) | (refine yst hS (h := ?_); clear hS; intro _ hS))
  refine (lDone_any (o := O) (hS.get 3 rfl)).mono ?_
  rintro r u ⟨rfl, rfl⟩
  rw [unhide HDD]
  go_wp2_with (first | (refine ybox hS (h := ?_); clear hS; intro _ _ hS) | (refine yall hS (h := ?_); clear hS; intro _ _ hS) | refine yld hS (h := ?_) | (refine yst hS (h := ?_); clear hS; intro _ hS))
  first | go_end0 | ((try simp only [Exit.inBlock, Exit.then]); refine bodyPost_ret (results_none rfl _ _ _) rfl ?_)
  exact ⟨rfl, unhide HOK, hS⟩

set_option maxHeartbeats 4000000 in
theorem rLeave_1 {V : Nat} {st : Int} {v O : Um.Ls} (hS : Sx bs w0 w [(P, [.int .i64 sl, .int .i64 ky, .int .u64 (sn : Nat), .int .u64 (s : Nat), ov, .int .i64 ot, pg, pj, po, .pointer (some ⟨V, 0, none⟩), .func (.func 147) #[.pointer (some ⟨P, 0, none⟩)] #[], .int .i64 ft]), (B, memL c C v.m), (C, rowW v.m.ws c.n), (V, leaL V sl st v)] e) (hr : c.r = true) (hO : O = Um.lstep c sl st v) (ho : Um.Lok c v) (hb : -9223372036854775808 ≤ sl ∧ sl ≤ 9223372036854775807) (h : O.dn = true) :
    Calls Tryz.prog 147 #[.pointer (some ⟨P, 0, none⟩), .pointer (some ⟨B, 0, none⟩)] w fun r w' => r = .returned (.tuple #[]) ∧ Um.Lok c O ∧ Sx bs w0 w' [(P, [.int .i64 sl, .int .i64 ky, .int .u64 (sn : Nat), .int .u64 (s : Nat), ov, .int .i64 ot, pg, pj, po, .pointer (some ⟨V, 0, none⟩), .nilFunc, .int .i64 ft]), (B, memL c C O.m), (C, rowW O.m.ws c.n), (V, leaL V sl st O)] e := by
  have HR := hide hr
  have HO := hide hO
  have HL := hide ho
  have HBD := hide hb
  have HDD := hide h
  clear hr hO ho hb h
  go_enter Tryz.func147, Tryz.ntmps147
  go_wp2_with (first | (refine ybox hS (h := ?_); clear hS; intro _ _ hS) | (refine yall hS (h := ?_); clear hS; intro _ _ hS) | refine yld hS (h := ?_) | (refine yst hS (h := ?_); clear hS; intro _ hS))
  refine (lStep_any (sl := sl) (st := st) hS 1 2 3 v O (unhide HO) rfl rfl rfl (by decide) (by decide) (by decide) (unhide HR) (unhide HL) (unhide HBD).1 (unhide HBD).2).mono ?_
  rintro r u ⟨rfl, hOn, hSn⟩
  clear hS
  have hS := hSn
  clear hSn
  dsimp only [putL, List.set, List.cons_append, List.nil_append] at hS
  have HOK := hide hOn
  clear hOn
  go_wp2_with (first | (refine ybox hS (h := ?_); clear hS; intro _ _ hS) | (refine yall hS (h := ?_); clear hS; intro _ _ hS) | refine yld hS (h := ?_) | (refine yst hS (h := ?_); clear hS; intro _ hS))
  refine (lDone_any (o := O) (hS.get 3 rfl)).mono ?_
  rintro r u ⟨rfl, rfl⟩
  rw [unhide HDD]
  go_wp2_with (first | (refine ybox hS (h := ?_); clear hS; intro _ _ hS) | (refine yall hS (h := ?_); clear hS; intro _ _ hS) | refine yld hS (h := ?_) | (refine yst hS (h := ?_); clear hS; intro _ hS))
  first | go_end0 | ((try simp only [Exit.inBlock, Exit.then]); refine bodyPost_ret (results_none rfl _ _ _) rfl ?_)
  exact ⟨rfl, unhide HOK, hS⟩

set_option maxHeartbeats 2000000 in
theorem rStep_enter {Q : World → Prop} (hB : BlkAt w P [.int .i64 sl, .int .i64 ky, .int .u64 (sn : Nat), .int .u64 (s : Nat), ov, .int .i64 ot, pg, pj, po, pl, .func (.func 45) #[.pointer (some ⟨P, 0, none⟩)] #[], .int .i64 ft]) (hC : Calls Tryz.prog 45 #[.pointer (some ⟨P, 0, none⟩), .pointer (some ⟨B, 0, none⟩)] w fun r w' => r = .returned (.tuple #[]) ∧ Q w') :
    Calls Tryz.prog 17 #[.pointer (some ⟨P, 0, none⟩), .pointer (some ⟨B, 0, none⟩)] w fun r w' => r = .returned (.tuple #[]) ∧ Q w' := by
  have h2 := hB.cell 10 _ rfl
  have HD := hide (rDone_f _ _ _ hB rfl)
  have HC := hide hC
  clear hB hC
  go_enter Tryz.func17, Tryz.ntmps17
  go_wp2_with fail
  refine (unhide HD).mono ?_
  rintro r u ⟨rfl, rfl⟩
  go_wp2_with fail
  refine (unhide HC).mono ?_
  rintro r u ⟨rfl, hQ⟩
  have H2 := hide hQ
  clear hQ h2 HC HD
  go_wp2
  go_end0
  exact ⟨rfl, unhide H2⟩

set_option maxHeartbeats 2000000 in
theorem rStep_snapshot {Q : World → Prop} (hB : BlkAt w P [.int .i64 sl, .int .i64 ky, .int .u64 (sn : Nat), .int .u64 (s : Nat), ov, .int .i64 ot, pg, pj, po, pl, .func (.func 89) #[.pointer (some ⟨P, 0, none⟩)] #[], .int .i64 ft]) (hC : Calls Tryz.prog 89 #[.pointer (some ⟨P, 0, none⟩), .pointer (some ⟨B, 0, none⟩)] w fun r w' => r = .returned (.tuple #[]) ∧ Q w') :
    Calls Tryz.prog 17 #[.pointer (some ⟨P, 0, none⟩), .pointer (some ⟨B, 0, none⟩)] w fun r w' => r = .returned (.tuple #[]) ∧ Q w' := by
  have h2 := hB.cell 10 _ rfl
  have HD := hide (rDone_f _ _ _ hB rfl)
  have HC := hide hC
  clear hB hC
  go_enter Tryz.func17, Tryz.ntmps17
  go_wp2_with fail
  refine (unhide HD).mono ?_
  rintro r u ⟨rfl, rfl⟩
  go_wp2_with fail
  refine (unhide HC).mono ?_
  rintro r u ⟨rfl, hQ⟩
  have H2 := hide hQ
  clear hQ h2 HC HD
  go_wp2
  go_end0
  exact ⟨rfl, unhide H2⟩

set_option maxHeartbeats 2000000 in
theorem rStep_look {Q : World → Prop} (hB : BlkAt w P [.int .i64 sl, .int .i64 ky, .int .u64 (sn : Nat), .int .u64 (s : Nat), ov, .int .i64 ot, pg, pj, po, pl, .func (.func 105) #[.pointer (some ⟨P, 0, none⟩)] #[], .int .i64 ft]) (hC : Calls Tryz.prog 105 #[.pointer (some ⟨P, 0, none⟩), .pointer (some ⟨B, 0, none⟩)] w fun r w' => r = .returned (.tuple #[]) ∧ Q w') :
    Calls Tryz.prog 17 #[.pointer (some ⟨P, 0, none⟩), .pointer (some ⟨B, 0, none⟩)] w fun r w' => r = .returned (.tuple #[]) ∧ Q w' := by
  have h2 := hB.cell 10 _ rfl
  have HD := hide (rDone_f _ _ _ hB rfl)
  have HC := hide hC
  clear hB hC
  go_enter Tryz.func17, Tryz.ntmps17
  go_wp2_with fail
  refine (unhide HD).mono ?_
  rintro r u ⟨rfl, rfl⟩
  go_wp2_with fail
  refine (unhide HC).mono ?_
  rintro r u ⟨rfl, hQ⟩
  have H2 := hide hQ
  clear hQ h2 HC HD
  go_wp2
  go_end0
  exact ⟨rfl, unhide H2⟩

set_option maxHeartbeats 2000000 in
theorem rStep_mark {Q : World → Prop} (hB : BlkAt w P [.int .i64 sl, .int .i64 ky, .int .u64 (sn : Nat), .int .u64 (s : Nat), ov, .int .i64 ot, pg, pj, po, pl, .func (.func 127) #[.pointer (some ⟨P, 0, none⟩)] #[], .int .i64 ft]) (hC : Calls Tryz.prog 127 #[.pointer (some ⟨P, 0, none⟩), .pointer (some ⟨B, 0, none⟩)] w fun r w' => r = .returned (.tuple #[]) ∧ Q w') :
    Calls Tryz.prog 17 #[.pointer (some ⟨P, 0, none⟩), .pointer (some ⟨B, 0, none⟩)] w fun r w' => r = .returned (.tuple #[]) ∧ Q w' := by
  have h2 := hB.cell 10 _ rfl
  have HD := hide (rDone_f _ _ _ hB rfl)
  have HC := hide hC
  clear hB hC
  go_enter Tryz.func17, Tryz.ntmps17
  go_wp2_with fail
  refine (unhide HD).mono ?_
  rintro r u ⟨rfl, rfl⟩
  go_wp2_with fail
  refine (unhide HC).mono ?_
  rintro r u ⟨rfl, hQ⟩
  have H2 := hide hQ
  clear hQ h2 HC HD
  go_wp2
  go_end0
  exact ⟨rfl, unhide H2⟩

set_option maxHeartbeats 2000000 in
theorem rStep_join {Q : World → Prop} (hB : BlkAt w P [.int .i64 sl, .int .i64 ky, .int .u64 (sn : Nat), .int .u64 (s : Nat), ov, .int .i64 ot, pg, pj, po, pl, .func (.func 144) #[.pointer (some ⟨P, 0, none⟩)] #[], .int .i64 ft]) (hC : Calls Tryz.prog 144 #[.pointer (some ⟨P, 0, none⟩), .pointer (some ⟨B, 0, none⟩)] w fun r w' => r = .returned (.tuple #[]) ∧ Q w') :
    Calls Tryz.prog 17 #[.pointer (some ⟨P, 0, none⟩), .pointer (some ⟨B, 0, none⟩)] w fun r w' => r = .returned (.tuple #[]) ∧ Q w' := by
  have h2 := hB.cell 10 _ rfl
  have HD := hide (rDone_f _ _ _ hB rfl)
  have HC := hide hC
  clear hB hC
  go_enter Tryz.func17, Tryz.ntmps17
  go_wp2_with fail
  refine (unhide HD).mono ?_
  rintro r u ⟨rfl, rfl⟩
  go_wp2_with fail
  refine (unhide HC).mono ?_
  rintro r u ⟨rfl, hQ⟩
  have H2 := hide hQ
  clear hQ h2 HC HD
  go_wp2
  go_end0
  exact ⟨rfl, unhide H2⟩

set_option maxHeartbeats 2000000 in
theorem rStep_own {Q : World → Prop} (hB : BlkAt w P [.int .i64 sl, .int .i64 ky, .int .u64 (sn : Nat), .int .u64 (s : Nat), ov, .int .i64 ot, pg, pj, po, pl, .func (.func 152) #[.pointer (some ⟨P, 0, none⟩)] #[], .int .i64 ft]) (hC : Calls Tryz.prog 152 #[.pointer (some ⟨P, 0, none⟩), .pointer (some ⟨B, 0, none⟩)] w fun r w' => r = .returned (.tuple #[]) ∧ Q w') :
    Calls Tryz.prog 17 #[.pointer (some ⟨P, 0, none⟩), .pointer (some ⟨B, 0, none⟩)] w fun r w' => r = .returned (.tuple #[]) ∧ Q w' := by
  have h2 := hB.cell 10 _ rfl
  have HD := hide (rDone_f _ _ _ hB rfl)
  have HC := hide hC
  clear hB hC
  go_enter Tryz.func17, Tryz.ntmps17
  go_wp2_with fail
  refine (unhide HD).mono ?_
  rintro r u ⟨rfl, rfl⟩
  go_wp2_with fail
  refine (unhide HC).mono ?_
  rintro r u ⟨rfl, hQ⟩
  have H2 := hide hQ
  clear hQ h2 HC HD
  go_wp2
  go_end0
  exact ⟨rfl, unhide H2⟩

set_option maxHeartbeats 2000000 in
theorem rStep_leave {Q : World → Prop} (hB : BlkAt w P [.int .i64 sl, .int .i64 ky, .int .u64 (sn : Nat), .int .u64 (s : Nat), ov, .int .i64 ot, pg, pj, po, pl, .func (.func 147) #[.pointer (some ⟨P, 0, none⟩)] #[], .int .i64 ft]) (hC : Calls Tryz.prog 147 #[.pointer (some ⟨P, 0, none⟩), .pointer (some ⟨B, 0, none⟩)] w fun r w' => r = .returned (.tuple #[]) ∧ Q w') :
    Calls Tryz.prog 17 #[.pointer (some ⟨P, 0, none⟩), .pointer (some ⟨B, 0, none⟩)] w fun r w' => r = .returned (.tuple #[]) ∧ Q w' := by
  have h2 := hB.cell 10 _ rfl
  have HD := hide (rDone_f _ _ _ hB rfl)
  have HC := hide hC
  clear hB hC
  go_enter Tryz.func17, Tryz.ntmps17
  go_wp2_with fail
  refine (unhide HD).mono ?_
  rintro r u ⟨rfl, rfl⟩
  go_wp2_with fail
  refine (unhide HC).mono ?_
  rintro r u ⟨rfl, hQ⟩
  have H2 := hide hQ
  clear hQ h2 HC HD
  go_wp2
  go_end0
  exact ⟨rfl, unhide H2⟩

set_option maxHeartbeats 1000000 in
theorem rStep_done {cs : List Value} (hB : BlkAt w P cs) (hc : cs[10]? = some .nilFunc) (b : Value) : Calls Tryz.prog 17 #[.pointer (some ⟨P, 0, none⟩), b] w fun r w' => r = .returned (.tuple #[]) ∧ w' = w := by
  have HD := hide (rDone_n hB hc)
  clear hB hc
  go_enter Tryz.func17, Tryz.ntmps17
  go_wp2_with fail
  refine (unhide HD).mono ?_
  rintro r u ⟨rfl, rfl⟩
  clear HD
  go_wp2
  go_end0
  exact ⟨rfl, rfl⟩

end

end Go.Proofs.YtapgghciieloaaaGreat

/-
  Plain arithmetic of layer 10: a call that is alone, to its end: what it is told, what is changed, how many steps there are. No Go in sight.
-/
namespace Um
set_option maxRecDepth 100000

theorem at_iff {c : Cf} (hr : c.r = true) {a b : Int} (h0 : 0 ≤ c.cl a b) {j : Nat} (hj : j < c.n) : (j : Int) = c.cl a b ↔ (atK c.r c.t c.s c.k (j : Int) = a ∧ atO c.r c.t c.s c.k (j : Int) = b) := by
  have hb : Rb c.r c.t c.s c.k := fun _ => by have := c.rb hr; omega
  constructor
  · intro e
    rw [e]
    exact (cell_at hb h0).2
  · rintro ⟨e1, e2⟩
    have hl : (j : Int) < clen c.r c.t c.s c.k := by have := c.n_eq; omega
    have h := at_cell hb (x := (j : Int)) (by omega) hl
    rw [e1, e2] at h
    exact h.symm

end Um

/-
  Plain arithmetic of layer 10: entered, left, and entered again; all slots of one status. No Go in sight.
-/
namespace Um
set_option maxRecDepth 100000

theorem cl_nat {c : Cf} (hr : c.r = true) {f : Int} (h0 : 0 ≤ f) (h1 : f < c.s) : (((c.cl 4 f).toNat : Nat) : Int) = c.cl 4 f := by
  have := (sl_cells hr h0 h1).1
  omega

theorem cl_inj {c : Cf} (hr : c.r = true) {f g : Int} (h0 : 0 ≤ f) (h1 : f < c.s) (g0 : 0 ≤ g) (g1 : g < c.s) (h : c.cl 4 f = c.cl 4 g) : f = g := by
  have hb := c.rb hr
  unfold Cf.cl cellN at h
  rw [hr] at h
  simp [h0, h1, g0, g1] at h
  omega

end Um
