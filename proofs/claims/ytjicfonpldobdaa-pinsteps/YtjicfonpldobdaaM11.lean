/-
  Texts that the laws stand on, merged (PinA, PinG, PinX, PinAlive, Og2, PinP).
-/
import Derived.Test.YtjicfonpldobdaaM10
import Derived.Test.YtjicfonpldobdaaM3
import Derived.Test.YtjicfonpldobdaaM4
import Derived.Test.YtjicfonpldobdaaM5
import Derived.Test.YtjicfonpldobdaaM9
import Derived.Deep.RegionHeld3
import Derived.Lib.QuietBelow
import Derived.LoopTactic

/-
  The walks of the program's pin: a new one, its steps, its leaving.
-/
namespace Go.Proofs.Ytjicfonpldobdaa
set_option maxRecDepth 100000
open Go.RowKit Go.Sort

section
variable {bs : List Nat} {w0 w w' : World} {l e : List (Nat × List Value)} {b1 b2 b3 : Nat} {c1 c2 c3 d1 d2 d3 : List Value}

theorem Sx.enter3 (hS : Sx bs w0 w l e) (i j k : Nat) (hi : l[i]? = some (b1, c1)) (hj : l[j]? = some (b2, c2)) (hk : l[k]? = some (b3, c3)) (hij : i ≠ j) (hik : i ≠ k) (hjk : j ≠ k) : Sx [b1, b2, b3] w w [(b1, c1), (b2, c2), (b3, c3)] [] :=
  hS.enter [(b1, c1), (b2, c2), (b3, c3)] [] (fun p hp => by
      rcases (by simpa using hp : p = (b1, c1) ∨ p = (b2, c2) ∨ p = (b3, c3)) with rfl | rfl | rfl
      · exact List.mem_of_getElem? hi
      · exact List.mem_of_getElem? hj
      · exact List.mem_of_getElem? hk)
    (by
      have h1 := hS.ne i j hi hj hij
      have h2 := hS.ne i k hi hk hik
      have h3 := hS.ne j k hj hk hjk
      simp [h1, h2, h3]) (by simp)

theorem Sx.back3 {r e' : List (Nat × List Value)} (hS : Sx bs w0 w l e) (i j k : Nat) (hi : l[i]? = some (b1, c1)) (hj : l[j]? = some (b2, c2)) (hk : l[k]? = some (b3, c3)) (hL : Sx [b1, b2, b3] w w' ((b1, d1) :: (b2, d2) :: (b3, d3) :: r) e') : Sx bs w0 w' (putL l [(i, b1, d1), (j, b2, d2), (k, b3, d3)]) e := by
  refine hS.sets _ (fun u hu => ?_) hL.off (fun u hu => ?_)
  · rcases (by simpa using hu : u = (i, b1, d1) ∨ u = (j, b2, d2) ∨ u = (k, b3, d3)) with rfl | rfl | rfl
    · exact ⟨_, hi⟩
    · exact ⟨_, hj⟩
    · exact ⟨_, hk⟩
  · rcases (by simpa using hu : u = (i, b1, d1) ∨ u = (j, b2, d2) ∨ u = (k, b3, d3)) with rfl | rfl | rfl
    · exact hL.get 0 rfl
    · exact hL.get 1 rfl
    · exact hL.get 2 rfl

theorem Sx.enter1 (hS : Sx bs w0 w l e) (i : Nat) (hi : l[i]? = some (b1, c1)) : Sx [b1] w w [(b1, c1)] [] :=
  hS.enter [(b1, c1)] [] (fun p hp => by obtain rfl : p = _ := by simpa using hp
                                         exact List.mem_of_getElem? hi) (List.pairwise_singleton _ _) (by simp)

theorem Sx.back1 {r e' : List (Nat × List Value)} (hS : Sx bs w0 w l e) (i : Nat) (hi : l[i]? = some (b1, c1)) (hL : Sx [b1] w w' ((b1, d1) :: r) e') : Sx bs w0 w' (putL l [(i, b1, d1)]) e := by
  refine hS.sets _ (fun u hu => ?_) hL.off (fun u hu => ?_)
  · obtain rfl : u = _ := by simpa using hu
    exact ⟨_, hi⟩
  · obtain rfl : u = _ := by simpa using hu
    exact hL.get 0 rfl

theorem Sx.enter2 (hS : Sx bs w0 w l e) (i j : Nat) (hi : l[i]? = some (b1, c1)) (hj : l[j]? = some (b2, c2)) (hij : i ≠ j) : Sx [b1, b2] w w [(b1, c1), (b2, c2)] [] :=
  hS.enter [(b1, c1), (b2, c2)] [] (fun p hp => by
      rcases (by simpa using hp : p = (b1, c1) ∨ p = (b2, c2)) with rfl | rfl
      · exact List.mem_of_getElem? hi
      · exact List.mem_of_getElem? hj)
    (by
      have h1 := hS.ne i j hi hj hij
      simp [h1]) (by simp)

theorem Sx.back2 {r e' : List (Nat × List Value)} (hS : Sx bs w0 w l e) (i j : Nat) (hi : l[i]? = some (b1, c1)) (hj : l[j]? = some (b2, c2)) (hL : Sx [b1, b2] w w' ((b1, d1) :: (b2, d2) :: r) e') : Sx bs w0 w' (putL l [(i, b1, d1), (j, b2, d2)]) e := by
  refine hS.sets _ (fun u hu => ?_) hL.off (fun u hu => ?_)
  · rcases (by simpa using hu : u = (i, b1, d1) ∨ u = (j, b2, d2)) with rfl | rfl
    · exact ⟨_, hi⟩
    · exact ⟨_, hj⟩
  · rcases (by simpa using hu : u = (i, b1, d1) ∨ u = (j, b2, d2)) with rfl | rfl
    · exact hL.get 0 rfl
    · exact hL.get 1 rfl

end

set_option maxHeartbeats 1000000 in
theorem pSpot_any (t : Int) (w : World) : Calls Try.prog 54 #[.int .i64 t] w fun r w' => r = .returned (.agg #[.int .i64 3, .int .i64 t]) ∧ Below w.heap.size w w' := by
  go_enter Try.func54, Try.ntmps54
  go_wp2
  exact bodyPost_ret (v := (.agg #[.int .i64 3, .int .i64 t])) (by simp [results, Try.results54, go_sem]) rfl ⟨rfl, (Below.refl _ _).alloc (Nat.le_refl _) _⟩

theorem eqFn (f : Fn) (x y : Array Value) (w : World) : (binOp .eql 60 (.func f x y) .nilFunc).run Try.prog w = .ok (.bool false) w := by kernel_rfl
theorem eqNoFn (w : World) : (binOp .eql 60 .nilFunc .nilFunc).run Try.prog w = .ok (.bool true) w := by kernel_rfl

section
variable {bs : List Nat} {w0 w : World} {l e : List (Nat × List Value)} {B C P : Nat} {c : Um.Cf} {m : Um.Mm}

set_option maxHeartbeats 1000000 in
theorem pNew_x (hS : Sx bs w0 w l e) (t : Int) : Calls Try.prog 21 #[.int .i64 t] w fun r w' => ∃ P, r = .returned (.pointer (some ⟨P, 0, none⟩)) ∧ Sx bs w0 w' (l ++ [(P, [.int .i64 t, .int .u64 0, .func (.func 53) #[.pointer (some ⟨P, 0, none⟩)] #[]])]) e := by
  have HS := hide hS
  clear hS
  have hS := Sx.new w
  go_enter Try.func21, Try.ntmps21
  go_wp2_with (first | (refine wpx_box hS rfl _ _ rfl _ rfl _ (by intro _; simp only [Act.put, List.setIfInBounds_toArray, List.set_cons_zero, List.set_cons_succ]; first | done | exact rfl) ?_; clear hS; intro _ _ hS; dsimp only [blit, List.set, List.cons_append, List.nil_append, Value.cells, List.toList_toArray] at hS) | (refine wpx_alloc hS rfl _ rfl _ (zer_any2 rfl) _ (by intro _; simp only [Act.put, List.setIfInBounds_toArray, List.set_cons_zero, List.set_cons_succ]; first | done | exact rfl) ?_; clear hS; intro _ _ hS; dsimp only [blit, List.set, List.cons_append, List.nil_append, Value.cells, List.toList_toArray] at hS) | (refine wpx_ld hS rfl _ _ rfl _ _ rfl ?_; (first | refine ⟨0, _, rfl, ?_⟩ | refine ⟨1, _, rfl, ?_⟩ | refine ⟨2, _, rfl, ?_⟩ | refine ⟨3, _, rfl, ?_⟩ | refine ⟨4, _, rfl, ?_⟩ | refine ⟨5, _, rfl, ?_⟩ | refine ⟨6, _, rfl, ?_⟩ | refine ⟨7, _, rfl, ?_⟩ | refine ⟨8, _, rfl, ?_⟩ | refine ⟨9, _, rfl, ?_⟩); first | refine .inl ⟨_, one_any2 rfl, rfl, _, (by simp only [Act.put, List.setIfInBounds_toArray, List.set_cons_zero, List.set_cons_succ]; first | done | exact rfl), ?_⟩ | refine .inr ⟨_, _, row_any2 rfl, rfl, (by dsimp only [cutL, List.drop, List.take]; first | done | exact rfl), _, (by simp only [Act.put, List.setIfInBounds_toArray, List.set_cons_zero, List.set_cons_succ]; first | done | exact rfl), ?_⟩) | (refine wpx_st hS rfl _ _ _ rfl rfl _ _ rfl ?_; (first | refine ⟨0, _, rfl, ?_⟩ | refine ⟨1, _, rfl, ?_⟩ | refine ⟨2, _, rfl, ?_⟩ | refine ⟨3, _, rfl, ?_⟩ | refine ⟨4, _, rfl, ?_⟩ | refine ⟨5, _, rfl, ?_⟩ | refine ⟨6, _, rfl, ?_⟩ | refine ⟨7, _, rfl, ?_⟩ | refine ⟨8, _, rfl, ?_⟩ | refine ⟨9, _, rfl, ?_⟩); refine ⟨_, (by first | exact shA rfl | exact shI rfl | exact shB rfl | exact shS rfl | exact shP rfl | exact shF rfl | exact shN rfl), _, siz_any2 rfl, (by exact rfl), (by exact rfl), (by exact rfl), ?_⟩; clear hS; intro _ hS; dsimp only [blit, List.set, List.cons_append, List.nil_append, Value.cells, List.toList_toArray] at hS))
  go_ret
  rename_i P _ _
  exact ⟨P, rfl, (unhide HS).add hS.bel (hS.get 0 rfl) ((hS.low _ (List.mem_of_getElem? (i := 0) rfl)).resolve_left (by simp))⟩

set_option maxHeartbeats 1000000 in
theorem pDone_x (hS : Sx bs w0 w l e) (k : Nat) (t : Int) (ep : Nat) (f : Fn) (a1 a2 : Array Value) (hk : l[k]? = some (P, [.int .i64 t, .int .u64 ep, .func f a1 a2])) : Calls Try.prog 26 #[.pointer (some ⟨P, 0, none⟩)] w fun r w' => r = .returned (.bool false) ∧ w' = w := by
  have h2 := (hS.get k hk).cell 2 _ rfl
  have hE := eqFn
  have hE0 := eqNoFn
  clear hS hk
  go_enter Try.func26, Try.ntmps26
  go_wp2
  go_ret
  exact ⟨rfl, rfl⟩

set_option maxHeartbeats 1000000 in
theorem pDone_nil (hS : Sx bs w0 w l e) (k : Nat) (t : Int) (ep : Nat) (hk : l[k]? = some (P, [.int .i64 t, .int .u64 ep, .nilFunc])) : Calls Try.prog 26 #[.pointer (some ⟨P, 0, none⟩)] w fun r w' => r = .returned (.bool true) ∧ w' = w := by
  have h2 := (hS.get k hk).cell 2 _ rfl
  have hE := eqFn
  have hE0 := eqNoFn
  clear hS hk
  go_enter Try.func26, Try.ntmps26
  go_wp2
  go_ret
  exact ⟨rfl, rfl⟩

set_option maxHeartbeats 2000000 in
theorem pLoad_x (hS : Sx bs w0 w l e) (i j k : Nat) (hi : l[i]? = some (B, memL c C m)) (hj : l[j]? = some (C, rowW m.ws c.n)) (t : Int) (ep : Nat) (nx : Value) (hk : l[k]? = some (P, [.int .i64 t, .int .u64 ep, nx])) (hij : i ≠ j) (hik : i ≠ k) (hjk : j ≠ k) (hr : c.r = true) (hw : WordsOk c m) (M : Um.Mm) (hM : M = Um.mtouch c m 1 2 0 0 0) :
    Calls Try.prog 53 #[.pointer (some ⟨P, 0, none⟩), .pointer (some ⟨B, 0, none⟩)] w fun r w' => r = .returned (.tuple #[]) ∧ WordsOk c M ∧ Sx bs w0 w' (putL l [(i, B, memL c C M), (j, C, rowW M.ws c.n), (k, P, [.int .i64 t, .int .u64 (M.l.old : Nat), .func (.func 67) #[.pointer (some ⟨P, 0, none⟩)] #[]])]) e := by
  have HS := hide hS
  have HI := hide (And.intro hi (And.intro hj hk))
  have hL := hS.enter3 i j k hi hj hk hij hik hjk
  have HR := hide hr
  have HW := hide hw
  have HM := hide hM
  clear hS hi hj hk hr hw hM
  have hS := hL
  clear hL
  go_enter Try.func53, Try.ntmps53
  go_wp2_with (first | (refine wpx_box hS rfl _ _ rfl _ rfl _ (by intro _; simp only [Act.put, List.setIfInBounds_toArray, List.set_cons_zero, List.set_cons_succ]; first | done | exact rfl) ?_; clear hS; intro _ _ hS; dsimp only [blit, List.set, List.cons_append, List.nil_append, Value.cells, List.toList_toArray] at hS) | (refine wpx_alloc hS rfl _ rfl _ (zer_any2 rfl) _ (by intro _; simp only [Act.put, List.setIfInBounds_toArray, List.set_cons_zero, List.set_cons_succ]; first | done | exact rfl) ?_; clear hS; intro _ _ hS; dsimp only [blit, List.set, List.cons_append, List.nil_append, Value.cells, List.toList_toArray] at hS) | (refine wpx_ld hS rfl _ _ rfl _ _ rfl ?_; (first | refine ⟨0, _, rfl, ?_⟩ | refine ⟨1, _, rfl, ?_⟩ | refine ⟨2, _, rfl, ?_⟩ | refine ⟨3, _, rfl, ?_⟩ | refine ⟨4, _, rfl, ?_⟩ | refine ⟨5, _, rfl, ?_⟩ | refine ⟨6, _, rfl, ?_⟩ | refine ⟨7, _, rfl, ?_⟩ | refine ⟨8, _, rfl, ?_⟩ | refine ⟨9, _, rfl, ?_⟩); first | refine .inl ⟨_, one_any2 rfl, rfl, _, (by simp only [Act.put, List.setIfInBounds_toArray, List.set_cons_zero, List.set_cons_succ]; first | done | exact rfl), ?_⟩ | refine .inr ⟨_, _, row_any2 rfl, rfl, (by dsimp only [cutL, List.drop, List.take]; first | done | exact rfl), _, (by simp only [Act.put, List.setIfInBounds_toArray, List.set_cons_zero, List.set_cons_succ]; first | done | exact rfl), ?_⟩) | (refine wpx_st hS rfl _ _ _ rfl rfl _ _ rfl ?_; (first | refine ⟨0, _, rfl, ?_⟩ | refine ⟨1, _, rfl, ?_⟩ | refine ⟨2, _, rfl, ?_⟩ | refine ⟨3, _, rfl, ?_⟩ | refine ⟨4, _, rfl, ?_⟩ | refine ⟨5, _, rfl, ?_⟩ | refine ⟨6, _, rfl, ?_⟩ | refine ⟨7, _, rfl, ?_⟩ | refine ⟨8, _, rfl, ?_⟩ | refine ⟨9, _, rfl, ?_⟩); refine ⟨_, (by first | exact shA rfl | exact shI rfl | exact shB rfl | exact shS rfl | exact shP rfl | exact shF rfl | exact shN rfl), _, siz_any2 rfl, (by exact rfl), (by exact rfl), (by exact rfl), ?_⟩; clear hS; intro _ hS; dsimp only [blit, List.set, List.cons_append, List.nil_append, Value.cells, List.toList_toArray] at hS))
  refine (mLoad_x hS 0 1 rfl rfl (by decide) (unhide HR) (unhide HW) 2 0 (by decide) (by decide) M (unhide HM)).mono ?_
  rintro r u ⟨rfl, hW2, hS2⟩
  clear hS
  have hS := hS2
  clear hS2 HM
  dsimp only [putL, List.set] at hS
  have HW2 := hide hW2
  clear hW2
  go_wp2_with (first | (refine wpx_box hS rfl _ _ rfl _ rfl _ (by intro _; simp only [Act.put, List.setIfInBounds_toArray, List.set_cons_zero, List.set_cons_succ]; first | done | exact rfl) ?_; clear hS; intro _ _ hS; dsimp only [blit, List.set, List.cons_append, List.nil_append, Value.cells, List.toList_toArray] at hS) | (refine wpx_alloc hS rfl _ rfl _ (zer_any2 rfl) _ (by intro _; simp only [Act.put, List.setIfInBounds_toArray, List.set_cons_zero, List.set_cons_succ]; first | done | exact rfl) ?_; clear hS; intro _ _ hS; dsimp only [blit, List.set, List.cons_append, List.nil_append, Value.cells, List.toList_toArray] at hS) | (refine wpx_ld hS rfl _ _ rfl _ _ rfl ?_; (first | refine ⟨0, _, rfl, ?_⟩ | refine ⟨1, _, rfl, ?_⟩ | refine ⟨2, _, rfl, ?_⟩ | refine ⟨3, _, rfl, ?_⟩ | refine ⟨4, _, rfl, ?_⟩ | refine ⟨5, _, rfl, ?_⟩ | refine ⟨6, _, rfl, ?_⟩ | refine ⟨7, _, rfl, ?_⟩ | refine ⟨8, _, rfl, ?_⟩ | refine ⟨9, _, rfl, ?_⟩); first | refine .inl ⟨_, one_any2 rfl, rfl, _, (by simp only [Act.put, List.setIfInBounds_toArray, List.set_cons_zero, List.set_cons_succ]; first | done | exact rfl), ?_⟩ | refine .inr ⟨_, _, row_any2 rfl, rfl, (by dsimp only [cutL, List.drop, List.take]; first | done | exact rfl), _, (by simp only [Act.put, List.setIfInBounds_toArray, List.set_cons_zero, List.set_cons_succ]; first | done | exact rfl), ?_⟩) | (refine wpx_st hS rfl _ _ _ rfl rfl _ _ rfl ?_; (first | refine ⟨0, _, rfl, ?_⟩ | refine ⟨1, _, rfl, ?_⟩ | refine ⟨2, _, rfl, ?_⟩ | refine ⟨3, _, rfl, ?_⟩ | refine ⟨4, _, rfl, ?_⟩ | refine ⟨5, _, rfl, ?_⟩ | refine ⟨6, _, rfl, ?_⟩ | refine ⟨7, _, rfl, ?_⟩ | refine ⟨8, _, rfl, ?_⟩ | refine ⟨9, _, rfl, ?_⟩); refine ⟨_, (by first | exact shA rfl | exact shI rfl | exact shB rfl | exact shS rfl | exact shP rfl | exact shF rfl | exact shN rfl), _, siz_any2 rfl, (by exact rfl), (by exact rfl), (by exact rfl), ?_⟩; clear hS; intro _ hS; dsimp only [blit, List.set, List.cons_append, List.nil_append, Value.cells, List.toList_toArray] at hS))
  go_end0
  exact ⟨rfl, unhide HW2, (unhide HS).back3 i j k (unhide HI).1 (unhide HI).2.1 (unhide HI).2.2 hS⟩

set_option maxHeartbeats 2000000 in
theorem pLay_x (hS : Sx bs w0 w l e) (i j k : Nat) (hi : l[i]? = some (B, memL c C m)) (hj : l[j]? = some (C, rowW m.ws c.n)) (t : Int) (ep : Nat) (nx : Value) (hk : l[k]? = some (P, [.int .i64 t, .int .u64 ep, nx])) (hij : i ≠ j) (hik : i ≠ k) (hjk : j ≠ k) (hr : c.r = true) (hw : WordsOk c m) (ht : -9223372036854775808 ≤ t ∧ t ≤ 9223372036854775807) (M : Um.Mm) (hM : M = Um.mtouch c m 2 3 t 0 (Um.addW ep 1)) :
    Calls Try.prog 67 #[.pointer (some ⟨P, 0, none⟩), .pointer (some ⟨B, 0, none⟩)] w fun r w' => r = .returned (.tuple #[]) ∧ WordsOk c M ∧ Sx bs w0 w' (putL l [(i, B, memL c C M), (j, C, rowW M.ws c.n), (k, P, [.int .i64 t, .int .u64 ep, .nilFunc])]) e := by
  have HS := hide hS
  have HI := hide (And.intro hi (And.intro hj hk))
  have hL := hS.enter3 i j k hi hj hk hij hik hjk
  have HR := hide hr
  have HW := hide hw
  have HM := hide hM
  have HT := hide ht
  have hx : IntKind.u64.wrap ((ep : Int) + 1) = ((Um.addW ep 1 : Nat) : Int) := addW_wrap ep 1
  have HX := hide (Um.word_addW ep 1)
  generalize Um.addW ep 1 = x at *
  clear hS hi hj hk hr hw hM ht
  have hS := hL
  clear hL
  have k0 := fun w' (h : BlkAt w' P [.int .i64 t, .int .u64 ep, nx]) => h.cell 0 _ rfl
  have k1 := fun w' (h : BlkAt w' P [.int .i64 t, .int .u64 ep, nx]) => h.cell 1 _ rfl
  have HP := hide (hS.get 2 rfl)
  go_enter Try.func67, Try.ntmps67
  go_wp2_with fail
  have HS3 := hide hS
  clear hS
  go_region_held3 (fun w' => BlkAt w' P [.int .i64 t, .int .u64 ep, nx]) (first | exact (unhide HP).drew | exact BlkAt.below (by assumption) (by assumption) | assumption) (first | (go_at_call 54; refine (pSpot_any _ _).mono ?_; rintro e u5 ⟨rfl, hb5⟩) | (go_at_call 14; refine (mStore_x ((unhide HS3).undrew hb5) 0 1 rfl rfl (by decide) (unhide HR) (unhide HW) 3 t x (unhide HX) (unhide HT).1 (unhide HT).2 M (unhide HM)).mono ?_; rintro e u6 ⟨rfl, hW6, hS6⟩; have hP6 := hS6.get 2 rfl))
  have hS := hS6
  have HW6 := hide hW6
  clear hS6 hP6 hb5 hW6 k0 k1
  dsimp only [putL, List.set] at hS
  go_wp2_with (first | (refine wpx_box hS rfl _ _ rfl _ rfl _ (by intro _; simp only [Act.put, List.setIfInBounds_toArray, List.set_cons_zero, List.set_cons_succ]; first | done | exact rfl) ?_; clear hS; intro _ _ hS; dsimp only [blit, List.set, List.cons_append, List.nil_append, Value.cells, List.toList_toArray] at hS) | (refine wpx_alloc hS rfl _ rfl _ (zer_any2 rfl) _ (by intro _; simp only [Act.put, List.setIfInBounds_toArray, List.set_cons_zero, List.set_cons_succ]; first | done | exact rfl) ?_; clear hS; intro _ _ hS; dsimp only [blit, List.set, List.cons_append, List.nil_append, Value.cells, List.toList_toArray] at hS) | (refine wpx_ld hS rfl _ _ rfl _ _ rfl ?_; (first | refine ⟨0, _, rfl, ?_⟩ | refine ⟨1, _, rfl, ?_⟩ | refine ⟨2, _, rfl, ?_⟩ | refine ⟨3, _, rfl, ?_⟩ | refine ⟨4, _, rfl, ?_⟩ | refine ⟨5, _, rfl, ?_⟩ | refine ⟨6, _, rfl, ?_⟩ | refine ⟨7, _, rfl, ?_⟩ | refine ⟨8, _, rfl, ?_⟩ | refine ⟨9, _, rfl, ?_⟩); first | refine .inl ⟨_, one_any2 rfl, rfl, _, (by simp only [Act.put, List.setIfInBounds_toArray, List.set_cons_zero, List.set_cons_succ]; first | done | exact rfl), ?_⟩ | refine .inr ⟨_, _, row_any2 rfl, rfl, (by dsimp only [cutL, List.drop, List.take]; first | done | exact rfl), _, (by simp only [Act.put, List.setIfInBounds_toArray, List.set_cons_zero, List.set_cons_succ]; first | done | exact rfl), ?_⟩) | (refine wpx_st hS rfl _ _ _ rfl rfl _ _ rfl ?_; (first | refine ⟨0, _, rfl, ?_⟩ | refine ⟨1, _, rfl, ?_⟩ | refine ⟨2, _, rfl, ?_⟩ | refine ⟨3, _, rfl, ?_⟩ | refine ⟨4, _, rfl, ?_⟩ | refine ⟨5, _, rfl, ?_⟩ | refine ⟨6, _, rfl, ?_⟩ | refine ⟨7, _, rfl, ?_⟩ | refine ⟨8, _, rfl, ?_⟩ | refine ⟨9, _, rfl, ?_⟩); refine ⟨_, (by first | exact shA rfl | exact shI rfl | exact shB rfl | exact shS rfl | exact shP rfl | exact shF rfl | exact shN rfl), _, siz_any2 rfl, (by exact rfl), (by exact rfl), (by exact rfl), ?_⟩; clear hS; intro _ hS; dsimp only [blit, List.set, List.cons_append, List.nil_append, Value.cells, List.toList_toArray] at hS))
  go_end0
  exact ⟨rfl, unhide HW6, (unhide HS).back3 i j k (unhide HI).1 (unhide HI).2.1 (unhide HI).2.2 hS⟩

set_option maxHeartbeats 2000000 in
theorem pStep_0 (hS : Sx bs w0 w l e) (i j k : Nat) (hi : l[i]? = some (B, memL c C m)) (hj : l[j]? = some (C, rowW m.ws c.n)) (t : Int) (ep : Nat) (hk : l[k]? = some (P, [.int .i64 t, .int .u64 ep, .func (.func 53) #[.pointer (some ⟨P, 0, none⟩)] #[]])) (hij : i ≠ j) (hik : i ≠ k) (hjk : j ≠ k) (hr : c.r = true) (hw : WordsOk c m) (M : Um.Mm) (hM : M = Um.mtouch c m 1 2 0 0 0) :
    Calls Try.prog 24 #[.pointer (some ⟨P, 0, none⟩), .pointer (some ⟨B, 0, none⟩)] w fun r w' => r = .returned (.tuple #[]) ∧ WordsOk c M ∧ Sx bs w0 w' (putL l [(i, B, memL c C M), (j, C, rowW M.ws c.n), (k, P, [.int .i64 t, .int .u64 (M.l.old : Nat), .func (.func 67) #[.pointer (some ⟨P, 0, none⟩)] #[]])]) e := by
  have HD := hide (pDone_x hS k t ep _ _ _ hk)
  have HC := hide (pLoad_x hS i j k hi hj t ep _ hk hij hik hjk hr hw M hM)
  have h2 := (hS.get k hk).cell 2 _ rfl
  clear hS hi hj hk hij hik hjk hr hw hM
  go_enter Try.func24, Try.ntmps24
  go_wp2_with fail
  refine (unhide HD).mono ?_
  rintro r u ⟨rfl, rfl⟩
  go_wp2_with fail
  refine (unhide HC).mono ?_
  rintro r u2 ⟨rfl, hW2, hS2⟩
  have H2 := hide hS2
  have HW2 := hide hW2
  clear hS2 hW2 h2
  go_wp2
  go_end0
  exact ⟨rfl, unhide HW2, unhide H2⟩

set_option maxHeartbeats 2000000 in
theorem pStep_1 (hS : Sx bs w0 w l e) (i j k : Nat) (hi : l[i]? = some (B, memL c C m)) (hj : l[j]? = some (C, rowW m.ws c.n)) (t : Int) (ep : Nat) (hk : l[k]? = some (P, [.int .i64 t, .int .u64 ep, .func (.func 67) #[.pointer (some ⟨P, 0, none⟩)] #[]])) (hij : i ≠ j) (hik : i ≠ k) (hjk : j ≠ k) (hr : c.r = true) (hw : WordsOk c m) (ht : -9223372036854775808 ≤ t ∧ t ≤ 9223372036854775807) (M : Um.Mm) (hM : M = Um.mtouch c m 2 3 t 0 (Um.addW ep 1)) :
    Calls Try.prog 24 #[.pointer (some ⟨P, 0, none⟩), .pointer (some ⟨B, 0, none⟩)] w fun r w' => r = .returned (.tuple #[]) ∧ WordsOk c M ∧ Sx bs w0 w' (putL l [(i, B, memL c C M), (j, C, rowW M.ws c.n), (k, P, [.int .i64 t, .int .u64 ep, .nilFunc])]) e := by
  have HD := hide (pDone_x hS k t ep _ _ _ hk)
  have HC := hide (pLay_x hS i j k hi hj t ep _ hk hij hik hjk hr hw ht M hM)
  have h2 := (hS.get k hk).cell 2 _ rfl
  clear hS hi hj hk hij hik hjk hr hw hM ht
  go_enter Try.func24, Try.ntmps24
  go_wp2_with fail
  refine (unhide HD).mono ?_
  rintro r u ⟨rfl, rfl⟩
  go_wp2_with fail
  refine (unhide HC).mono ?_
  rintro r u2 ⟨rfl, hW2, hS2⟩
  have H2 := hide hS2
  have HW2 := hide hW2
  clear hS2 hW2 h2
  go_wp2
  go_end0
  exact ⟨rfl, unhide HW2, unhide H2⟩

set_option maxHeartbeats 2000000 in
theorem pStep_2 (hS : Sx bs w0 w l e) (k : Nat) (t : Int) (ep : Nat) (hk : l[k]? = some (P, [.int .i64 t, .int .u64 ep, .nilFunc])) (q : Option Addr) :
    Calls Try.prog 24 #[.pointer (some ⟨P, 0, none⟩), .pointer q] w fun r w' => r = .returned (.tuple #[]) ∧ w' = w := by
  have HD := hide (pDone_nil hS k t ep hk)
  clear hS hk
  go_enter Try.func24, Try.ntmps24
  go_wp2_with fail
  refine (unhide HD).mono ?_
  rintro r u ⟨rfl, rfl⟩
  go_wp2
  go_end0
  exact ⟨rfl, rfl⟩

set_option maxHeartbeats 2000000 in
theorem pLeave_x (hS : Sx bs w0 w l e) (i j : Nat) (hi : l[i]? = some (B, memL c C m)) (hj : l[j]? = some (C, rowW m.ws c.n)) (hij : i ≠ j) (hr : c.r = true) (hw : WordsOk c m) (t : Int) (ht : -9223372036854775808 ≤ t ∧ t ≤ 9223372036854775807) (M : Um.Mm) (hM : M = Um.mtouch c m 2 3 t 0 0) :
    Calls Try.prog 27 #[.pointer (some ⟨B, 0, none⟩), .int .i64 t] w fun r w' => r = .returned (.tuple #[]) ∧ WordsOk c M ∧ Sx bs w0 w' (putL l [(i, B, memL c C M), (j, C, rowW M.ws c.n)]) e := by
  have HC := hide (fun w' (hb : Below w.heap.size w w') => mStore_x (hS.call hb) i j hi hj hij hr hw 3 t 0 (by unfold Um.Word; omega) ht.1 ht.2 M hM)
  clear hS hi hj hij hr hw ht hM
  go_enter Try.func27, Try.ntmps27
  go_wp2_with fail
  refine (pSpot_any _ _).mono ?_
  rintro r u ⟨rfl, hb⟩
  go_wp2_with fail
  refine ((unhide HC) _ hb).mono ?_
  rintro r u2 ⟨rfl, hW2, hS2⟩
  have H2 := hide hS2
  have HW2 := hide hW2
  clear hS2 hW2
  go_wp2
  go_end0
  exact ⟨rfl, unhide HW2, unhide H2⟩

end

end Go.Proofs.Ytjicfonpldobdaa

/-
  The walks of the program's grace: a new one, is it done, did one hold, its steps.
-/
namespace Go.Proofs.Ytjicfonpldobdaa
set_option maxRecDepth 100000
open Go.RowKit Go.Sort

/-- a grace's cells -/
def grcL (G : Nat) (own : Int) (ret : Nat) (oth : Int) (later : Bool) : List Value :=
  [.int .i64 own, .int .u64 ret, .int .i64 oth, cond later .nilFunc (.func (.func 55) #[.pointer (some ⟨G, 0, none⟩)] #[])]

theorem set_same {α : Type} {l : List α} {k : Nat} {x : α} (h : l[k]? = some x) : l.set k x = l := by
  obtain ⟨h1, h2⟩ := List.getElem?_eq_some_iff.1 h
  subst h2
  exact List.set_getElem_self h1

theorem field_thr (a0 a1 a2 a3 a4 : Value) (w : World) : Sem.run Try.prog (Instr.field 24 (.agg #[a0, a1, a2, a3, a4]) 0) w = .ok a0 w := by
  simp [Instr.field, go_sem, asAgg]

section
variable {bs : List Nat} {w0 w : World} {l e : List (Nat × List Value)} {B C G : Nat} {c : Um.Cf} {m : Um.Mm} {own oth : Int} {ret : Nat}

set_option maxHeartbeats 2000000 in
theorem gGoTo_x (hS : Sx bs w0 w l e) (k : Nat) (nx : Value) (hk : l[k]? = some (G, [.int .i64 own, .int .u64 ret, .int .i64 oth, nx])) (t : Int) (ht : 0 ≤ t ∧ t ≤ 1000) :
    Calls Try.prog 56 #[.pointer (some ⟨G, 0, none⟩), .int .i64 t] w fun r w' => r = .returned (.tuple #[]) ∧ Sx bs w0 w' (putL l [(k, G, [.int .i64 own, .int .u64 ret, .int .i64 (Um.goTo own t), nx])]) e := by
  have HS := hide hS
  have HK := hide hk
  have hL := hS.enter1 k hk
  clear hS hk
  have hS := hL
  clear hL
  by_cases e1 : t = own
  · obtain ⟨x, hx⟩ : ∃ x, x = Um.goTo own t := ⟨_, rfl⟩
    have hx' : x = t + 1 := by rw [hx]; unfold Um.goTo; rw [if_pos e1]
    rw [← hx]
    have hq : wrap64 (t + 1) = x := by rw [hx']; unfold wrap64; omega
    clear hx hx'
    have HT := hide ht
    clear ht
    subst e1
    go_enter Try.func56, Try.ntmps56
    go_wp2_with (first | (refine wpx_box hS rfl _ _ rfl _ rfl _ (by intro _; simp only [Act.put, List.setIfInBounds_toArray, List.set_cons_zero, List.set_cons_succ]; first | done | exact rfl) ?_; clear hS; intro _ _ hS; dsimp only [blit, List.set, List.cons_append, List.nil_append, Value.cells, List.toList_toArray] at hS) | (refine wpx_alloc hS rfl _ rfl _ (zer_any2 rfl) _ (by intro _; simp only [Act.put, List.setIfInBounds_toArray, List.set_cons_zero, List.set_cons_succ]; first | done | exact rfl) ?_; clear hS; intro _ _ hS; dsimp only [blit, List.set, List.cons_append, List.nil_append, Value.cells, List.toList_toArray] at hS) | (refine wpx_ld hS rfl _ _ rfl _ _ rfl ?_; (first | refine ⟨0, _, rfl, ?_⟩ | refine ⟨1, _, rfl, ?_⟩ | refine ⟨2, _, rfl, ?_⟩ | refine ⟨3, _, rfl, ?_⟩ | refine ⟨4, _, rfl, ?_⟩ | refine ⟨5, _, rfl, ?_⟩ | refine ⟨6, _, rfl, ?_⟩ | refine ⟨7, _, rfl, ?_⟩ | refine ⟨8, _, rfl, ?_⟩ | refine ⟨9, _, rfl, ?_⟩); first | refine .inl ⟨_, one_any2 rfl, rfl, _, (by simp only [Act.put, List.setIfInBounds_toArray, List.set_cons_zero, List.set_cons_succ]; first | done | exact rfl), ?_⟩ | refine .inr ⟨_, _, row_any2 rfl, rfl, (by dsimp only [cutL, List.drop, List.take]; first | done | exact rfl), _, (by simp only [Act.put, List.setIfInBounds_toArray, List.set_cons_zero, List.set_cons_succ]; first | done | exact rfl), ?_⟩) | (refine wpx_st hS rfl _ _ _ rfl rfl _ _ rfl ?_; (first | refine ⟨0, _, rfl, ?_⟩ | refine ⟨1, _, rfl, ?_⟩ | refine ⟨2, _, rfl, ?_⟩ | refine ⟨3, _, rfl, ?_⟩ | refine ⟨4, _, rfl, ?_⟩ | refine ⟨5, _, rfl, ?_⟩ | refine ⟨6, _, rfl, ?_⟩ | refine ⟨7, _, rfl, ?_⟩ | refine ⟨8, _, rfl, ?_⟩ | refine ⟨9, _, rfl, ?_⟩); refine ⟨_, (by first | exact shA rfl | exact shI rfl | exact shB rfl | exact shS rfl | exact shP rfl | exact shF rfl | exact shN rfl), _, siz_any2 rfl, (by exact rfl), (by exact rfl), (by exact rfl), ?_⟩; clear hS; intro _ hS; dsimp only [blit, List.set, List.cons_append, List.nil_append, Value.cells, List.toList_toArray] at hS))
    rw [hq] at hS
    go_end0
    exact ⟨rfl, (unhide HS).back1 k (unhide HK) hS⟩
  · obtain ⟨x, hx⟩ : ∃ x, x = Um.goTo own t := ⟨_, rfl⟩
    have hx' : x = t := by rw [hx]; unfold Um.goTo; rw [if_neg e1]
    rw [← hx]
    subst hx'
    have hE : (x == own) = false := by simpa using e1
    clear hx e1 ht
    go_enter Try.func56, Try.ntmps56
    go_wp2_with (first | (refine wpx_box hS rfl _ _ rfl _ rfl _ (by intro _; simp only [Act.put, List.setIfInBounds_toArray, List.set_cons_zero, List.set_cons_succ]; first | done | exact rfl) ?_; clear hS; intro _ _ hS; dsimp only [blit, List.set, List.cons_append, List.nil_append, Value.cells, List.toList_toArray] at hS) | (refine wpx_alloc hS rfl _ rfl _ (zer_any2 rfl) _ (by intro _; simp only [Act.put, List.setIfInBounds_toArray, List.set_cons_zero, List.set_cons_succ]; first | done | exact rfl) ?_; clear hS; intro _ _ hS; dsimp only [blit, List.set, List.cons_append, List.nil_append, Value.cells, List.toList_toArray] at hS) | (refine wpx_ld hS rfl _ _ rfl _ _ rfl ?_; (first | refine ⟨0, _, rfl, ?_⟩ | refine ⟨1, _, rfl, ?_⟩ | refine ⟨2, _, rfl, ?_⟩ | refine ⟨3, _, rfl, ?_⟩ | refine ⟨4, _, rfl, ?_⟩ | refine ⟨5, _, rfl, ?_⟩ | refine ⟨6, _, rfl, ?_⟩ | refine ⟨7, _, rfl, ?_⟩ | refine ⟨8, _, rfl, ?_⟩ | refine ⟨9, _, rfl, ?_⟩); first | refine .inl ⟨_, one_any2 rfl, rfl, _, (by simp only [Act.put, List.setIfInBounds_toArray, List.set_cons_zero, List.set_cons_succ]; first | done | exact rfl), ?_⟩ | refine .inr ⟨_, _, row_any2 rfl, rfl, (by dsimp only [cutL, List.drop, List.take]; first | done | exact rfl), _, (by simp only [Act.put, List.setIfInBounds_toArray, List.set_cons_zero, List.set_cons_succ]; first | done | exact rfl), ?_⟩) | (refine wpx_st hS rfl _ _ _ rfl rfl _ _ rfl ?_; (first | refine ⟨0, _, rfl, ?_⟩ | refine ⟨1, _, rfl, ?_⟩ | refine ⟨2, _, rfl, ?_⟩ | refine ⟨3, _, rfl, ?_⟩ | refine ⟨4, _, rfl, ?_⟩ | refine ⟨5, _, rfl, ?_⟩ | refine ⟨6, _, rfl, ?_⟩ | refine ⟨7, _, rfl, ?_⟩ | refine ⟨8, _, rfl, ?_⟩ | refine ⟨9, _, rfl, ?_⟩); refine ⟨_, (by first | exact shA rfl | exact shI rfl | exact shB rfl | exact shS rfl | exact shP rfl | exact shF rfl | exact shN rfl), _, siz_any2 rfl, (by exact rfl), (by exact rfl), (by exact rfl), ?_⟩; clear hS; intro _ hS; dsimp only [blit, List.set, List.cons_append, List.nil_append, Value.cells, List.toList_toArray] at hS))
    go_end0
    exact ⟨rfl, (unhide HS).back1 k (unhide HK) hS⟩

set_option maxHeartbeats 2000000 in
theorem gNew_x (hS : Sx bs w0 w l e) (own : Int) (ret : Nat) :
    Calls Try.prog 29 #[.int .i64 own, .int .u64 ret] w fun r w' => ∃ G, r = .returned (.pointer (some ⟨G, 0, none⟩)) ∧ Sx bs w0 w' (l ++ [(G, grcL G own ret (Um.goTo own 0) false)]) e := by
  have HS := hide hS
  clear hS
  have hS := Sx.new w
  go_enter Try.func29, Try.ntmps29
  go_wp2_with (first | (refine wpx_box hS rfl _ _ rfl _ rfl _ (by intro _; simp only [Act.put, List.setIfInBounds_toArray, List.set_cons_zero, List.set_cons_succ]; first | done | exact rfl) ?_; clear hS; intro _ _ hS; dsimp only [blit, List.set, List.cons_append, List.nil_append, Value.cells, List.toList_toArray] at hS) | (refine wpx_alloc hS rfl _ rfl _ (zer_any2 rfl) _ (by intro _; simp only [Act.put, List.setIfInBounds_toArray, List.set_cons_zero, List.set_cons_succ]; first | done | exact rfl) ?_; clear hS; intro _ _ hS; dsimp only [blit, List.set, List.cons_append, List.nil_append, Value.cells, List.toList_toArray] at hS) | (refine wpx_ld hS rfl _ _ rfl _ _ rfl ?_; (first | refine ⟨0, _, rfl, ?_⟩ | refine ⟨1, _, rfl, ?_⟩ | refine ⟨2, _, rfl, ?_⟩ | refine ⟨3, _, rfl, ?_⟩ | refine ⟨4, _, rfl, ?_⟩ | refine ⟨5, _, rfl, ?_⟩ | refine ⟨6, _, rfl, ?_⟩ | refine ⟨7, _, rfl, ?_⟩ | refine ⟨8, _, rfl, ?_⟩ | refine ⟨9, _, rfl, ?_⟩); first | refine .inl ⟨_, one_any2 rfl, rfl, _, (by simp only [Act.put, List.setIfInBounds_toArray, List.set_cons_zero, List.set_cons_succ]; first | done | exact rfl), ?_⟩ | refine .inr ⟨_, _, row_any2 rfl, rfl, (by dsimp only [cutL, List.drop, List.take]; first | done | exact rfl), _, (by simp only [Act.put, List.setIfInBounds_toArray, List.set_cons_zero, List.set_cons_succ]; first | done | exact rfl), ?_⟩) | (refine wpx_st hS rfl _ _ _ rfl rfl _ _ rfl ?_; (first | refine ⟨0, _, rfl, ?_⟩ | refine ⟨1, _, rfl, ?_⟩ | refine ⟨2, _, rfl, ?_⟩ | refine ⟨3, _, rfl, ?_⟩ | refine ⟨4, _, rfl, ?_⟩ | refine ⟨5, _, rfl, ?_⟩ | refine ⟨6, _, rfl, ?_⟩ | refine ⟨7, _, rfl, ?_⟩ | refine ⟨8, _, rfl, ?_⟩ | refine ⟨9, _, rfl, ?_⟩); refine ⟨_, (by first | exact shA rfl | exact shI rfl | exact shB rfl | exact shS rfl | exact shP rfl | exact shF rfl | exact shN rfl), _, siz_any2 rfl, (by exact rfl), (by exact rfl), (by exact rfl), ?_⟩; clear hS; intro _ hS; dsimp only [blit, List.set, List.cons_append, List.nil_append, Value.cells, List.toList_toArray] at hS))
  rename_i G _ _ _ _ _ _
  refine (gGoTo_x hS 0 _ rfl 0 (by decide)).mono ?_
  rintro r u ⟨rfl, hS2⟩
  clear hS
  have hS := hS2
  clear hS2
  dsimp only [putL, List.set] at hS
  have HS2 := hide hS
  clear hS
  go_wp2
  go_ret
  have hS := unhide HS2
  exact ⟨G, rfl, (unhide HS).add hS.bel (hS.get 0 rfl) ((hS.low _ (List.mem_of_getElem? (i := 0) rfl)).resolve_left (by simp))⟩

set_option maxHeartbeats 1000000 in
theorem gLater_blk {later : Bool} (hk : BlkAt w G (grcL G own ret oth later)) : Calls Try.prog 32 #[.pointer (some ⟨G, 0, none⟩)] w fun r w' => r = .returned (.bool later) ∧ w' = w := by
  have h2 := hk.cell 3 _ rfl
  have hE := eqFn
  have hE0 := eqNoFn
  clear hk
  cases later with
  | false =>
    dsimp only [cond_false] at h2
    go_enter Try.func32, Try.ntmps32
    go_wp2
    go_ret
    exact ⟨rfl, rfl⟩
  | true =>
    dsimp only [cond_true] at h2
    go_enter Try.func32, Try.ntmps32
    go_wp2
    go_ret
    exact ⟨rfl, rfl⟩

set_option maxHeartbeats 1000000 in
theorem gHolds_blk {nx : Value} (hk : BlkAt w G [.int .i64 own, .int .u64 ret, .int .i64 oth, nx]) (p : Nat) (hp : Um.Word p) : Calls Try.prog 68 #[.pointer (some ⟨G, 0, none⟩), .int .u64 (p : Nat)] w fun r w' => r = .returned (.bool (Um.holdsW p ret)) ∧ w' = w := by
  have h2 := hk.cell 1 _ rfl
  clear hk
  by_cases h0 : p = 0
  · subst h0
    go_enter Try.func68, Try.ntmps68
    go_wp2
    go_ret
    exact ⟨rfl, rfl⟩
  · obtain ⟨q, rfl⟩ : ∃ q, p = q + 1 := ⟨p - 1, by omega⟩
    have e1 : IntKind.u64.wrap ((((q + 1 : Nat) : Int)) - 1) = (q : Int) := by rw [IntKind.wrap_u64]; unfold Um.Word at hp; omega
    have e2 : ¬ (((q + 1 : Nat) : Int)) = 0 := by omega
    have e3 : ((((q + 1 : Nat) : Int)) != 0) = true := by simpa using e2
    have e4 : Um.holdsW (q + 1) ret = decide (q ≤ ret) := by
      unfold Um.holdsW
      simp
    rw [e4]
    clear e4 h0 hp
    generalize ((q + 1 : Nat) : Int) = z at *
    go_enter Try.func68, Try.ntmps68
    go_wp2
    go_ret
    exact ⟨rfl, rfl⟩

theorem config_x (hS : Sx bs w0 w l e) (i j : Nat) (hi : l[i]? = some (B, memL c C m)) (hj : l[j]? = some (C, rowW m.ws c.n)) (hij : i ≠ j) (hr : c.r = true) (hw : WordsOk c m) : Calls Try.prog 57 #[.pointer (some ⟨B, 0, none⟩)] w fun r w' => r = .returned (.agg #[.int .i64 (c.t), .int .i64 (c.s), .int .i64 (c.k), .int .i64 (c.g), .int .u64 (c.q : Int)]) ∧ Below w.heap.size w w' :=
  mConfig_any (hS.mem i j hi hj hij hr hw)

set_option maxHeartbeats 2000000 in
theorem gDone_x (hS : Sx bs w0 w l e) (i j k : Nat) (hi : l[i]? = some (B, memL c C m)) (hj : l[j]? = some (C, rowW m.ws c.n)) (hij : i ≠ j) (hr : c.r = true) (hw : WordsOk c m) {later : Bool} (hk : l[k]? = some (G, grcL G own ret oth later)) :
    Calls Try.prog 30 #[.pointer (some ⟨G, 0, none⟩), .pointer (some ⟨B, 0, none⟩)] w fun r w' => r = .returned (.bool (Um.gdone c oth later)) ∧ Below w.heap.size w w' := by
  have HL := hide (fun d os => Calls.regrown_of ((gLater_blk ((hS.get k hk).below (below_regrown w d os))).mono (fun r w' h => ⟨h.1, h.2 ▸ Below.refl _ _⟩)))
  have HC := hide (fun d os => Calls.regrown_of (config_x (hS.call (below_regrown w d os)) i j hi hj hij hr hw))
  have k2 := cell_regrown ((hS.get k hk).cell 2 _ rfl)
  have hF := field_thr
  clear hS hi hj hij hr hw hk
  cases later with
  | true =>
    show Calls _ _ _ _ fun r w' => r = .returned (.bool true) ∧ Below w.heap.size w w'
    go_enter Try.func30, Try.ntmps30
    go_wp2_with fail
    refine wp_region_quiet_below (by kernel_rfl) (by kernel_rfl) ?_
    repeat (go_big_quiet_step (first | (go_at_call 32; exact (unhide HL) _ _) | (go_at_call 57; exact (unhide HC) _ _)))
    refine wpQuiet_nil ?_
    intro _ hw'
    obtain ⟨⟨dq, osq⟩, hw''⟩ := hw'
    subst hw''
    have hQ := below_regrown w dq osq
    go_wp2
    go_ret
    exact ⟨rfl, hQ⟩
  | false =>
    have e1 : Um.gdone c oth false = decide (c.t ≤ oth) := rfl
    rw [e1]
    go_enter Try.func30, Try.ntmps30
    go_wp2_with fail
    refine wp_region_quiet_below (by kernel_rfl) (by kernel_rfl) ?_
    repeat (go_big_quiet_step (first | (go_at_call 32; exact (unhide HL) _ _) | (go_at_call 57; exact (unhide HC) _ _)))
    refine wpQuiet_nil ?_
    intro _ hw'
    obtain ⟨⟨dq, osq⟩, hw''⟩ := hw'
    subst hw''
    have hQ := below_regrown w dq osq
    go_wp2
    go_ret
    exact ⟨rfl, hQ⟩

set_option maxHeartbeats 4000000 in
theorem gLook_x (hS : Sx bs w0 w l e) (i j k : Nat) (hi : l[i]? = some (B, memL c C m)) (hj : l[j]? = some (C, rowW m.ws c.n)) (hk : l[k]? = some (G, grcL G own ret oth false)) (hij : i ≠ j) (hik : i ≠ k) (hjk : j ≠ k) (hr : c.r = true) (hw : WordsOk c m) (ho : 0 ≤ oth ∧ oth < c.t) (M : Um.Mm) (hM : M = Um.mtouch c m 1 3 oth 0 0) :
    Calls Try.prog 55 #[.pointer (some ⟨G, 0, none⟩), .pointer (some ⟨B, 0, none⟩)] w fun r w' => r = .returned (.tuple #[]) ∧ WordsOk c M ∧ Sx bs w0 w' (putL l [(i, B, memL c C M), (j, C, rowW M.ws c.n), (k, G, cond (Um.holdsW M.l.old ret) (grcL G own ret oth true) (grcL G own ret (Um.goTo own (oth + 1)) false))]) e := by
  have hb := c.rb hr
  have hp : Um.Word M.l.old := by rw [hM]; exact Um.old_word hw
  have HP := hide hp
  have HS := hide hS
  have HI := hide (And.intro hi (And.intro hj hk))
  have hL := hS.enter3 i j k hi hj hk hij hik hjk
  have HR := hide hr
  have HW := hide hw
  have HM := hide hM
  have HO := hide (show 0 ≤ oth ∧ oth ≤ 900 by omega)
  have hq : wrap64 (oth + 1) = oth + 1 := by unfold wrap64; omega
  clear hS hi hj hk hr hw hM ho hb hp
  have hS := hL
  clear hL
  dsimp only [grcL, cond_false] at hS
  cases hh : Um.holdsW M.l.old ret with
  | true =>
    have HH := hide hh
    clear hh
    go_enter Try.func55, Try.ntmps55
    go_wp2_with (first | (refine wpx_box hS rfl _ _ rfl _ rfl _ (by intro _; simp only [Act.put, List.setIfInBounds_toArray, List.set_cons_zero, List.set_cons_succ]; first | done | exact rfl) ?_; clear hS; intro _ _ hS; dsimp only [blit, List.set, List.cons_append, List.nil_append, Value.cells, List.toList_toArray] at hS) | (refine wpx_alloc hS rfl _ rfl _ (zer_any2 rfl) _ (by intro _; simp only [Act.put, List.setIfInBounds_toArray, List.set_cons_zero, List.set_cons_succ]; first | done | exact rfl) ?_; clear hS; intro _ _ hS; dsimp only [blit, List.set, List.cons_append, List.nil_append, Value.cells, List.toList_toArray] at hS) | (refine wpx_ld hS rfl _ _ rfl _ _ rfl ?_; (first | refine ⟨0, _, rfl, ?_⟩ | refine ⟨1, _, rfl, ?_⟩ | refine ⟨2, _, rfl, ?_⟩ | refine ⟨3, _, rfl, ?_⟩ | refine ⟨4, _, rfl, ?_⟩ | refine ⟨5, _, rfl, ?_⟩ | refine ⟨6, _, rfl, ?_⟩ | refine ⟨7, _, rfl, ?_⟩ | refine ⟨8, _, rfl, ?_⟩ | refine ⟨9, _, rfl, ?_⟩); first | refine .inl ⟨_, one_any2 rfl, rfl, _, (by simp only [Act.put, List.setIfInBounds_toArray, List.set_cons_zero, List.set_cons_succ]; first | done | exact rfl), ?_⟩ | refine .inr ⟨_, _, row_any2 rfl, rfl, (by dsimp only [cutL, List.drop, List.take]; first | done | exact rfl), _, (by simp only [Act.put, List.setIfInBounds_toArray, List.set_cons_zero, List.set_cons_succ]; first | done | exact rfl), ?_⟩) | (refine wpx_st hS rfl _ _ _ rfl rfl _ _ rfl ?_; (first | refine ⟨0, _, rfl, ?_⟩ | refine ⟨1, _, rfl, ?_⟩ | refine ⟨2, _, rfl, ?_⟩ | refine ⟨3, _, rfl, ?_⟩ | refine ⟨4, _, rfl, ?_⟩ | refine ⟨5, _, rfl, ?_⟩ | refine ⟨6, _, rfl, ?_⟩ | refine ⟨7, _, rfl, ?_⟩ | refine ⟨8, _, rfl, ?_⟩ | refine ⟨9, _, rfl, ?_⟩); refine ⟨_, (by first | exact shA rfl | exact shI rfl | exact shB rfl | exact shS rfl | exact shP rfl | exact shF rfl | exact shN rfl), _, siz_any2 rfl, (by exact rfl), (by exact rfl), (by exact rfl), ?_⟩; clear hS; intro _ hS; dsimp only [blit, List.set, List.cons_append, List.nil_append, Value.cells, List.toList_toArray] at hS))
    refine (pSpot_any _ _).mono ?_
    rintro r u1 ⟨rfl, hb1⟩
    replace hS := hS.call hb1
    clear hb1
    go_wp2_with fail
    refine (mLoad_x hS 0 1 rfl rfl (by decide) (unhide HR) (unhide HW) 3 oth (by have := unhide HO; omega) (by have := unhide HO; omega) M (unhide HM)).mono ?_
    rintro r u2 ⟨rfl, hW2, hS2⟩
    clear hS
    have hS := hS2
    have HW2 := hide hW2
    clear hS2 hW2 HM
    dsimp only [putL, List.set] at hS
    go_wp2_with fail
    refine (gHolds_blk (hS.get 2 rfl) M.l.old (unhide HP)).mono ?_
    rintro r u3 ⟨rfl, rfl⟩
    rw [unhide HH]
    go_wp2_with (first | (refine wpx_box hS rfl _ _ rfl _ rfl _ (by intro _; simp only [Act.put, List.setIfInBounds_toArray, List.set_cons_zero, List.set_cons_succ]; first | done | exact rfl) ?_; clear hS; intro _ _ hS; dsimp only [blit, List.set, List.cons_append, List.nil_append, Value.cells, List.toList_toArray] at hS) | (refine wpx_alloc hS rfl _ rfl _ (zer_any2 rfl) _ (by intro _; simp only [Act.put, List.setIfInBounds_toArray, List.set_cons_zero, List.set_cons_succ]; first | done | exact rfl) ?_; clear hS; intro _ _ hS; dsimp only [blit, List.set, List.cons_append, List.nil_append, Value.cells, List.toList_toArray] at hS) | (refine wpx_ld hS rfl _ _ rfl _ _ rfl ?_; (first | refine ⟨0, _, rfl, ?_⟩ | refine ⟨1, _, rfl, ?_⟩ | refine ⟨2, _, rfl, ?_⟩ | refine ⟨3, _, rfl, ?_⟩ | refine ⟨4, _, rfl, ?_⟩ | refine ⟨5, _, rfl, ?_⟩ | refine ⟨6, _, rfl, ?_⟩ | refine ⟨7, _, rfl, ?_⟩ | refine ⟨8, _, rfl, ?_⟩ | refine ⟨9, _, rfl, ?_⟩); first | refine .inl ⟨_, one_any2 rfl, rfl, _, (by simp only [Act.put, List.setIfInBounds_toArray, List.set_cons_zero, List.set_cons_succ]; first | done | exact rfl), ?_⟩ | refine .inr ⟨_, _, row_any2 rfl, rfl, (by dsimp only [cutL, List.drop, List.take]; first | done | exact rfl), _, (by simp only [Act.put, List.setIfInBounds_toArray, List.set_cons_zero, List.set_cons_succ]; first | done | exact rfl), ?_⟩) | (refine wpx_st hS rfl _ _ _ rfl rfl _ _ rfl ?_; (first | refine ⟨0, _, rfl, ?_⟩ | refine ⟨1, _, rfl, ?_⟩ | refine ⟨2, _, rfl, ?_⟩ | refine ⟨3, _, rfl, ?_⟩ | refine ⟨4, _, rfl, ?_⟩ | refine ⟨5, _, rfl, ?_⟩ | refine ⟨6, _, rfl, ?_⟩ | refine ⟨7, _, rfl, ?_⟩ | refine ⟨8, _, rfl, ?_⟩ | refine ⟨9, _, rfl, ?_⟩); refine ⟨_, (by first | exact shA rfl | exact shI rfl | exact shB rfl | exact shS rfl | exact shP rfl | exact shF rfl | exact shN rfl), _, siz_any2 rfl, (by exact rfl), (by exact rfl), (by exact rfl), ?_⟩; clear hS; intro _ hS; dsimp only [blit, List.set, List.cons_append, List.nil_append, Value.cells, List.toList_toArray] at hS))
    refine bodyPost_ret (v := .tuple #[]) (by simp [results, Try.results55, go_sem]) rfl ?_
    exact ⟨rfl, unhide HW2, (unhide HS).back3 i j k (unhide HI).1 (unhide HI).2.1 (unhide HI).2.2 hS⟩
  | false =>
    have HH := hide hh
    clear hh
    go_enter Try.func55, Try.ntmps55
    go_wp2_with (first | (refine wpx_box hS rfl _ _ rfl _ rfl _ (by intro _; simp only [Act.put, List.setIfInBounds_toArray, List.set_cons_zero, List.set_cons_succ]; first | done | exact rfl) ?_; clear hS; intro _ _ hS; dsimp only [blit, List.set, List.cons_append, List.nil_append, Value.cells, List.toList_toArray] at hS) | (refine wpx_alloc hS rfl _ rfl _ (zer_any2 rfl) _ (by intro _; simp only [Act.put, List.setIfInBounds_toArray, List.set_cons_zero, List.set_cons_succ]; first | done | exact rfl) ?_; clear hS; intro _ _ hS; dsimp only [blit, List.set, List.cons_append, List.nil_append, Value.cells, List.toList_toArray] at hS) | (refine wpx_ld hS rfl _ _ rfl _ _ rfl ?_; (first | refine ⟨0, _, rfl, ?_⟩ | refine ⟨1, _, rfl, ?_⟩ | refine ⟨2, _, rfl, ?_⟩ | refine ⟨3, _, rfl, ?_⟩ | refine ⟨4, _, rfl, ?_⟩ | refine ⟨5, _, rfl, ?_⟩ | refine ⟨6, _, rfl, ?_⟩ | refine ⟨7, _, rfl, ?_⟩ | refine ⟨8, _, rfl, ?_⟩ | refine ⟨9, _, rfl, ?_⟩); first | refine .inl ⟨_, one_any2 rfl, rfl, _, (by simp only [Act.put, List.setIfInBounds_toArray, List.set_cons_zero, List.set_cons_succ]; first | done | exact rfl), ?_⟩ | refine .inr ⟨_, _, row_any2 rfl, rfl, (by dsimp only [cutL, List.drop, List.take]; first | done | exact rfl), _, (by simp only [Act.put, List.setIfInBounds_toArray, List.set_cons_zero, List.set_cons_succ]; first | done | exact rfl), ?_⟩) | (refine wpx_st hS rfl _ _ _ rfl rfl _ _ rfl ?_; (first | refine ⟨0, _, rfl, ?_⟩ | refine ⟨1, _, rfl, ?_⟩ | refine ⟨2, _, rfl, ?_⟩ | refine ⟨3, _, rfl, ?_⟩ | refine ⟨4, _, rfl, ?_⟩ | refine ⟨5, _, rfl, ?_⟩ | refine ⟨6, _, rfl, ?_⟩ | refine ⟨7, _, rfl, ?_⟩ | refine ⟨8, _, rfl, ?_⟩ | refine ⟨9, _, rfl, ?_⟩); refine ⟨_, (by first | exact shA rfl | exact shI rfl | exact shB rfl | exact shS rfl | exact shP rfl | exact shF rfl | exact shN rfl), _, siz_any2 rfl, (by exact rfl), (by exact rfl), (by exact rfl), ?_⟩; clear hS; intro _ hS; dsimp only [blit, List.set, List.cons_append, List.nil_append, Value.cells, List.toList_toArray] at hS))
    refine (pSpot_any _ _).mono ?_
    rintro r u1 ⟨rfl, hb1⟩
    replace hS := hS.call hb1
    clear hb1
    go_wp2_with fail
    refine (mLoad_x hS 0 1 rfl rfl (by decide) (unhide HR) (unhide HW) 3 oth (by have := unhide HO; omega) (by have := unhide HO; omega) M (unhide HM)).mono ?_
    rintro r u2 ⟨rfl, hW2, hS2⟩
    clear hS
    have hS := hS2
    have HW2 := hide hW2
    clear hS2 hW2 HM
    dsimp only [putL, List.set] at hS
    go_wp2_with fail
    refine (gHolds_blk (hS.get 2 rfl) M.l.old (unhide HP)).mono ?_
    rintro r u3 ⟨rfl, rfl⟩
    rw [unhide HH]
    go_wp2_with (first | (refine wpx_box hS rfl _ _ rfl _ rfl _ (by intro _; simp only [Act.put, List.setIfInBounds_toArray, List.set_cons_zero, List.set_cons_succ]; first | done | exact rfl) ?_; clear hS; intro _ _ hS; dsimp only [blit, List.set, List.cons_append, List.nil_append, Value.cells, List.toList_toArray] at hS) | (refine wpx_alloc hS rfl _ rfl _ (zer_any2 rfl) _ (by intro _; simp only [Act.put, List.setIfInBounds_toArray, List.set_cons_zero, List.set_cons_succ]; first | done | exact rfl) ?_; clear hS; intro _ _ hS; dsimp only [blit, List.set, List.cons_append, List.nil_append, Value.cells, List.toList_toArray] at hS) | (refine wpx_ld hS rfl _ _ rfl _ _ rfl ?_; (first | refine ⟨0, _, rfl, ?_⟩ | refine ⟨1, _, rfl, ?_⟩ | refine ⟨2, _, rfl, ?_⟩ | refine ⟨3, _, rfl, ?_⟩ | refine ⟨4, _, rfl, ?_⟩ | refine ⟨5, _, rfl, ?_⟩ | refine ⟨6, _, rfl, ?_⟩ | refine ⟨7, _, rfl, ?_⟩ | refine ⟨8, _, rfl, ?_⟩ | refine ⟨9, _, rfl, ?_⟩); first | refine .inl ⟨_, one_any2 rfl, rfl, _, (by simp only [Act.put, List.setIfInBounds_toArray, List.set_cons_zero, List.set_cons_succ]; first | done | exact rfl), ?_⟩ | refine .inr ⟨_, _, row_any2 rfl, rfl, (by dsimp only [cutL, List.drop, List.take]; first | done | exact rfl), _, (by simp only [Act.put, List.setIfInBounds_toArray, List.set_cons_zero, List.set_cons_succ]; first | done | exact rfl), ?_⟩) | (refine wpx_st hS rfl _ _ _ rfl rfl _ _ rfl ?_; (first | refine ⟨0, _, rfl, ?_⟩ | refine ⟨1, _, rfl, ?_⟩ | refine ⟨2, _, rfl, ?_⟩ | refine ⟨3, _, rfl, ?_⟩ | refine ⟨4, _, rfl, ?_⟩ | refine ⟨5, _, rfl, ?_⟩ | refine ⟨6, _, rfl, ?_⟩ | refine ⟨7, _, rfl, ?_⟩ | refine ⟨8, _, rfl, ?_⟩ | refine ⟨9, _, rfl, ?_⟩); refine ⟨_, (by first | exact shA rfl | exact shI rfl | exact shB rfl | exact shS rfl | exact shP rfl | exact shF rfl | exact shN rfl), _, siz_any2 rfl, (by exact rfl), (by exact rfl), (by exact rfl), ?_⟩; clear hS; intro _ hS; dsimp only [blit, List.set, List.cons_append, List.nil_append, Value.cells, List.toList_toArray] at hS))
    refine (gGoTo_x hS 2 _ rfl (oth + 1) (by have := unhide HO; omega)).mono ?_
    rintro r u4 ⟨rfl, hS4⟩
    clear hS
    have H4 := hide hS4
    clear hS4
    go_wp2
    go_end0
    exact ⟨rfl, unhide HW2, (unhide HS).back3 i j k (unhide HI).1 (unhide HI).2.1 (unhide HI).2.2 (unhide H4)⟩

set_option maxHeartbeats 4000000 in
theorem gStep_x (hS : Sx bs w0 w l e) (i j k : Nat) (s S : Um.Gs) (hi : l[i]? = some (B, memL c C s.m)) (hj : l[j]? = some (C, rowW s.m.ws c.n)) (hk : l[k]? = some (G, grcL G own ret s.oth s.later)) (hij : i ≠ j) (hik : i ≠ k) (hjk : j ≠ k) (hr : c.r = true) (hw : WordsOk c s.m) (ho : 0 ≤ s.oth) (hs : S = Um.gask c own ret s) :
    Calls Try.prog 33 #[.pointer (some ⟨G, 0, none⟩), .pointer (some ⟨B, 0, none⟩)] w fun r w' => r = .returned (.tuple #[]) ∧ WordsOk c S.m ∧ Sx bs w0 w' (putL l [(i, B, memL c C S.m), (j, C, rowW S.m.ws c.n), (k, G, grcL G own ret S.oth S.later)]) e := by
  have HD := hide (gDone_x hS i j k hi hj hij hr hw hk)
  cases hd : Um.gdone c s.oth s.later with
  | true =>
    have hSs : S = s := by rw [hs]; unfold Um.gask; rw [if_pos hd]
    subst hSs
    have HE : Hid (∀ w', Below w.heap.size w w' → WordsOk c S.m ∧ Sx bs w0 w' (putL l [(i, B, memL c C S.m), (j, C, rowW S.m.ws c.n), (k, G, grcL G own ret S.oth S.later)]) e) := by
      refine hide fun w' hb => ⟨hw, ?_⟩
      have h := hS.call hb
      unfold putL putL putL putL
      dsimp only
      rw [set_same hi, set_same hj, set_same hk]
      exact h
    rw [hd] at HD
    clear hS hi hj hk hij hik hjk hr hw ho hs hd
    go_enter Try.func33, Try.ntmps33
    go_wp2_with fail
    refine (unhide HD).mono ?_
    rintro r u ⟨rfl, hb⟩
    have HE2 := hide ((unhide HE) _ hb)
    clear hb HE
    go_wp2
    go_end0
    exact ⟨rfl, unhide HE2⟩
  | false =>
    have hl : s.later = false := by
      unfold Um.gdone at hd
      cases h : s.later with
      | false => rfl
      | true => rw [h] at hd; simp at hd
    have hlt : s.oth < c.t := by
      unfold Um.gdone at hd
      rw [hl] at hd
      simpa using hd
    have e1 : S.m = Um.mtouch c s.m 1 3 s.oth 0 0 := by
      rw [hs]; unfold Um.gask; rw [if_neg (by rw [hd]; simp)]
      split <;> rfl
    have e2 : grcL G own ret S.oth S.later = cond (Um.holdsW S.m.l.old ret) (grcL G own ret s.oth true) (grcL G own ret (Um.goTo own (s.oth + 1)) false) := by
      rw [e1, hs]; unfold Um.gask; rw [if_neg (by rw [hd]; simp)]
      split
      · rename_i h; rw [h]; rfl
      · rename_i h; rw [Bool.eq_false_iff.2 h]; rfl
    have HC := hide (fun w' (hb : Below w.heap.size w w') => gLook_x (hS.call hb) i j k hi hj (by rw [hl] at hk; exact hk) hij hik hjk hr hw ⟨ho, hlt⟩ S.m e1)
    have h3 := fun w' (hb : Below w.heap.size w w') => ((hS.get k hk).below hb).cell 3 _ rfl
    rw [hl] at h3
    dsimp only [cond_false] at h3
    have H3 := hide h3
    rw [hd] at HD
    rw [e2]
    clear hS hi hj hk hij hik hjk hr hw ho hs hd e1 e2 hl hlt h3
    go_enter Try.func33, Try.ntmps33
    go_wp2_with fail
    refine (unhide HD).mono ?_
    rintro r u ⟨rfl, hb⟩
    have h4 := (unhide H3) _ hb
    have HC2 := hide ((unhide HC) _ hb)
    clear HC H3 hb
    go_wp2_with fail
    refine (unhide HC2).mono ?_
    rintro r u2 ⟨rfl, hW2, hS2⟩
    have H2 := hide hS2
    have HW2 := hide hW2
    clear hS2 hW2 h4
    go_wp2
    go_end0
    exact ⟨rfl, unhide HW2, unhide H2⟩

end

end Go.Proofs.Ytjicfonpldobdaa

/-
  A pin's step, of whatever step; a new memory; how many accesses there were.
-/
namespace Go.Proofs.Ytjicfonpldobdaa
set_option maxRecDepth 100000
open Go.RowKit Go.Sort

/-- a pin's cells -/
def pinL (P : Nat) (t : Int) (ep st : Nat) : List Value :=
  [.int .i64 t, .int .u64 ep, if st = 0 then .func (.func 53) #[.pointer (some ⟨P, 0, none⟩)] #[] else if st = 1 then .func (.func 67) #[.pointer (some ⟨P, 0, none⟩)] #[] else .nilFunc]

section
variable {bs : List Nat} {w0 w : World} {l e : List (Nat × List Value)} {B C P : Nat} {c : Um.Cf} {m : Um.Mm} {t : Int}

theorem pStep_any (hS : Sx bs w0 w l e) (i j k : Nat) (s S : Um.Ps) (hs : S = Um.pstep c t s) (hst : s.st ≤ 2) (hi : l[i]? = some (B, memL c C s.m)) (hj : l[j]? = some (C, rowW s.m.ws c.n)) (hk : l[k]? = some (P, pinL P t s.ep s.st)) (hij : i ≠ j) (hik : i ≠ k) (hjk : j ≠ k) (hr : c.r = true) (hw : WordsOk c s.m) (ht : -9223372036854775808 ≤ t ∧ t ≤ 9223372036854775807) :
    Calls Try.prog 24 #[.pointer (some ⟨P, 0, none⟩), .pointer (some ⟨B, 0, none⟩)] w fun r w' => r = .returned (.tuple #[]) ∧ WordsOk c S.m ∧ S.st ≤ 2 ∧ Sx bs w0 w' (putL l [(i, B, memL c C S.m), (j, C, rowW S.m.ws c.n), (k, P, pinL P t S.ep S.st)]) e := by
  obtain ⟨m, ep, st⟩ := s
  dsimp only at *
  match st, hst with
  | 0, _ =>
    have e0 : S = ⟨Um.mtouch c m 1 2 0 0 0, (Um.mtouch c m 1 2 0 0 0).l.old, 1⟩ := hs
    subst e0
    refine (pStep_0 hS i j k hi hj t ep hk hij hik hjk hr hw _ rfl).mono ?_
    rintro r w' ⟨h1, h2, h3⟩
    exact ⟨h1, h2, (by decide : (1 : Nat) ≤ 2), h3⟩
  | 1, _ =>
    have e0 : S = ⟨Um.mtouch c m 2 3 t 0 (Um.addW ep 1), ep, 2⟩ := hs
    subst e0
    refine (pStep_1 hS i j k hi hj t ep hk hij hik hjk hr hw ht _ rfl).mono ?_
    rintro r w' ⟨h1, h2, h3⟩
    exact ⟨h1, h2, (by decide : (2 : Nat) ≤ 2), h3⟩
  | 2, _ =>
    have e0 : S = ⟨m, ep, 2⟩ := hs
    subst e0
    refine (pStep_2 hS k t ep hk _).mono ?_
    rintro r w' ⟨h1, rfl⟩
    refine ⟨h1, hw, (by decide : (2 : Nat) ≤ 2), ?_⟩
    unfold putL putL putL putL
    dsimp only
    rw [set_same hi, set_same hj, set_same hk]
    exact hS

theorem pDone_any (hS : Sx bs w0 w l e) (k : Nat) (ep st : Nat) (hst : st ≤ 2) (hk : l[k]? = some (P, pinL P t ep st)) : Calls Try.prog 26 #[.pointer (some ⟨P, 0, none⟩)] w fun r w' => r = .returned (.bool (decide (st = 2))) ∧ w' = w := by
  match st, hst with
  | 0, _ => exact pDone_x hS k t ep _ _ _ hk
  | 1, _ => exact pDone_x hS k t ep _ _ _ hk
  | 2, _ => exact pDone_nil hS k t ep hk

theorem pNew_any (hS : Sx bs w0 w l e) (t : Int) : Calls Try.prog 21 #[.int .i64 t] w fun r w' => ∃ P, r = .returned (.pointer (some ⟨P, 0, none⟩)) ∧ Sx bs w0 w' (l ++ [(P, pinL P t 0 0)]) e := pNew_x hS t

theorem new_x (hS : Sx bs w0 w l e) (c : Um.Cf) (hr : c.r = true) : Calls Try.prog 35 #[(.agg #[.int .i64 (c.t), .int .i64 (c.s), .int .i64 (c.k), .int .i64 (c.g), .int .u64 (c.q : Int)])] w fun r w' => ∃ B C, r = .returned (.tuple #[.pointer (some ⟨B, 0, none⟩), .int .i64 0]) ∧ WordsOk c ⟨fun _ => 0, 0, Um.noT⟩ ∧ Sx bs w0 w' (l ++ [(B, memL c C ⟨fun _ => 0, 0, Um.noT⟩), (C, rowW (fun _ => 0) c.n)]) e := by
  refine (sNew_right c w hr).mono ?_
  rintro r w' ⟨B, C, rfl, h1, h2, hM, hb⟩
  refine ⟨B, C, rfl, hM.wd, hS.adds hb _ (fun p hp => ?_) (fun p hp => ?_) ?_⟩
  · rcases (by simpa using hp : p = (B, memL c C ⟨fun _ => 0, 0, Um.noT⟩) ∨ p = (C, rowW (fun _ => 0) c.n)) with rfl | rfl
    · exact hM.blkB
    · exact hM.blkC
  · rcases (by simpa using hp : p = (B, memL c C ⟨fun _ => 0, 0, Um.noT⟩) ∨ p = (C, rowW (fun _ => 0) c.n)) with rfl | rfl
    · exact h1
    · exact h2
  · simpa using hM.ne

theorem count_x (hS : Sx bs w0 w l e) (i j : Nat) (hi : l[i]? = some (B, memL c C m)) (hj : l[j]? = some (C, rowW m.ws c.n)) (hij : i ≠ j) (hr : c.r = true) (hw : WordsOk c m) : Calls Try.prog 43 #[.pointer (some ⟨B, 0, none⟩)] w fun r w' => r = .returned (.int .i64 m.cnt) ∧ w' = w :=
  mCount_any (hS.mem i j hi hj hij hr hw)

theorem gLater_x {G : Nat} {own oth : Int} {ret : Nat} {later : Bool} (hS : Sx bs w0 w l e) (k : Nat) (hk : l[k]? = some (G, grcL G own ret oth later)) : Calls Try.prog 32 #[.pointer (some ⟨G, 0, none⟩)] w fun r w' => r = .returned (.bool later) ∧ w' = w := gLater_blk (hS.get k hk)

end

end Go.Proofs.Ytjicfonpldobdaa

/-
  The walk of layer 7's first look: a pin, and two graces.
-/
namespace Go.Proofs.Ytjicfonpldobdaa
set_option maxRecDepth 100000
open Go.RowKit Go.Sort

def pc0 : Um.Cf := ⟨3, 1, 1, 0, 0⟩
def pm1 : Um.Mm := Um.mtouch pc0 ⟨fun _ => 0, 0, Um.noT⟩ 4 2 0 0 6
def ps1 : Um.Ps := Um.pstep pc0 1 ⟨pm1, 0, 0⟩
def ps2 : Um.Ps := Um.pstep pc0 1 ps1
def ps3 : Um.Ps := Um.pstep pc0 1 ps2
/-- both graces behind k rounds -/
def gr2 : Nat → Um.Gs × Um.Gs
  | 0 => (⟨ps3.m, Um.goTo 0 0, false⟩, ⟨ps3.m, Um.goTo 0 0, false⟩)
  | k + 1 =>
    let a := Um.gask pc0 0 5 ⟨(gr2 k).2.m, (gr2 k).1.oth, (gr2 k).1.later⟩
    (a, Um.gask pc0 0 6 ⟨a.m, (gr2 k).2.oth, (gr2 k).2.later⟩)
def pm8 : Um.Mm := Um.mtouch pc0 (gr2 5).2.m 1 3 1 0 0
def pm9 : Um.Mm := Um.mtouch pc0 pm8 2 3 1 0 0
def pm10 : Um.Mm := Um.mtouch pc0 pm9 1 3 1 0 0

theorem pc0_r : pc0.r = true := by decide +kernel

theorem gr2_ge : ∀ k, k ≤ 5 → 0 ≤ (gr2 k).1.oth ∧ 0 ≤ (gr2 k).2.oth := by decide +kernel

set_option maxHeartbeats 8000000 in
theorem pAlive_any (w : World) : Calls Try.prog 22 #[] w fun e w' => e = .returned (.bool true) ∧ Below w.heap.size w w' := by
  have hS := Sx.new w
  go_enter Try.func22, Try.ntmps22
  go_wp2_with fail
  refine (new_x hS pc0 pc0_r).mono ?_
  rintro r u ⟨B, C, rfl, hWn, hSn⟩
  clear hS
  have hS := hSn
  clear hSn
  dsimp only [putL, List.set, List.cons_append, List.nil_append] at hS
  have HW0 := hide hWn
  clear hWn
  go_wp2_with fail
  refine (pNew_any hS 1).mono ?_
  rintro r u ⟨P, rfl, hSn⟩
  clear hS
  have hS := hSn
  clear hSn
  dsimp only [putL, List.set, List.cons_append, List.nil_append] at hS
  go_wp2_with fail
  refine (mAdd_x hS 0 1 rfl rfl (by decide) pc0_r (unhide HW0) 2 0 6 (by unfold Um.Word; omega) (by decide) (by decide) pm1 rfl).mono ?_
  rintro r u ⟨rfl, hWn, hSn⟩
  clear hS
  have hS := hSn
  clear hSn
  dsimp only [putL, List.set, List.cons_append, List.nil_append] at hS
  have HW1 := hide hWn
  clear hWn
  go_wp2_with fail
  refine (pStep_any hS 0 1 2 ⟨pm1, 0, 0⟩ ps1 rfl (by decide) rfl rfl rfl (by decide) (by decide) (by decide) pc0_r (unhide HW1) (by decide)).mono ?_
  rintro r u ⟨rfl, hWn, _, hSn⟩
  clear hS
  have hS := hSn
  clear hSn
  dsimp only [putL, List.set, List.cons_append, List.nil_append] at hS
  have HW2 := hide hWn
  clear hWn
  go_wp2_with fail
  refine (pDone_any hS 2 ps1.ep ps1.st (by decide +kernel) rfl).mono ?_
  rintro r u ⟨rfl, rfl⟩
  rw [show decide (ps1.st = 2) = false by decide +kernel]
  go_wp2_with fail
  refine (pStep_any hS 0 1 2 ps1 ps2 rfl (by decide +kernel) rfl rfl rfl (by decide) (by decide) (by decide) pc0_r (unhide HW2) (by decide)).mono ?_
  rintro r u ⟨rfl, hWn, _, hSn⟩
  clear hS
  have hS := hSn
  clear hSn
  dsimp only [putL, List.set, List.cons_append, List.nil_append] at hS
  have HW3 := hide hWn
  clear hWn
  go_wp2_with fail
  refine (pStep_any hS 0 1 2 ps2 ps3 rfl (by decide +kernel) rfl rfl rfl (by decide) (by decide) (by decide) pc0_r (unhide HW3) (by decide)).mono ?_
  rintro r u ⟨rfl, hWn, _, hSn⟩
  clear hS
  have hS := hSn
  clear hSn
  dsimp only [putL, List.set, List.cons_append, List.nil_append] at hS
  have HW4 := hide hWn
  clear hWn
  go_wp2_with fail
  refine (count_x hS 0 1 rfl rfl (by decide) pc0_r (unhide HW4)).mono ?_
  rintro r u ⟨rfl, rfl⟩
  rw [show ps3.m.cnt = 3 by decide +kernel]
  go_wp2_with fail
  refine (gNew_x hS 0 5).mono ?_
  rintro r u ⟨G, rfl, hSn⟩
  clear hS
  have hS := hSn
  clear hSn
  dsimp only [putL, List.set, List.cons_append, List.nil_append] at hS
  go_wp2_with fail
  refine (gNew_x hS 0 6).mono ?_
  rintro r u ⟨H, rfl, hSn⟩
  clear hS
  have hS := hSn
  clear hSn
  dsimp only [putL, List.set, List.cons_append, List.nil_append] at hS
  go_wp2_with fail
  go_loopw [50] (fun i wr => ∃ j : Nat, j ≤ 5 ∧ i = .int .i64 j ∧ Hid (WordsOk pc0 (gr2 j).2.m) ∧ Hid (Sx [] w wr [(B, memL pc0 C (gr2 j).2.m), (C, rowW (gr2 j).2.m.ws pc0.n), (P, pinL P 1 ps3.ep ps3.st), (G, grcL G 0 5 (gr2 j).1.oth (gr2 j).1.later), (H, grcL H 0 6 (gr2 j).2.oth (gr2 j).2.later)] [])) (fun i _ => 5 - (intOf i).toNat)
  case atStart => exact ⟨0, by decide, rfl, HW4, hS⟩
  case round =>
    clear hS HW0 HW1 HW2 HW3 HW4
    rename_i wr
    obtain ⟨j, hj, rfl, HW, HS⟩ := hrel
    have hS := unhide HS
    clear HS
    by_cases hlt : j < 5
    · have hlti : (j : Int) < 5 := by omega
      have HG := hide (gr2_ge j hj)
      go_wp2_with fail
      refine (gStep_x hS 0 1 3 ⟨(gr2 j).2.m, (gr2 j).1.oth, (gr2 j).1.later⟩ (gr2 (j + 1)).1 rfl rfl rfl (by decide) (by decide) (by decide) pc0_r (unhide HW) (unhide HG).1 rfl).mono ?_
      rintro r u ⟨rfl, hWn, hSn⟩
      clear hS
      have hS := hSn
      clear hSn
      dsimp only [putL, List.set, List.cons_append, List.nil_append] at hS
      have HW5 := hide hWn
      clear hWn
      go_wp2_with fail
      refine (gStep_x hS 0 1 4 ⟨(gr2 (j + 1)).1.m, (gr2 j).2.oth, (gr2 j).2.later⟩ (gr2 (j + 1)).2 rfl rfl rfl (by decide) (by decide) (by decide) pc0_r (unhide HW5) (unhide HG).2 rfl).mono ?_
      rintro r u ⟨rfl, hWn, hSn⟩
      clear hS
      have hS := hSn
      clear hSn
      dsimp only [putL, List.set, List.cons_append, List.nil_append] at hS
      have HW6 := hide hWn
      clear hWn
      have HS6 := hide hS
      clear hS
      go_wp2
      exact ⟨⟨j + 1, by omega, by go_num, HW6, HS6⟩, by simp [intOf]; omega⟩
    · obtain rfl : j = 5 := by omega
      go_wp2_with fail
      refine (count_x hS 0 1 rfl rfl (by decide) pc0_r (unhide HW)).mono ?_
      rintro r u ⟨rfl, rfl⟩
      rw [show (gr2 5).2.m.cnt = 6 by decide +kernel]
      go_wp2_with fail
      refine (mLoad_x hS 0 1 rfl rfl (by decide) pc0_r (unhide HW) 3 1 (by decide) (by decide) pm8 rfl).mono ?_
      rintro r u ⟨rfl, hWn, hSn⟩
      clear hS
      have hS := hSn
      clear hSn
      dsimp only [putL, List.set, List.cons_append, List.nil_append] at hS
      have HW8 := hide hWn
      clear hWn
      rw [show pm8.l.old = 7 by decide +kernel]
      go_wp2_with fail
      refine (pLeave_x hS 0 1 rfl rfl (by decide) pc0_r (unhide HW8) 1 (by decide) pm9 rfl).mono ?_
      rintro r u ⟨rfl, hWn, hSn⟩
      clear hS
      have hS := hSn
      clear hSn
      dsimp only [putL, List.set, List.cons_append, List.nil_append] at hS
      have HW9 := hide hWn
      clear hWn
      go_wp2_with fail
      refine (pDone_any hS 2 ps3.ep ps3.st (by decide +kernel) rfl).mono ?_
      rintro r u ⟨rfl, rfl⟩
      rw [show decide (ps3.st = 2) = true by decide +kernel]
      go_wp2_with fail
      refine (gDone_x hS 0 1 3 rfl rfl (by decide) pc0_r (unhide HW9) rfl).mono ?_
      rintro r u ⟨rfl, hb⟩
      replace hS := hS.call hb
      clear hb
      rw [show Um.gdone pc0 (gr2 5).1.oth (gr2 5).1.later = true by decide +kernel]
      go_wp2_with fail
      refine (gDone_x hS 0 1 4 rfl rfl (by decide) pc0_r (unhide HW9) rfl).mono ?_
      rintro r u ⟨rfl, hb⟩
      replace hS := hS.call hb
      clear hb
      rw [show Um.gdone pc0 (gr2 5).2.oth (gr2 5).2.later = true by decide +kernel]
      go_wp2_with fail
      refine (gLater_x hS 3 rfl).mono ?_
      rintro r u ⟨rfl, rfl⟩
      rw [show (gr2 5).1.later = false by decide +kernel]
      go_wp2_with fail
      refine (gLater_x hS 4 rfl).mono ?_
      rintro r u ⟨rfl, rfl⟩
      rw [show (gr2 5).2.later = true by decide +kernel]
      go_wp2_with fail
      refine (mLoad_x hS 0 1 rfl rfl (by decide) pc0_r (unhide HW9) 3 1 (by decide) (by decide) pm10 rfl).mono ?_
      rintro r u ⟨rfl, hWn, hSn⟩
      clear hS
      have hS := hSn
      clear hSn
      dsimp only [putL, List.set, List.cons_append, List.nil_append] at hS
      have HW10 := hide hWn
      clear hWn
      rw [show pm10.l.old = 0 by decide +kernel]
      have hB := hS.bel
      clear hS
      go_wp2
      go_ret
      exact ⟨rfl, hB⟩

end Go.Proofs.Ytjicfonpldobdaa

/-
  A region that draws its order: one obligation an operation; the frame as a list, its own slots written over. No program in sight.
-/
namespace Go.Proofs.Ytjicfonpldobdaa
set_option maxRecDepth 100000
open Go.RowKit

theorem wp_region_ogt {P : Program} {ops : Array Oper} {Q : Exit → Act → World → Prop} {id : Nat} {ts : List Value} {w : World} (J : List Value → (Nat → Bool) → List Value → World → Prop) (hm : P.follows .mixedOrders = true)
    (hac : acycB .any ops = true)
    (h0 : J ts (fun _ => false) ts w.drew)
    (hst : ∀ (i : Nat) (o : Oper), ops[i]? = some o → ∀ D ts' w, D i = false → (∀ e ∈ o.after, Region.binds .any e = true → D e.on = true) → J ts D ts' w → wpOp P ops Q i (fun a' w' => ∃ ts'', a' = ⟨List.toArray ts'', []⟩ ∧ J ts (fun j => j == i || D j) ts'' w') ⟨List.toArray ts', []⟩ w)
    (hen : ∀ D ts' w, (∀ i, i < ops.size → D i = true) → J ts D ts' w → Q .normal ⟨List.toArray ts', []⟩ w) : (Code.region id ops true).wp P Q ⟨List.toArray ts, []⟩ w := by
  refine wp_region_og (fun D a' w' => ∃ ts', a' = ⟨List.toArray ts', []⟩ ∧ J ts D ts' w') hm (fun i o hi e he hb => og_acyc hac hi he hb) ⟨ts, rfl, h0⟩ ?_ ?_
  · rintro i o hi D a w hD hp ⟨ts', rfl, hJ⟩
    exact hst i o hi D ts' w hD hp hJ
  · rintro D a w hall ⟨ts', rfl, hJ⟩
    exact hen D ts' w hall hJ

theorem list4_eq {a a' b b' c c' d d' : Value} (h1 : a = a') (h2 : b = b') (h3 : c = c') (h4 : d = d') : [a, b, c, d] = [a', b', c', d'] := by rw [h1, h2, h3, h4]
theorem list3_eq {a a' b b' c c' : Value} (h1 : a = a') (h2 : b = b') (h3 : c = c') : [a, b, c] = [a', b', c'] := by rw [h1, h2, h3]

/-- a block's letter, to be named -/
theorem nameB {bs : List Nat} {w0 w : World} {l e : List (Nat × List Value)} (_ : Sx bs w0 w l e) (k : Nat) {b : Nat} {cs : List Value} (_ : l[k]? = some (b, cs)) : ∃ b', b' = b := ⟨b, rfl⟩

theorem nameW {bs : List Nat} {w0 w : World} {l e : List (Nat × List Value)} (_ : Sx bs w0 w l e) : ∃ u, u = w := ⟨w, rfl⟩

/-- slots written over -/
def putS (ts : List Value) : List (Nat × Value) → List Value
  | [] => ts
  | u :: r => putS (ts.set u.1 u.2) r

end Go.Proofs.Ytjicfonpldobdaa

/-
  The walk of what is written meanwhile: into the program's words, and into the document's.
-/
namespace Go.Proofs.Ytjicfonpldobdaa
set_option maxRecDepth 100000
open Go.RowKit Go.Sort

/-- a memory behind what is due ahead of a step -/
def poked (c : Um.Cf) (Z : Nat → Pok) (k : Nat) (m : Um.Mm) : Nat → Um.Mm
  | 0 => m
  | j + 1 => if (Z j).st = (k : Int) then Um.mtouch c (poked c Z k m j) 2 (Z j).k (Z j).a 0 (Z j).v else poked c Z k m j

theorem Turn.cell {bs : List Nat} {w w' : World} (h : Turn bs w w') {p : Addr} (h0 : p.block < w.heap.size) (h1 : p.block ∉ bs) : w'.cell? p = w.cell? p := World.cell?_of_block (w := w) (h.block p.block h0 h1)

theorem PokesAt.turn {bs : List Nat} {w w' : World} {la : Option Addr} {nl : Nat} {Z : Nat → Pok} (h : PokesAt w la nl Z) (t : Turn bs w w') (hn : nl ≠ 0 → ∀ lb off, la = some ⟨lb, off, none⟩ → lb ∉ bs) : PokesAt w' la nl Z := by
  by_cases hn0 : nl = 0
  · exact .inl hn0
  rcases h with h0 | ⟨lb, off, rfl, hlb, hZ⟩
  · exact .inl h0
  · refine .inr ⟨lb, off, rfl, Nat.lt_of_lt_of_le hlb t.size, fun i hi => ?_⟩
    obtain ⟨⟨a1, a2, a3, a4⟩, h5⟩ := hZ i hi
    have e : ∀ o, w'.cell? ⟨lb, o, none⟩ = w.cell? ⟨lb, o, none⟩ := fun o => t.cell hlb (hn hn0 lb off rfl)
    exact ⟨⟨(e _).trans a1, (e _).trans a2, (e _).trans a3, (e _).trans a4⟩, h5⟩

/-- what was handed in is none of the call's own blocks -/
theorem PokesAt.apart {w wr : World} {l e : List (Nat × List Value)} {la : Option Addr} {nl : Nat} {Z : Nat → Pok} (h : PokesAt w la nl Z) (hS : Sx [] w wr l e) (i j : Nat) {B C : Nat} {c1 c2 : List Value} (hi : l[i]? = some (B, c1)) (hj : l[j]? = some (C, c2)) : nl ≠ 0 → ∀ lb off, la = some ⟨lb, off, none⟩ → lb ∉ [B, C] := by
  intro hn lb off hla hm
  rcases h with h0 | ⟨lb', off', e, hlb, _⟩
  · exact hn h0
  · rw [hla] at e
    simp only [Option.some.injEq, Addr.mk.injEq] at e
    obtain ⟨rfl, _⟩ := e
    have h1 := (hS.low _ (List.mem_of_getElem? hi)).resolve_left (by simp)
    have h2 := (hS.low _ (List.mem_of_getElem? hj)).resolve_left (by simp)
    rcases (by simpa using hm : lb = B ∨ lb = C) with rfl | rfl
    · exact Nat.lt_irrefl _ (Nat.lt_of_lt_of_le hlb h1)
    · exact Nat.lt_irrefl _ (Nat.lt_of_lt_of_le hlb h2)

section
variable {bs : List Nat} {w0 w : World} {l e : List (Nat × List Value)} {B C g cg : Nat} {c : Um.Cf} {m : Um.Mm}

set_option maxHeartbeats 8000000 in
theorem poked_x (hS : Sx bs w0 w l e) (i1 i2 i3 : Nat) (hi : l[i1]? = some (B, memL c C m)) (hj : l[i2]? = some (C, rowW m.ws c.n)) (hij : i1 ≠ i2) (hk : e[i3]? = some (g, rowW m.ws c.n)) (hr : c.r = true) (hw : WordsOk c m) (h1 : c.n ≤ cg) (h2 : cg ≤ maxLen)
    (la : Option Addr) (nl cl : Nat) (Z : Nat → Pok) (hnl : nl ≤ 30) (hcl : nl ≤ cl) (hP : PokesAt w la nl Z) (hB : nl ≠ 0 → ∀ lb off, la = some ⟨lb, off, none⟩ → lb ∉ [B, C]) (k : Nat) (M : Um.Mm) (hM : M = poked c Z k m nl) :
    Calls Try.prog 23 #[.pointer (some ⟨B, 0, none⟩), (.agg #[.int .i64 c.t, .int .i64 c.s, .int .i64 c.k, .int .i64 c.g, .int .u64 c.q, (.slice (some ⟨g, 0, none⟩) c.n cg), .int .i64 m.cnt, .int .i64 m.l.kind, .int .i64 m.l.a, .int .i64 m.l.b, .int .u64 (m.l.old : Nat), .int .u64 (m.l.new : Nat), .bool m.l.done]), .slice la nl cl, .int .i64 k] w fun r w' => ∃ g' cg', r = .returned ((.agg #[.int .i64 c.t, .int .i64 c.s, .int .i64 c.k, .int .i64 c.g, .int .u64 c.q, (.slice (some ⟨g', 0, none⟩) c.n cg'), .int .i64 M.cnt, .int .i64 M.l.kind, .int .i64 M.l.a, .int .i64 M.l.b, .int .u64 (M.l.old : Nat), .int .u64 (M.l.new : Nat), .bool M.l.done])) ∧ c.n ≤ cg' ∧ cg' ≤ maxLen ∧ WordsOk c M ∧ Sx bs w0 w' (putL l [(i1, B, memL c C M), (i2, C, rowW M.ws c.n)]) (e.set i3 (g', rowW M.ws c.n)) := by
  have HS := hide hS
  have HI := hide (And.intro hi (And.intro hj hk))
  have hL := hS.enter [(B, memL c C m), (C, rowW m.ws c.n)] [(g, rowW m.ws c.n)] (fun p hp => by
      rcases (by simpa using hp : p = (B, memL c C m) ∨ p = (C, rowW m.ws c.n)) with rfl | rfl
      · exact List.mem_of_getElem? hi
      · exact List.mem_of_getElem? hj) (by have := hS.ne i1 i2 hi hj hij; simp [this]) (fun p hp => by
      obtain rfl : p = _ := by simpa using hp
      exact List.mem_of_getElem? hk)
  have HR := hide hr
  have HW0 := hide hw
  have HM := hide hM
  have HP := hide hP
  have HB := hide hB
  clear hS hi hj hij hk hr hw hM hP hB
  have hS : Sx [B, C] w w [(B, memL c C m), (C, rowW m.ws c.n)] [(g, rowW m.ws c.n)] := hL
  clear hL
  go_enter Try.func23, Try.ntmps23
  go_wp2_with (first | (refine wpx_box hS rfl _ _ rfl _ rfl _ (by intro _; simp only [Act.put, List.setIfInBounds_toArray, List.set_cons_zero, List.set_cons_succ]; first | done | exact rfl) ?_; clear hS; intro _ _ hS; dsimp only [blit, List.set, List.cons_append, List.nil_append, Value.cells, List.toList_toArray] at hS) | (refine wpx_alloc hS rfl _ rfl _ (zer_any2 rfl) _ (by intro _; simp only [Act.put, List.setIfInBounds_toArray, List.set_cons_zero, List.set_cons_succ]; first | done | exact rfl) ?_; clear hS; intro _ _ hS; dsimp only [blit, List.set, List.cons_append, List.nil_append, Value.cells, List.toList_toArray] at hS) | (refine wpx_ld hS rfl _ _ rfl _ _ rfl ?_; (first | refine ⟨0, _, rfl, ?_⟩ | refine ⟨1, _, rfl, ?_⟩ | refine ⟨2, _, rfl, ?_⟩ | refine ⟨3, _, rfl, ?_⟩ | refine ⟨4, _, rfl, ?_⟩ | refine ⟨5, _, rfl, ?_⟩ | refine ⟨6, _, rfl, ?_⟩ | refine ⟨7, _, rfl, ?_⟩ | refine ⟨8, _, rfl, ?_⟩ | refine ⟨9, _, rfl, ?_⟩); first | refine .inl ⟨_, one_any2 rfl, rfl, _, (by simp only [Act.put, List.setIfInBounds_toArray, List.set_cons_zero, List.set_cons_succ]; first | done | exact rfl), ?_⟩ | refine .inr ⟨_, _, row_any2 rfl, rfl, (by dsimp only [cutL, List.drop, List.take]; first | done | exact rfl), _, (by simp only [Act.put, List.setIfInBounds_toArray, List.set_cons_zero, List.set_cons_succ]; first | done | exact rfl), ?_⟩) | (refine wpx_st hS rfl _ _ _ rfl rfl _ _ rfl ?_; (first | refine ⟨0, _, rfl, ?_⟩ | refine ⟨1, _, rfl, ?_⟩ | refine ⟨2, _, rfl, ?_⟩ | refine ⟨3, _, rfl, ?_⟩ | refine ⟨4, _, rfl, ?_⟩ | refine ⟨5, _, rfl, ?_⟩ | refine ⟨6, _, rfl, ?_⟩ | refine ⟨7, _, rfl, ?_⟩ | refine ⟨8, _, rfl, ?_⟩ | refine ⟨9, _, rfl, ?_⟩); refine ⟨_, (by first | exact shA rfl | exact shI rfl | exact shB rfl | exact shS rfl | exact shP rfl | exact shF rfl | exact shN rfl), _, siz_any2 rfl, (by exact rfl), (by exact rfl), (by exact rfl), ?_⟩; clear hS; intro _ hS; dsimp only [blit, List.set, List.cons_append, List.nil_append, Value.cells, List.toList_toArray] at hS))
  obtain ⟨RB, rfl⟩ := nameB hS 2 rfl
  obtain ⟨RR, rfl⟩ := nameB hS 3 rfl
  go_loopw [13] (fun i wr => ∃ (j : Nat) (gj cgj : Nat), j ≤ nl ∧ i = .int .i64 j ∧ c.n ≤ cgj ∧ cgj ≤ maxLen ∧ Hid (Fr w g gj) ∧ Hid (WordsOk c (poked c Z k m j)) ∧ Hid (Sx [B, C] w wr [(B, memL c C (poked c Z k m j)), (C, rowW (poked c Z k m j).ws c.n), (RB, [.int .i64 c.t, .int .i64 c.s, .int .i64 c.k, .int .i64 c.g, .int .u64 c.q, (.slice (some ⟨gj, 0, none⟩) c.n cgj), .int .i64 (poked c Z k m j).cnt, .int .i64 (poked c Z k m j).l.kind, .int .i64 (poked c Z k m j).l.a, .int .i64 (poked c Z k m j).l.b, .int .u64 ((poked c Z k m j).l.old : Nat), .int .u64 ((poked c Z k m j).l.new : Nat), .bool (poked c Z k m j).l.done]), (RR, [.int .i64 0, .int .i64 0, .int .i64 0, .int .i64 0, .int .u64 0, .slice none 0 0, .int .i64 0, .int .i64 0, .int .i64 0, .int .i64 0, .int .u64 0, .int .u64 0, .bool false])] [(gj, rowW (poked c Z k m j).ws c.n)])) (fun i _ => nl - (intOf i).toNat)
  case atStart => exact ⟨0, g, cg, Nat.zero_le _, rfl, h1, h2, hide (Fr.refl w g), HW0, hS⟩
  case round =>
    clear hS HW0 h1 h2
    rename_i wr
    obtain ⟨j, gj, cgj, hj, rfl, h1, h2, HF, HW, HS3⟩ := hrel
    have hS := unhide HS3
    clear HS3
    by_cases hlt : j < nl
    · have hlti : (j : Int) < (nl : Int) := by omega
      have hP2 := (unhide HP).turn hS.off (unhide HB)
      rcases hP2 with h0 | ⟨lb, off, rfl, hlb, hZ⟩
      · omega
      obtain ⟨⟨z0, z1, z2, z3⟩, ⟨hb0, hb1⟩, hx⟩ := hZ j hlt
      clear hZ HP HB
      have HBD := hide (And.intro hb0 hb1)
      have HX := hide hx
      rw [← Nat.add_assoc] at z1 z2 z3
      clear hb0 hb1 hx
      by_cases e1 : (Z j).st = (k : Int)
      · have HE : Hid (poked c Z k m (j + 1) = Um.mtouch c (poked c Z k m j) 2 (Z j).k (Z j).a 0 (Z j).v) := hide (by show (if (Z j).st = (k : Int) then _ else _) = _; rw [if_pos e1])
        rw [e1] at z0
        clear e1
        generalize (Z j).k = kd at *
        generalize (Z j).a = a at *
        generalize (Z j).v = x at *
        go_wp2_with (first | (refine wpx_box hS rfl _ _ rfl _ rfl _ (by intro _; simp only [Act.put, List.setIfInBounds_toArray, List.set_cons_zero, List.set_cons_succ]; first | done | exact rfl) ?_; clear hS; intro _ _ hS; dsimp only [blit, List.set, List.cons_append, List.nil_append, Value.cells, List.toList_toArray] at hS) | (refine wpx_alloc hS rfl _ rfl _ (zer_any2 rfl) _ (by intro _; simp only [Act.put, List.setIfInBounds_toArray, List.set_cons_zero, List.set_cons_succ]; first | done | exact rfl) ?_; clear hS; intro _ _ hS; dsimp only [blit, List.set, List.cons_append, List.nil_append, Value.cells, List.toList_toArray] at hS) | (refine wpx_ld hS rfl _ _ rfl _ _ rfl ?_; (first | refine ⟨0, _, rfl, ?_⟩ | refine ⟨1, _, rfl, ?_⟩ | refine ⟨2, _, rfl, ?_⟩ | refine ⟨3, _, rfl, ?_⟩ | refine ⟨4, _, rfl, ?_⟩ | refine ⟨5, _, rfl, ?_⟩ | refine ⟨6, _, rfl, ?_⟩ | refine ⟨7, _, rfl, ?_⟩ | refine ⟨8, _, rfl, ?_⟩ | refine ⟨9, _, rfl, ?_⟩); first | refine .inl ⟨_, one_any2 rfl, rfl, _, (by simp only [Act.put, List.setIfInBounds_toArray, List.set_cons_zero, List.set_cons_succ]; first | done | exact rfl), ?_⟩ | refine .inr ⟨_, _, row_any2 rfl, rfl, (by dsimp only [cutL, List.drop, List.take]; first | done | exact rfl), _, (by simp only [Act.put, List.setIfInBounds_toArray, List.set_cons_zero, List.set_cons_succ]; first | done | exact rfl), ?_⟩) | (refine wpx_st hS rfl _ _ _ rfl rfl _ _ rfl ?_; (first | refine ⟨0, _, rfl, ?_⟩ | refine ⟨1, _, rfl, ?_⟩ | refine ⟨2, _, rfl, ?_⟩ | refine ⟨3, _, rfl, ?_⟩ | refine ⟨4, _, rfl, ?_⟩ | refine ⟨5, _, rfl, ?_⟩ | refine ⟨6, _, rfl, ?_⟩ | refine ⟨7, _, rfl, ?_⟩ | refine ⟨8, _, rfl, ?_⟩ | refine ⟨9, _, rfl, ?_⟩); refine ⟨_, (by first | exact shA rfl | exact shI rfl | exact shB rfl | exact shS rfl | exact shP rfl | exact shF rfl | exact shN rfl), _, siz_any2 rfl, (by exact rfl), (by exact rfl), (by exact rfl), ?_⟩; clear hS; intro _ hS; dsimp only [blit, List.set, List.cons_append, List.nil_append, Value.cells, List.toList_toArray] at hS))
        refine (mStore_x hS 0 1 rfl rfl (by decide) (unhide HR) (unhide HW) kd a x (unhide HX) (unhide HBD).1 (unhide HBD).2 (poked c Z k m (j + 1)) (unhide HE)).mono ?_
        rintro r u ⟨rfl, hWn, hSn⟩
        clear hS
        have hS := hSn
        clear hSn
        dsimp only [putL, List.set, List.cons_append, List.nil_append] at hS
        have HW5 := hide hWn
        clear hWn
        clear z0 z1 z2 z3
        have hSz := hS.size
        go_wp2_with (first | (refine wpx_box hS rfl _ _ rfl _ rfl _ (by intro _; simp only [Act.put, List.setIfInBounds_toArray, List.set_cons_zero, List.set_cons_succ]; first | done | exact rfl) ?_; clear hS; intro _ _ hS; dsimp only [blit, List.set, List.cons_append, List.nil_append, Value.cells, List.toList_toArray] at hS) | (refine wpx_alloc hS rfl _ rfl _ (zer_any2 rfl) _ (by intro _; simp only [Act.put, List.setIfInBounds_toArray, List.set_cons_zero, List.set_cons_succ]; first | done | exact rfl) ?_; clear hS; intro _ _ hS; dsimp only [blit, List.set, List.cons_append, List.nil_append, Value.cells, List.toList_toArray] at hS) | (refine wpx_ld hS rfl _ _ rfl _ _ rfl ?_; (first | refine ⟨0, _, rfl, ?_⟩ | refine ⟨1, _, rfl, ?_⟩ | refine ⟨2, _, rfl, ?_⟩ | refine ⟨3, _, rfl, ?_⟩ | refine ⟨4, _, rfl, ?_⟩ | refine ⟨5, _, rfl, ?_⟩ | refine ⟨6, _, rfl, ?_⟩ | refine ⟨7, _, rfl, ?_⟩ | refine ⟨8, _, rfl, ?_⟩ | refine ⟨9, _, rfl, ?_⟩); first | refine .inl ⟨_, one_any2 rfl, rfl, _, (by simp only [Act.put, List.setIfInBounds_toArray, List.set_cons_zero, List.set_cons_succ]; first | done | exact rfl), ?_⟩ | refine .inr ⟨_, _, row_any2 rfl, rfl, (by dsimp only [cutL, List.drop, List.take]; first | done | exact rfl), _, (by simp only [Act.put, List.setIfInBounds_toArray, List.set_cons_zero, List.set_cons_succ]; first | done | exact rfl), ?_⟩) | (refine wpx_st hS rfl _ _ _ rfl rfl _ _ rfl ?_; (first | refine ⟨0, _, rfl, ?_⟩ | refine ⟨1, _, rfl, ?_⟩ | refine ⟨2, _, rfl, ?_⟩ | refine ⟨3, _, rfl, ?_⟩ | refine ⟨4, _, rfl, ?_⟩ | refine ⟨5, _, rfl, ?_⟩ | refine ⟨6, _, rfl, ?_⟩ | refine ⟨7, _, rfl, ?_⟩ | refine ⟨8, _, rfl, ?_⟩ | refine ⟨9, _, rfl, ?_⟩); refine ⟨_, (by first | exact shA rfl | exact shI rfl | exact shB rfl | exact shS rfl | exact shP rfl | exact shF rfl | exact shN rfl), _, siz_any2 rfl, (by exact rfl), (by exact rfl), (by exact rfl), ?_⟩; clear hS; intro _ hS; dsimp only [blit, List.set, List.cons_append, List.nil_append, Value.cells, List.toList_toArray] at hS))
        have hSz2 := hS.size
        refine (rStore_x hS 0 rfl (unhide HR) (unhide HW) h1 h2 kd a x (unhide HX) (poked c Z k m (j + 1)) (unhide HE)).mono ?_
        rintro r u ⟨gn, cgn, rfl, q1, q2, hFr, hWn, hSn⟩
        clear hS
        have hS := hSn
        clear hSn
        dsimp only [putL, List.set, List.cons_append, List.nil_append] at hS
        have HW6 := hide hWn
        clear hWn
        go_wp2_with (refine wpx_st hS rfl _ _ _ rfl rfl _ _ rfl ?_; (first | refine ⟨0, _, rfl, ?_⟩ | refine ⟨1, _, rfl, ?_⟩ | refine ⟨2, _, rfl, ?_⟩ | refine ⟨3, _, rfl, ?_⟩ | refine ⟨4, _, rfl, ?_⟩ | refine ⟨5, _, rfl, ?_⟩ | refine ⟨6, _, rfl, ?_⟩ | refine ⟨7, _, rfl, ?_⟩ | refine ⟨8, _, rfl, ?_⟩ | refine ⟨9, _, rfl, ?_⟩); refine ⟨_, (by first | exact shA rfl | exact shI rfl | exact shB rfl | exact shS rfl | exact shP rfl | exact shF rfl | exact shN rfl), _, siz_any2 rfl, (by exact rfl), (by exact rfl), (by exact rfl), ?_⟩; clear hS; intro _ hS; dsimp only [blit, List.set, List.cons_append, List.nil_append, Value.cells, List.toList_toArray] at hS)
        replace hS := hS.take 4
        dsimp only [List.take] at hS
        have HF6 := hide ((unhide HF).trans hFr hSz2)
        have HS6 := hide hS
        clear hS
        go_wp2
        exact ⟨⟨j + 1, gn, cgn, by omega, by go_num, q1, q2, HF6, HW6, HS6⟩, by simp [intOf]; omega⟩
      · have HE : poked c Z k m (j + 1) = poked c Z k m j := by show (if (Z j).st = (k : Int) then _ else _) = _; rw [if_neg e1]
        rw [← HE] at hS HW
        clear HE
        generalize (Z j).st = sj at *
        have e2 : (sj == (k : Int)) = false := by simpa using e1
        clear e1
        generalize (Z j).k = kd at *
        generalize (Z j).a = a at *
        generalize (Z j).v = x at *
        go_wp2_with (first | (refine wpx_box hS rfl _ _ rfl _ rfl _ (by intro _; simp only [Act.put, List.setIfInBounds_toArray, List.set_cons_zero, List.set_cons_succ]; first | done | exact rfl) ?_; clear hS; intro _ _ hS; dsimp only [blit, List.set, List.cons_append, List.nil_append, Value.cells, List.toList_toArray] at hS) | (refine wpx_alloc hS rfl _ rfl _ (zer_any2 rfl) _ (by intro _; simp only [Act.put, List.setIfInBounds_toArray, List.set_cons_zero, List.set_cons_succ]; first | done | exact rfl) ?_; clear hS; intro _ _ hS; dsimp only [blit, List.set, List.cons_append, List.nil_append, Value.cells, List.toList_toArray] at hS) | (refine wpx_ld hS rfl _ _ rfl _ _ rfl ?_; (first | refine ⟨0, _, rfl, ?_⟩ | refine ⟨1, _, rfl, ?_⟩ | refine ⟨2, _, rfl, ?_⟩ | refine ⟨3, _, rfl, ?_⟩ | refine ⟨4, _, rfl, ?_⟩ | refine ⟨5, _, rfl, ?_⟩ | refine ⟨6, _, rfl, ?_⟩ | refine ⟨7, _, rfl, ?_⟩ | refine ⟨8, _, rfl, ?_⟩ | refine ⟨9, _, rfl, ?_⟩); first | refine .inl ⟨_, one_any2 rfl, rfl, _, (by simp only [Act.put, List.setIfInBounds_toArray, List.set_cons_zero, List.set_cons_succ]; first | done | exact rfl), ?_⟩ | refine .inr ⟨_, _, row_any2 rfl, rfl, (by dsimp only [cutL, List.drop, List.take]; first | done | exact rfl), _, (by simp only [Act.put, List.setIfInBounds_toArray, List.set_cons_zero, List.set_cons_succ]; first | done | exact rfl), ?_⟩) | (refine wpx_st hS rfl _ _ _ rfl rfl _ _ rfl ?_; (first | refine ⟨0, _, rfl, ?_⟩ | refine ⟨1, _, rfl, ?_⟩ | refine ⟨2, _, rfl, ?_⟩ | refine ⟨3, _, rfl, ?_⟩ | refine ⟨4, _, rfl, ?_⟩ | refine ⟨5, _, rfl, ?_⟩ | refine ⟨6, _, rfl, ?_⟩ | refine ⟨7, _, rfl, ?_⟩ | refine ⟨8, _, rfl, ?_⟩ | refine ⟨9, _, rfl, ?_⟩); refine ⟨_, (by first | exact shA rfl | exact shI rfl | exact shB rfl | exact shS rfl | exact shP rfl | exact shF rfl | exact shN rfl), _, siz_any2 rfl, (by exact rfl), (by exact rfl), (by exact rfl), ?_⟩; clear hS; intro _ hS; dsimp only [blit, List.set, List.cons_append, List.nil_append, Value.cells, List.toList_toArray] at hS))
        replace hS := hS.take 4
        dsimp only [List.take] at hS
        have HF6 := hide (unhide HF)
        have HS6 := hide hS
        clear hS
        go_wp2
        exact ⟨⟨j + 1, gj, cgj, by omega, by go_num, h1, h2, HF6, HW, HS6⟩, by simp [intOf]; omega⟩
    · obtain rfl : j = nl := by omega
      have HWe := HW
      rw [← unhide HM] at hS HWe
      go_wp2_with (first | (refine wpx_box hS rfl _ _ rfl _ rfl _ (by intro _; simp only [Act.put, List.setIfInBounds_toArray, List.set_cons_zero, List.set_cons_succ]; first | done | exact rfl) ?_; clear hS; intro _ _ hS; dsimp only [blit, List.set, List.cons_append, List.nil_append, Value.cells, List.toList_toArray] at hS) | (refine wpx_alloc hS rfl _ rfl _ (zer_any2 rfl) _ (by intro _; simp only [Act.put, List.setIfInBounds_toArray, List.set_cons_zero, List.set_cons_succ]; first | done | exact rfl) ?_; clear hS; intro _ _ hS; dsimp only [blit, List.set, List.cons_append, List.nil_append, Value.cells, List.toList_toArray] at hS) | (refine wpx_ld hS rfl _ _ rfl _ _ rfl ?_; (first | refine ⟨0, _, rfl, ?_⟩ | refine ⟨1, _, rfl, ?_⟩ | refine ⟨2, _, rfl, ?_⟩ | refine ⟨3, _, rfl, ?_⟩ | refine ⟨4, _, rfl, ?_⟩ | refine ⟨5, _, rfl, ?_⟩ | refine ⟨6, _, rfl, ?_⟩ | refine ⟨7, _, rfl, ?_⟩ | refine ⟨8, _, rfl, ?_⟩ | refine ⟨9, _, rfl, ?_⟩); first | refine .inl ⟨_, one_any2 rfl, rfl, _, (by simp only [Act.put, List.setIfInBounds_toArray, List.set_cons_zero, List.set_cons_succ]; first | done | exact rfl), ?_⟩ | refine .inr ⟨_, _, row_any2 rfl, rfl, (by dsimp only [cutL, List.drop, List.take]; first | done | exact rfl), _, (by simp only [Act.put, List.setIfInBounds_toArray, List.set_cons_zero, List.set_cons_succ]; first | done | exact rfl), ?_⟩) | (refine wpx_st hS rfl _ _ _ rfl rfl _ _ rfl ?_; (first | refine ⟨0, _, rfl, ?_⟩ | refine ⟨1, _, rfl, ?_⟩ | refine ⟨2, _, rfl, ?_⟩ | refine ⟨3, _, rfl, ?_⟩ | refine ⟨4, _, rfl, ?_⟩ | refine ⟨5, _, rfl, ?_⟩ | refine ⟨6, _, rfl, ?_⟩ | refine ⟨7, _, rfl, ?_⟩ | refine ⟨8, _, rfl, ?_⟩ | refine ⟨9, _, rfl, ?_⟩); refine ⟨_, (by first | exact shA rfl | exact shI rfl | exact shB rfl | exact shS rfl | exact shP rfl | exact shF rfl | exact shN rfl), _, siz_any2 rfl, (by exact rfl), (by exact rfl), (by exact rfl), ?_⟩; clear hS; intro _ hS; dsimp only [blit, List.set, List.cons_append, List.nil_append, Value.cells, List.toList_toArray] at hS))
      have hY := hS.get 3 rfl
      refine bodyPost_ret (v := (.agg #[.int .i64 c.t, .int .i64 c.s, .int .i64 c.k, .int .i64 c.g, .int .u64 c.q, (.slice (some ⟨gj, 0, none⟩) c.n cgj), .int .i64 M.cnt, .int .i64 M.l.kind, .int .i64 M.l.a, .int .i64 M.l.b, .int .u64 (M.l.old : Nat), .int .u64 (M.l.new : Nat), .bool M.l.done])) (by simp [results, Try.results23, go_sem, hY.cell 0 _ rfl, hY.cell 1 _ rfl, hY.cell 2 _ rfl, hY.cell 3 _ rfl, hY.cell 4 _ rfl, hY.cell 5 _ rfl, hY.cell 6 _ rfl, hY.cell 7 _ rfl, hY.cell 8 _ rfl, hY.cell 9 _ rfl, hY.cell 10 _ rfl, hY.cell 11 _ rfl, hY.cell 12 _ rfl]) rfl ?_
      refine ⟨gj, cgj, rfl, h1, h2, unhide HWe, (unhide HS).mix [(i1, B, memL c C M), (i2, C, rowW M.ws c.n)] (fun u hu => ?_) hS.off (fun u hu => ?_) i3 (unhide HI).2.2 (unhide HF) (hS.getE 0 rfl)⟩
      · rcases (by simpa using hu : u = (i1, B, memL c C M) ∨ u = (i2, C, rowW M.ws c.n)) with rfl | rfl
        · exact ⟨_, (unhide HI).1⟩
        · exact ⟨_, (unhide HI).2.1⟩
      · rcases (by simpa using hu : u = (i1, B, memL c C M) ∨ u = (i2, C, rowW M.ws c.n)) with rfl | rfl
        · exact hS.get 0 rfl
        · exact hS.get 1 rfl

end

end Go.Proofs.Ytjicfonpldobdaa
