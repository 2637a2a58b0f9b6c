/-
  The walks of the program's pin: a new one, its steps, its leaving.
-/
import Derived.Test.YtjicfonpldobdaaStoreZ
import Derived.Test.YtjicfonpldobdaaPinMath
import Derived.Deep.RegionHeld3
namespace Go.Proofs.Ytjicfonpldobdaa
set_option maxRecDepth 100000
open Go.RowKit Go.Sort

section
variable {bs : List Nat} {w0 w w' : World} {l e : List (Nat × List Value)} {b1 b2 b3 : Nat} {c1 c2 c3 d1 d2 d3 : List Value}

theorem Sx.enter3 (hS : Sx bs w0 w l e) (i j k : Nat) (hi : l[i]? = some (b1, c1)) (hj : l[j]? = some (b2, c2)) (hk : l[k]? = some (b3, c3)) (hij : i ≠ j) (hik : i ≠ k) (hjk : j ≠ k) : Sx [b1, b2, b3] w w [(b1, c1), (b2, c2), (b3, c3)] [] :=
  hS.enter [(b1, c1), (b2, c2), (b3, c3)] [] (fun p hp => by
      rcases (by simpa using hp : p = (b1, c1) ∨ p = (b2, c2) ∨ p = (b3, c3)) with rfl | rfl | rfl
      · exact List.mem_of_getElem? hi
      · exact List.mem_of_getElem? hj
      · exact List.mem_of_getElem? hk)
    (by
      have h1 := hS.ne i j hi hj hij
      have h2 := hS.ne i k hi hk hik
      have h3 := hS.ne j k hj hk hjk
      simp [h1, h2, h3]) (by simp)

theorem Sx.back3 {r e' : List (Nat × List Value)} (hS : Sx bs w0 w l e) (i j k : Nat) (hi : l[i]? = some (b1, c1)) (hj : l[j]? = some (b2, c2)) (hk : l[k]? = some (b3, c3)) (hL : Sx [b1, b2, b3] w w' ((b1, d1) :: (b2, d2) :: (b3, d3) :: r) e') : Sx bs w0 w' (putL l [(i, b1, d1), (j, b2, d2), (k, b3, d3)]) e := by
  refine hS.sets _ (fun u hu => ?_) hL.off (fun u hu => ?_)
  · rcases (by simpa using hu : u = (i, b1, d1) ∨ u = (j, b2, d2) ∨ u = (k, b3, d3)) with rfl | rfl | rfl
    · exact ⟨_, hi⟩
    · exact ⟨_, hj⟩
    · exact ⟨_, hk⟩
  · rcases (by simpa using hu : u = (i, b1, d1) ∨ u = (j, b2, d2) ∨ u = (k, b3, d3)) with rfl | rfl | rfl
    · exact hL.get 0 rfl
    · exact hL.get 1 rfl
    · exact hL.get 2 rfl

theorem Sx.enter1 (hS : Sx bs w0 w l e) (i : Nat) (hi : l[i]? = some (b1, c1)) : Sx [b1] w w [(b1, c1)] [] :=
  hS.enter [(b1, c1)] [] (fun p hp => by obtain rfl : p = _ := by simpa using hp
                                         exact List.mem_of_getElem? hi) (List.pairwise_singleton _ _) (by simp)

theorem Sx.back1 {r e' : List (Nat × List Value)} (hS : Sx bs w0 w l e) (i : Nat) (hi : l[i]? = some (b1, c1)) (hL : Sx [b1] w w' ((b1, d1) :: r) e') : Sx bs w0 w' (putL l [(i, b1, d1)]) e := by
  refine hS.sets _ (fun u hu => ?_) hL.off (fun u hu => ?_)
  · obtain rfl : u = _ := by simpa using hu
    exact ⟨_, hi⟩
  · obtain rfl : u = _ := by simpa using hu
    exact hL.get 0 rfl

theorem Sx.enter2 (hS : Sx bs w0 w l e) (i j : Nat) (hi : l[i]? = some (b1, c1)) (hj : l[j]? = some (b2, c2)) (hij : i ≠ j) : Sx [b1, b2] w w [(b1, c1), (b2, c2)] [] :=
  hS.enter [(b1, c1), (b2, c2)] [] (fun p hp => by
      rcases (by simpa using hp : p = (b1, c1) ∨ p = (b2, c2)) with rfl | rfl
      · exact List.mem_of_getElem? hi
      · exact List.mem_of_getElem? hj)
    (by
      have h1 := hS.ne i j hi hj hij
      simp [h1]) (by simp)

theorem Sx.back2 {r e' : List (Nat × List Value)} (hS : Sx bs w0 w l e) (i j : Nat) (hi : l[i]? = some (b1, c1)) (hj : l[j]? = some (b2, c2)) (hL : Sx [b1, b2] w w' ((b1, d1) :: (b2, d2) :: r) e') : Sx bs w0 w' (putL l [(i, b1, d1), (j, b2, d2)]) e := by
  refine hS.sets _ (fun u hu => ?_) hL.off (fun u hu => ?_)
  · rcases (by simpa using hu : u = (i, b1, d1) ∨ u = (j, b2, d2)) with rfl | rfl
    · exact ⟨_, hi⟩
    · exact ⟨_, hj⟩
  · rcases (by simpa using hu : u = (i, b1, d1) ∨ u = (j, b2, d2)) with rfl | rfl
    · exact hL.get 0 rfl
    · exact hL.get 1 rfl

end

set_option maxHeartbeats 1000000 in
theorem pSpot_any (t : Int) (w : World) : Calls Try.prog 54 #[.int .i64 t] w fun r w' => r = .returned (.agg #[.int .i64 3, .int .i64 t]) ∧ Below w.heap.size w w' := by
  go_enter Try.func54, Try.ntmps54
  go_wp2
  exact bodyPost_ret (v := (.agg #[.int .i64 3, .int .i64 t])) (by simp [results, Try.results54, go_sem]) rfl ⟨rfl, (Below.refl _ _).alloc (Nat.le_refl _) _⟩

theorem eqFn (f : Fn) (x y : Array Value) (w : World) : (binOp .eql 60 (.func f x y) .nilFunc).run Try.prog w = .ok (.bool false) w := by kernel_rfl
theorem eqNoFn (w : World) : (binOp .eql 60 .nilFunc .nilFunc).run Try.prog w = .ok (.bool true) w := by kernel_rfl

section
variable {bs : List Nat} {w0 w : World} {l e : List (Nat × List Value)} {B C P : Nat} {c : Um.Cf} {m : Um.Mm}

set_option maxHeartbeats 1000000 in
theorem pNew_x (hS : Sx bs w0 w l e) (t : Int) : Calls Try.prog 21 #[.int .i64 t] w fun r w' => ∃ P, r = .returned (.pointer (some ⟨P, 0, none⟩)) ∧ Sx bs w0 w' (l ++ [(P, [.int .i64 t, .int .u64 0, .func (.func 53) #[.pointer (some ⟨P, 0, none⟩)] #[]])]) e := by
  have HS := hide hS
  clear hS
  have hS := Sx.new w
  go_enter Try.func21, Try.ntmps21
  go_wp2_with (first | (refine wpx_box hS rfl _ _ rfl _ rfl _ (by intro _; simp only [Act.put, List.setIfInBounds_toArray, List.set_cons_zero, List.set_cons_succ]; first | done | exact rfl) ?_; clear hS; intro _ _ hS; dsimp only [blit, List.set, List.cons_append, List.nil_append, Value.cells, List.toList_toArray] at hS) | (refine wpx_alloc hS rfl _ rfl _ (zer_any2 rfl) _ (by intro _; simp only [Act.put, List.setIfInBounds_toArray, List.set_cons_zero, List.set_cons_succ]; first | done | exact rfl) ?_; clear hS; intro _ _ hS; dsimp only [blit, List.set, List.cons_append, List.nil_append, Value.cells, List.toList_toArray] at hS) | (refine wpx_ld hS rfl _ _ rfl _ _ rfl ?_; (first | refine ⟨0, _, rfl, ?_⟩ | refine ⟨1, _, rfl, ?_⟩ | refine ⟨2, _, rfl, ?_⟩ | refine ⟨3, _, rfl, ?_⟩ | refine ⟨4, _, rfl, ?_⟩ | refine ⟨5, _, rfl, ?_⟩ | refine ⟨6, _, rfl, ?_⟩ | refine ⟨7, _, rfl, ?_⟩ | refine ⟨8, _, rfl, ?_⟩ | refine ⟨9, _, rfl, ?_⟩); first | refine .inl ⟨_, one_any2 rfl, rfl, _, (by simp only [Act.put, List.setIfInBounds_toArray, List.set_cons_zero, List.set_cons_succ]; first | done | exact rfl), ?_⟩ | refine .inr ⟨_, _, row_any2 rfl, rfl, (by dsimp only [cutL, List.drop, List.take]; first | done | exact rfl), _, (by simp only [Act.put, List.setIfInBounds_toArray, List.set_cons_zero, List.set_cons_succ]; first | done | exact rfl), ?_⟩) | (refine wpx_st hS rfl _ _ _ rfl rfl _ _ rfl ?_; (first | refine ⟨0, _, rfl, ?_⟩ | refine ⟨1, _, rfl, ?_⟩ | refine ⟨2, _, rfl, ?_⟩ | refine ⟨3, _, rfl, ?_⟩ | refine ⟨4, _, rfl, ?_⟩ | refine ⟨5, _, rfl, ?_⟩ | refine ⟨6, _, rfl, ?_⟩ | refine ⟨7, _, rfl, ?_⟩ | refine ⟨8, _, rfl, ?_⟩ | refine ⟨9, _, rfl, ?_⟩); refine ⟨_, (by first | exact shA rfl | exact shI rfl | exact shB rfl | exact shS rfl | exact shP rfl | exact shF rfl | exact shN rfl), _, siz_any2 rfl, (by exact rfl), (by exact rfl), (by exact rfl), ?_⟩; clear hS; intro _ hS; dsimp only [blit, List.set, List.cons_append, List.nil_append, Value.cells, List.toList_toArray] at hS))
  go_ret
  rename_i P _ _
  exact ⟨P, rfl, (unhide HS).add hS.bel (hS.get 0 rfl) ((hS.low _ (List.mem_of_getElem? (i := 0) rfl)).resolve_left (by simp))⟩

set_option maxHeartbeats 1000000 in
theorem pDone_x (hS : Sx bs w0 w l e) (k : Nat) (t : Int) (ep : Nat) (f : Fn) (a1 a2 : Array Value) (hk : l[k]? = some (P, [.int .i64 t, .int .u64 ep, .func f a1 a2])) : Calls Try.prog 26 #[.pointer (some ⟨P, 0, none⟩)] w fun r w' => r = .returned (.bool false) ∧ w' = w := by
  have h2 := (hS.get k hk).cell 2 _ rfl
  have hE := eqFn
  have hE0 := eqNoFn
  clear hS hk
  go_enter Try.func26, Try.ntmps26
  go_wp2
  go_ret
  exact ⟨rfl, rfl⟩

set_option maxHeartbeats 1000000 in
theorem pDone_nil (hS : Sx bs w0 w l e) (k : Nat) (t : Int) (ep : Nat) (hk : l[k]? = some (P, [.int .i64 t, .int .u64 ep, .nilFunc])) : Calls Try.prog 26 #[.pointer (some ⟨P, 0, none⟩)] w fun r w' => r = .returned (.bool true) ∧ w' = w := by
  have h2 := (hS.get k hk).cell 2 _ rfl
  have hE := eqFn
  have hE0 := eqNoFn
  clear hS hk
  go_enter Try.func26, Try.ntmps26
  go_wp2
  go_ret
  exact ⟨rfl, rfl⟩

set_option maxHeartbeats 2000000 in
theorem pLoad_x (hS : Sx bs w0 w l e) (i j k : Nat) (hi : l[i]? = some (B, memL c C m)) (hj : l[j]? = some (C, rowW m.ws c.n)) (t : Int) (ep : Nat) (nx : Value) (hk : l[k]? = some (P, [.int .i64 t, .int .u64 ep, nx])) (hij : i ≠ j) (hik : i ≠ k) (hjk : j ≠ k) (hr : c.r = true) (hw : WordsOk c m) (M : Um.Mm) (hM : M = Um.mtouch c m 1 2 0 0 0) :
    Calls Try.prog 53 #[.pointer (some ⟨P, 0, none⟩), .pointer (some ⟨B, 0, none⟩)] w fun r w' => r = .returned (.tuple #[]) ∧ WordsOk c M ∧ Sx bs w0 w' (putL l [(i, B, memL c C M), (j, C, rowW M.ws c.n), (k, P, [.int .i64 t, .int .u64 (M.l.old : Nat), .func (.func 67) #[.pointer (some ⟨P, 0, none⟩)] #[]])]) e := by
  have HS := hide hS
  have HI := hide (And.intro hi (And.intro hj hk))
  have hL := hS.enter3 i j k hi hj hk hij hik hjk
  have HR := hide hr
  have HW := hide hw
  have HM := hide hM
  clear hS hi hj hk hr hw hM
  have hS := hL
  clear hL
  go_enter Try.func53, Try.ntmps53
  go_wp2_with (first | (refine wpx_box hS rfl _ _ rfl _ rfl _ (by intro _; simp only [Act.put, List.setIfInBounds_toArray, List.set_cons_zero, List.set_cons_succ]; first | done | exact rfl) ?_; clear hS; intro _ _ hS; dsimp only [blit, List.set, List.cons_append, List.nil_append, Value.cells, List.toList_toArray] at hS) | (refine wpx_alloc hS rfl _ rfl _ (zer_any2 rfl) _ (by intro _; simp only [Act.put, List.setIfInBounds_toArray, List.set_cons_zero, List.set_cons_succ]; first | done | exact rfl) ?_; clear hS; intro _ _ hS; dsimp only [blit, List.set, List.cons_append, List.nil_append, Value.cells, List.toList_toArray] at hS) | (refine wpx_ld hS rfl _ _ rfl _ _ rfl ?_; (first | refine ⟨0, _, rfl, ?_⟩ | refine ⟨1, _, rfl, ?_⟩ | refine ⟨2, _, rfl, ?_⟩ | refine ⟨3, _, rfl, ?_⟩ | refine ⟨4, _, rfl, ?_⟩ | refine ⟨5, _, rfl, ?_⟩ | refine ⟨6, _, rfl, ?_⟩ | refine ⟨7, _, rfl, ?_⟩ | refine ⟨8, _, rfl, ?_⟩ | refine ⟨9, _, rfl, ?_⟩); first | refine .inl ⟨_, one_any2 rfl, rfl, _, (by simp only [Act.put, List.setIfInBounds_toArray, List.set_cons_zero, List.set_cons_succ]; first | done | exact rfl), ?_⟩ | refine .inr ⟨_, _, row_any2 rfl, rfl, (by dsimp only [cutL, List.drop, List.take]; first | done | exact rfl), _, (by simp only [Act.put, List.setIfInBounds_toArray, List.set_cons_zero, List.set_cons_succ]; first | done | exact rfl), ?_⟩) | (refine wpx_st hS rfl _ _ _ rfl rfl _ _ rfl ?_; (first | refine ⟨0, _, rfl, ?_⟩ | refine ⟨1, _, rfl, ?_⟩ | refine ⟨2, _, rfl, ?_⟩ | refine ⟨3, _, rfl, ?_⟩ | refine ⟨4, _, rfl, ?_⟩ | refine ⟨5, _, rfl, ?_⟩ | refine ⟨6, _, rfl, ?_⟩ | refine ⟨7, _, rfl, ?_⟩ | refine ⟨8, _, rfl, ?_⟩ | refine ⟨9, _, rfl, ?_⟩); refine ⟨_, (by first | exact shA rfl | exact shI rfl | exact shB rfl | exact shS rfl | exact shP rfl | exact shF rfl | exact shN rfl), _, siz_any2 rfl, (by exact rfl), (by exact rfl), (by exact rfl), ?_⟩; clear hS; intro _ hS; dsimp only [blit, List.set, List.cons_append, List.nil_append, Value.cells, List.toList_toArray] at hS))
  refine (mLoad_x hS 0 1 rfl rfl (by decide) (unhide HR) (unhide HW) 2 0 (by decide) (by decide) M (unhide HM)).mono ?_
  rintro r u ⟨rfl, hW2, hS2⟩
  clear hS
  have hS := hS2
  clear hS2 HM
  dsimp only [putL, List.set] at hS
  have HW2 := hide hW2
  clear hW2
  go_wp2_with (first | (refine wpx_box hS rfl _ _ rfl _ rfl _ (by intro _; simp only [Act.put, List.setIfInBounds_toArray, List.set_cons_zero, List.set_cons_succ]; first | done | exact rfl) ?_; clear hS; intro _ _ hS; dsimp only [blit, List.set, List.cons_append, List.nil_append, Value.cells, List.toList_toArray] at hS) | (refine wpx_alloc hS rfl _ rfl _ (zer_any2 rfl) _ (by intro _; simp only [Act.put, List.setIfInBounds_toArray, List.set_cons_zero, List.set_cons_succ]; first | done | exact rfl) ?_; clear hS; intro _ _ hS; dsimp only [blit, List.set, List.cons_append, List.nil_append, Value.cells, List.toList_toArray] at hS) | (refine wpx_ld hS rfl _ _ rfl _ _ rfl ?_; (first | refine ⟨0, _, rfl, ?_⟩ | refine ⟨1, _, rfl, ?_⟩ | refine ⟨2, _, rfl, ?_⟩ | refine ⟨3, _, rfl, ?_⟩ | refine ⟨4, _, rfl, ?_⟩ | refine ⟨5, _, rfl, ?_⟩ | refine ⟨6, _, rfl, ?_⟩ | refine ⟨7, _, rfl, ?_⟩ | refine ⟨8, _, rfl, ?_⟩ | refine ⟨9, _, rfl, ?_⟩); first | refine .inl ⟨_, one_any2 rfl, rfl, _, (by simp only [Act.put, List.setIfInBounds_toArray, List.set_cons_zero, List.set_cons_succ]; first | done | exact rfl), ?_⟩ | refine .inr ⟨_, _, row_any2 rfl, rfl, (by dsimp only [cutL, List.drop, List.take]; first | done | exact rfl), _, (by simp only [Act.put, List.setIfInBounds_toArray, List.set_cons_zero, List.set_cons_succ]; first | done | exact rfl), ?_⟩) | (refine wpx_st hS rfl _ _ _ rfl rfl _ _ rfl ?_; (first | refine ⟨0, _, rfl, ?_⟩ | refine ⟨1, _, rfl, ?_⟩ | refine ⟨2, _, rfl, ?_⟩ | refine ⟨3, _, rfl, ?_⟩ | refine ⟨4, _, rfl, ?_⟩ | refine ⟨5, _, rfl, ?_⟩ | refine ⟨6, _, rfl, ?_⟩ | refine ⟨7, _, rfl, ?_⟩ | refine ⟨8, _, rfl, ?_⟩ | refine ⟨9, _, rfl, ?_⟩); refine ⟨_, (by first | exact shA rfl | exact shI rfl | exact shB rfl | exact shS rfl | exact shP rfl | exact shF rfl | exact shN rfl), _, siz_any2 rfl, (by exact rfl), (by exact rfl), (by exact rfl), ?_⟩; clear hS; intro _ hS; dsimp only [blit, List.set, List.cons_append, List.nil_append, Value.cells, List.toList_toArray] at hS))
  go_end0
  exact ⟨rfl, unhide HW2, (unhide HS).back3 i j k (unhide HI).1 (unhide HI).2.1 (unhide HI).2.2 hS⟩

set_option maxHeartbeats 2000000 in
theorem pLay_x (hS : Sx bs w0 w l e) (i j k : Nat) (hi : l[i]? = some (B, memL c C m)) (hj : l[j]? = some (C, rowW m.ws c.n)) (t : Int) (ep : Nat) (nx : Value) (hk : l[k]? = some (P, [.int .i64 t, .int .u64 ep, nx])) (hij : i ≠ j) (hik : i ≠ k) (hjk : j ≠ k) (hr : c.r = true) (hw : WordsOk c m) (ht : -9223372036854775808 ≤ t ∧ t ≤ 9223372036854775807) (M : Um.Mm) (hM : M = Um.mtouch c m 2 3 t 0 (Um.addW ep 1)) :
    Calls Try.prog 67 #[.pointer (some ⟨P, 0, none⟩), .pointer (some ⟨B, 0, none⟩)] w fun r w' => r = .returned (.tuple #[]) ∧ WordsOk c M ∧ Sx bs w0 w' (putL l [(i, B, memL c C M), (j, C, rowW M.ws c.n), (k, P, [.int .i64 t, .int .u64 ep, .nilFunc])]) e := by
  have HS := hide hS
  have HI := hide (And.intro hi (And.intro hj hk))
  have hL := hS.enter3 i j k hi hj hk hij hik hjk
  have HR := hide hr
  have HW := hide hw
  have HM := hide hM
  have HT := hide ht
  have hx : IntKind.u64.wrap ((ep : Int) + 1) = ((Um.addW ep 1 : Nat) : Int) := addW_wrap ep 1
  have HX := hide (Um.word_addW ep 1)
  generalize Um.addW ep 1 = x at *
  clear hS hi hj hk hr hw hM ht
  have hS := hL
  clear hL
  have k0 := fun w' (h : BlkAt w' P [.int .i64 t, .int .u64 ep, nx]) => h.cell 0 _ rfl
  have k1 := fun w' (h : BlkAt w' P [.int .i64 t, .int .u64 ep, nx]) => h.cell 1 _ rfl
  have HP := hide (hS.get 2 rfl)
  go_enter Try.func67, Try.ntmps67
  go_wp2_with fail
  have HS3 := hide hS
  clear hS
  go_region_held3 (fun w' => BlkAt w' P [.int .i64 t, .int .u64 ep, nx]) (first | exact (unhide HP).drew | exact BlkAt.below (by assumption) (by assumption) | assumption) (first | (go_at_call 54; refine (pSpot_any _ _).mono ?_; rintro e u5 ⟨rfl, hb5⟩) | (go_at_call 14; refine (mStore_x ((unhide HS3).undrew hb5) 0 1 rfl rfl (by decide) (unhide HR) (unhide HW) 3 t x (unhide HX) (unhide HT).1 (unhide HT).2 M (unhide HM)).mono ?_; rintro e u6 ⟨rfl, hW6, hS6⟩; have hP6 := hS6.get 2 rfl))
  have hS := hS6
  have HW6 := hide hW6
  clear hS6 hP6 hb5 hW6 k0 k1
  dsimp only [putL, List.set] at hS
  go_wp2_with (first | (refine wpx_box hS rfl _ _ rfl _ rfl _ (by intro _; simp only [Act.put, List.setIfInBounds_toArray, List.set_cons_zero, List.set_cons_succ]; first | done | exact rfl) ?_; clear hS; intro _ _ hS; dsimp only [blit, List.set, List.cons_append, List.nil_append, Value.cells, List.toList_toArray] at hS) | (refine wpx_alloc hS rfl _ rfl _ (zer_any2 rfl) _ (by intro _; simp only [Act.put, List.setIfInBounds_toArray, List.set_cons_zero, List.set_cons_succ]; first | done | exact rfl) ?_; clear hS; intro _ _ hS; dsimp only [blit, List.set, List.cons_append, List.nil_append, Value.cells, List.toList_toArray] at hS) | (refine wpx_ld hS rfl _ _ rfl _ _ rfl ?_; (first | refine ⟨0, _, rfl, ?_⟩ | refine ⟨1, _, rfl, ?_⟩ | refine ⟨2, _, rfl, ?_⟩ | refine ⟨3, _, rfl, ?_⟩ | refine ⟨4, _, rfl, ?_⟩ | refine ⟨5, _, rfl, ?_⟩ | refine ⟨6, _, rfl, ?_⟩ | refine ⟨7, _, rfl, ?_⟩ | refine ⟨8, _, rfl, ?_⟩ | refine ⟨9, _, rfl, ?_⟩); first | refine .inl ⟨_, one_any2 rfl, rfl, _, (by simp only [Act.put, List.setIfInBounds_toArray, List.set_cons_zero, List.set_cons_succ]; first | done | exact rfl), ?_⟩ | refine .inr ⟨_, _, row_any2 rfl, rfl, (by dsimp only [cutL, List.drop, List.take]; first | done | exact rfl), _, (by simp only [Act.put, List.setIfInBounds_toArray, List.set_cons_zero, List.set_cons_succ]; first | done | exact rfl), ?_⟩) | (refine wpx_st hS rfl _ _ _ rfl rfl _ _ rfl ?_; (first | refine ⟨0, _, rfl, ?_⟩ | refine ⟨1, _, rfl, ?_⟩ | refine ⟨2, _, rfl, ?_⟩ | refine ⟨3, _, rfl, ?_⟩ | refine ⟨4, _, rfl, ?_⟩ | refine ⟨5, _, rfl, ?_⟩ | refine ⟨6, _, rfl, ?_⟩ | refine ⟨7, _, rfl, ?_⟩ | refine ⟨8, _, rfl, ?_⟩ | refine ⟨9, _, rfl, ?_⟩); refine ⟨_, (by first | exact shA rfl | exact shI rfl | exact shB rfl | exact shS rfl | exact shP rfl | exact shF rfl | exact shN rfl), _, siz_any2 rfl, (by exact rfl), (by exact rfl), (by exact rfl), ?_⟩; clear hS; intro _ hS; dsimp only [blit, List.set, List.cons_append, List.nil_append, Value.cells, List.toList_toArray] at hS))
  go_end0
  exact ⟨rfl, unhide HW6, (unhide HS).back3 i j k (unhide HI).1 (unhide HI).2.1 (unhide HI).2.2 hS⟩

set_option maxHeartbeats 2000000 in
theorem pStep_0 (hS : Sx bs w0 w l e) (i j k : Nat) (hi : l[i]? = some (B, memL c C m)) (hj : l[j]? = some (C, rowW m.ws c.n)) (t : Int) (ep : Nat) (hk : l[k]? = some (P, [.int .i64 t, .int .u64 ep, .func (.func 53) #[.pointer (some ⟨P, 0, none⟩)] #[]])) (hij : i ≠ j) (hik : i ≠ k) (hjk : j ≠ k) (hr : c.r = true) (hw : WordsOk c m) (M : Um.Mm) (hM : M = Um.mtouch c m 1 2 0 0 0) :
    Calls Try.prog 24 #[.pointer (some ⟨P, 0, none⟩), .pointer (some ⟨B, 0, none⟩)] w fun r w' => r = .returned (.tuple #[]) ∧ WordsOk c M ∧ Sx bs w0 w' (putL l [(i, B, memL c C M), (j, C, rowW M.ws c.n), (k, P, [.int .i64 t, .int .u64 (M.l.old : Nat), .func (.func 67) #[.pointer (some ⟨P, 0, none⟩)] #[]])]) e := by
  have HD := hide (pDone_x hS k t ep _ _ _ hk)
  have HC := hide (pLoad_x hS i j k hi hj t ep _ hk hij hik hjk hr hw M hM)
  have h2 := (hS.get k hk).cell 2 _ rfl
  clear hS hi hj hk hij hik hjk hr hw hM
  go_enter Try.func24, Try.ntmps24
  go_wp2_with fail
  refine (unhide HD).mono ?_
  rintro r u ⟨rfl, rfl⟩
  go_wp2_with fail
  refine (unhide HC).mono ?_
  rintro r u2 ⟨rfl, hW2, hS2⟩
  have H2 := hide hS2
  have HW2 := hide hW2
  clear hS2 hW2 h2
  go_wp2
  go_end0
  exact ⟨rfl, unhide HW2, unhide H2⟩

set_option maxHeartbeats 2000000 in
theorem pStep_1 (hS : Sx bs w0 w l e) (i j k : Nat) (hi : l[i]? = some (B, memL c C m)) (hj : l[j]? = some (C, rowW m.ws c.n)) (t : Int) (ep : Nat) (hk : l[k]? = some (P, [.int .i64 t, .int .u64 ep, .func (.func 67) #[.pointer (some ⟨P, 0, none⟩)] #[]])) (hij : i ≠ j) (hik : i ≠ k) (hjk : j ≠ k) (hr : c.r = true) (hw : WordsOk c m) (ht : -9223372036854775808 ≤ t ∧ t ≤ 9223372036854775807) (M : Um.Mm) (hM : M = Um.mtouch c m 2 3 t 0 (Um.addW ep 1)) :
    Calls Try.prog 24 #[.pointer (some ⟨P, 0, none⟩), .pointer (some ⟨B, 0, none⟩)] w fun r w' => r = .returned (.tuple #[]) ∧ WordsOk c M ∧ Sx bs w0 w' (putL l [(i, B, memL c C M), (j, C, rowW M.ws c.n), (k, P, [.int .i64 t, .int .u64 ep, .nilFunc])]) e := by
  have HD := hide (pDone_x hS k t ep _ _ _ hk)
  have HC := hide (pLay_x hS i j k hi hj t ep _ hk hij hik hjk hr hw ht M hM)
  have h2 := (hS.get k hk).cell 2 _ rfl
  clear hS hi hj hk hij hik hjk hr hw hM ht
  go_enter Try.func24, Try.ntmps24
  go_wp2_with fail
  refine (unhide HD).mono ?_
  rintro r u ⟨rfl, rfl⟩
  go_wp2_with fail
  refine (unhide HC).mono ?_
  rintro r u2 ⟨rfl, hW2, hS2⟩
  have H2 := hide hS2
  have HW2 := hide hW2
  clear hS2 hW2 h2
  go_wp2
  go_end0
  exact ⟨rfl, unhide HW2, unhide H2⟩

set_option maxHeartbeats 2000000 in
theorem pStep_2 (hS : Sx bs w0 w l e) (k : Nat) (t : Int) (ep : Nat) (hk : l[k]? = some (P, [.int .i64 t, .int .u64 ep, .nilFunc])) (q : Option Addr) :
    Calls Try.prog 24 #[.pointer (some ⟨P, 0, none⟩), .pointer q] w fun r w' => r = .returned (.tuple #[]) ∧ w' = w := by
  have HD := hide (pDone_nil hS k t ep hk)
  clear hS hk
  go_enter Try.func24, Try.ntmps24
  go_wp2_with fail
  refine (unhide HD).mono ?_
  rintro r u ⟨rfl, rfl⟩
  go_wp2
  go_end0
  exact ⟨rfl, rfl⟩

set_option maxHeartbeats 2000000 in
theorem pLeave_x (hS : Sx bs w0 w l e) (i j : Nat) (hi : l[i]? = some (B, memL c C m)) (hj : l[j]? = some (C, rowW m.ws c.n)) (hij : i ≠ j) (hr : c.r = true) (hw : WordsOk c m) (t : Int) (ht : -9223372036854775808 ≤ t ∧ t ≤ 9223372036854775807) (M : Um.Mm) (hM : M = Um.mtouch c m 2 3 t 0 0) :
    Calls Try.prog 27 #[.pointer (some ⟨B, 0, none⟩), .int .i64 t] w fun r w' => r = .returned (.tuple #[]) ∧ WordsOk c M ∧ Sx bs w0 w' (putL l [(i, B, memL c C M), (j, C, rowW M.ws c.n)]) e := by
  have HC := hide (fun w' (hb : Below w.heap.size w w') => mStore_x (hS.call hb) i j hi hj hij hr hw 3 t 0 (by unfold Um.Word; omega) ht.1 ht.2 M hM)
  clear hS hi hj hij hr hw ht hM
  go_enter Try.func27, Try.ntmps27
  go_wp2_with fail
  refine (pSpot_any _ _).mono ?_
  rintro r u ⟨rfl, hb⟩
  go_wp2_with fail
  refine ((unhide HC) _ hb).mono ?_
  rintro r u2 ⟨rfl, hW2, hS2⟩
  have H2 := hide hS2
  have HW2 := hide hW2
  clear hS2 hW2
  go_wp2
  go_end0
  exact ⟨rfl, unhide HW2, unhide H2⟩

end

end Go.Proofs.Ytjicfonpldobdaa
