/-
  Texts that the laws stand on, merged (GateA, GateB, GateX, JoinMath, JoinMath2).
-/
import Derived.Test.YtapgghciieloaaaGreatP6
import Derived.Lib.QuietBelow
import Derived.LoopTactic

/-
  The walks of the program's gate, the small ones: a place's spot, look, swap, what is moved; whether one is a stranger, done, its error; what is against a call.
-/
namespace Go.Proofs.YtapgghciieloaaaGreat
set_option maxRecDepth 100000
open Go.RowKit Go.Sort
set_option linter.unusedVariables false
set_option linter.unusedSimpArgs false

theorem eqGFn (f : Fn) (x y : Array Value) (w : World) : (binOp .eql 56 (.func f x y) .nilFunc).run Tryz.prog w = .ok (.bool false) w := by kernel_rfl
theorem eqGNo (w : World) : (binOp .eql 56 .nilFunc .nilFunc).run Tryz.prog w = .ok (.bool true) w := by kernel_rfl

/-- as enter3, the blocks that are only read kept -/
theorem Sx.enter3e {bs : List Nat} {w0 w : World} {l e : List (Nat × List Value)} {b1 b2 b3 : Nat} {c1 c2 c3 : List Value} (hS : Sx bs w0 w l e) (i j k : Nat) (hi : l[i]? = some (b1, c1)) (hj : l[j]? = some (b2, c2)) (hk : l[k]? = some (b3, c3)) (hij : i ≠ j) (hik : i ≠ k) (hjk : j ≠ k) : Sx [b1, b2, b3] w w [(b1, c1), (b2, c2), (b3, c3)] e :=
  hS.enter [(b1, c1), (b2, c2), (b3, c3)] e (fun p hp => by
      rcases (by simpa using hp : p = (b1, c1) ∨ p = (b2, c2) ∨ p = (b3, c3)) with rfl | rfl | rfl
      · exact List.mem_of_getElem? hi
      · exact List.mem_of_getElem? hj
      · exact List.mem_of_getElem? hk)
    (by
      have h1 := hS.ne i j hi hj hij
      have h2 := hS.ne i k hi hk hik
      have h3 := hS.ne j k hj hk hjk
      simp [h1, h2, h3]) (fun p hp => hp)

theorem Sx.enter1e {bs : List Nat} {w0 w : World} {l e : List (Nat × List Value)} {b1 : Nat} {c1 : List Value} (hS : Sx bs w0 w l e) (i : Nat) (hi : l[i]? = some (b1, c1)) : Sx [b1] w w [(b1, c1)] e :=
  hS.enter [(b1, c1)] e (fun p hp => by
      obtain rfl : p = _ := by simpa using hp
      exact List.mem_of_getElem? hi) (by simp) (fun p hp => hp)

theorem st_mod (s : Nat) : (((Um.part s 27 3 : Nat) : Int) % 8).toNat = Um.stN s := by
  have h1 := Um.part_lt s 27 3
  have h2 : Um.stN s = Um.part s 27 3 := rfl
  omega

theorem lst_mod (st : Int) (s : Nat) : (((Um.lst st s : Nat) : Int) % 8).toNat = Um.lst st s := by
  have h1 := Um.lst_lt st s
  omega

section
variable {bs : List Nat} {w0 w : World} {l e : List (Nat × List Value)} {B C P : Nat} {c : Um.Cf} {m : Um.Mm} {sl st fe : Int} {h s wd : Nat} {la : Option Addr} {nl cl : Nat} {fn : Value}

set_option maxHeartbeats 1000000 in
theorem gSpotE_b (hB : BlkAt w P [.int .i64 sl, .int .u64 (s : Nat), .int .u64 (h : Nat), .slice la nl cl, fn, .int .i64 fe, .int .u64 (wd : Nat)]) : Calls Tryz.prog 119 #[.pointer (some ⟨P, 0, none⟩)] w fun r w' => r = .returned (.agg #[.int .i64 4, .int .i64 sl]) ∧ Below w.heap.size w w' := by
  have hS := Sx.read1 hB
  clear hB
  go_enter Tryz.func119, Tryz.ntmps119
  go_wp2_with (first | (first | (refine ybox hS (h := ?_); clear hS; intro _ _ hS) | (refine yall hS (h := ?_); clear hS; intro _ _ hS) | refine yld hS (h := ?_) | (refine yst hS (h := ?_); clear hS; intro _ hS)) | (refine wpx_load1e hS 0 rfl _ _ rfl _ _ rfl _ rfl (one_any2 rfl) _ rfl _ (by simp only [Act.put, List.setIfInBounds_toArray, List.set_cons_zero, List.set_cons_succ]; first | done | exact rfl) ?_))
  have hZ := hS.get 0 rfl
  exact bodyPost_ret (v := (.agg #[.int .i64 4, .int .i64 sl])) (by simp [results, Tryz.results119, go_sem, hZ.cell 0 _ rfl, hZ.cell 1 _ rfl]) rfl ⟨rfl, hS.bel⟩

set_option maxHeartbeats 1000000 in
theorem gMovedE_b (hB : BlkAt w P [.int .i64 sl, .int .u64 (s : Nat), .int .u64 (h : Nat), .slice la nl cl, fn, .int .i64 fe, .int .u64 (wd : Nat)]) (x : Int) (bz : Bool) (hs : Um.Word s) : Calls Tryz.prog 121 #[.pointer (some ⟨P, 0, none⟩), .int .i64 x, .bool bz] w fun r w' => r = .returned (.int .u64 (Um.moveN s (x % 8).toNat bz : Nat)) ∧ Below w.heap.size w w' := by
  have h1 := hB.cell 1 _ rfl
  have HC := hide (same_below (move_any s x bz w hs))
  clear hB hs
  go_enter Tryz.func121, Tryz.ntmps121
  go_wp2_with fail
  refine (unhide HC).mono ?_
  rintro r u ⟨rfl, hb⟩
  clear HC
  go_wp2
  go_ret
  exact ⟨rfl, hb⟩

set_option maxHeartbeats 4000000 in
theorem gLookE_x (hS : Sx bs w0 w l e) (i j k : Nat) (hi : l[i]? = some (B, memL c C m)) (hj : l[j]? = some (C, rowW m.ws c.n)) (hk : l[k]? = some (P, [.int .i64 sl, .int .u64 (s : Nat), .int .u64 (h : Nat), .slice la nl cl, fn, .int .i64 fe, .int .u64 (wd : Nat)])) (hij : i ≠ j) (hik : i ≠ k) (hjk : j ≠ k) (hr : c.r = true) (hw : WordsOk c m) (hb0 : -9223372036854775808 ≤ sl) (hb1 : sl ≤ 9223372036854775807) (M : Um.Mm) (hM : M = Um.mtouch c m 1 4 sl 0 0) :
    Calls Tryz.prog 102 #[.pointer (some ⟨P, 0, none⟩), .pointer (some ⟨B, 0, none⟩)] w fun r w' => r = .returned (.agg #[.int .i64 (Um.part M.l.old 30 32 : Nat), .int .i64 (Um.part M.l.old 27 3 : Nat), .bool ((M.l.old : Nat).testBit 26), .bool ((M.l.old : Nat).testBit 25), .bool ((M.l.old : Nat).testBit 24), .int .i64 (Um.part M.l.old 12 12 : Nat), .int .i64 (Um.part M.l.old 0 12 : Nat)]) ∧ WordsOk c M ∧ Sx bs w0 w' (putL l [(i, B, memL c C M), (j, C, rowW M.ws c.n), (k, P, [.int .i64 sl, .int .u64 (M.l.old : Nat), .int .u64 (h : Nat), .slice la nl cl, fn, .int .i64 fe, .int .u64 (wd : Nat)])]) e := by
  have HO := hide (show Um.Word (Um.mtouch c m 1 4 sl 0 0).l.old from Um.old_word hw)
  rw [← hM] at HO
  have HS := hide hS
  have HI := hide (And.intro hi (And.intro hj hk))
  have hL := hS.enter3 i j k hi hj hk hij hik hjk
  have HR := hide hr
  have HW := hide hw
  have HM := hide hM
  have HBD := hide (And.intro hb0 hb1)
  clear hS hi hj hk hr hw hM hb0 hb1
  have hS := hL
  clear hL
  go_enter Tryz.func102, Tryz.ntmps102
  go_wp2_with (first | (refine ybox hS (h := ?_); clear hS; intro _ _ hS) | (refine yall hS (h := ?_); clear hS; intro _ _ hS) | refine yld hS (h := ?_) | (refine yst hS (h := ?_); clear hS; intro _ hS))
  refine (gSpotE_b (hS.get 2 rfl)).mono ?_
  rintro r u ⟨rfl, hb⟩
  replace hS := hS.call hb
  clear hb
  go_wp2_with fail
  refine (mLoad_x hS 0 1 rfl rfl (by decide) (unhide HR) (unhide HW) 4 sl (unhide HBD).1 (unhide HBD).2 M (unhide HM)).mono ?_
  rintro r u ⟨rfl, hWn, hSn⟩
  clear hS
  have hS := hSn
  clear hSn
  dsimp only [putL, List.set, List.cons_append, List.nil_append] at hS
  have HW6 := hide hWn
  clear hWn
  go_wp2_with (first | (refine ybox hS (h := ?_); clear hS; intro _ _ hS) | (refine yall hS (h := ?_); clear hS; intro _ _ hS) | refine yld hS (h := ?_) | (refine yst hS (h := ?_); clear hS; intro _ hS))
  refine (unpack_any M.l.old _ (unhide HO)).mono ?_
  rintro r u ⟨rfl, hb⟩
  replace hS := hS.call hb
  clear hb
  go_wp2_with (first | (refine ybox hS (h := ?_); clear hS; intro _ _ hS) | (refine yall hS (h := ?_); clear hS; intro _ _ hS) | refine yld hS (h := ?_) | (refine yst hS (h := ?_); clear hS; intro _ hS))
  have hZ := hS.get 3 rfl
  exact bodyPost_ret (v := .agg #[.int .i64 (Um.part M.l.old 30 32 : Nat), .int .i64 (Um.part M.l.old 27 3 : Nat), .bool ((M.l.old : Nat).testBit 26), .bool ((M.l.old : Nat).testBit 25), .bool ((M.l.old : Nat).testBit 24), .int .i64 (Um.part M.l.old 12 12 : Nat), .int .i64 (Um.part M.l.old 0 12 : Nat)]) (by simp [results, Tryz.results102, go_sem, hZ.cell 0 _ rfl, hZ.cell 1 _ rfl, hZ.cell 2 _ rfl, hZ.cell 3 _ rfl, hZ.cell 4 _ rfl, hZ.cell 5 _ rfl, hZ.cell 6 _ rfl]) rfl ⟨rfl, unhide HW6, (unhide HS).back3 i j k (unhide HI).1 (unhide HI).2.1 (unhide HI).2.2 hS⟩

set_option maxHeartbeats 4000000 in
theorem gSwapE_x (hS : Sx bs w0 w l e) (i j k : Nat) (hi : l[i]? = some (B, memL c C m)) (hj : l[j]? = some (C, rowW m.ws c.n)) (hk : l[k]? = some (P, [.int .i64 sl, .int .u64 (s : Nat), .int .u64 (h : Nat), .slice la nl cl, fn, .int .i64 fe, .int .u64 (wd : Nat)])) (hij : i ≠ j) (hik : i ≠ k) (hjk : j ≠ k) (hr : c.r = true) (hw : WordsOk c m) (hb0 : -9223372036854775808 ≤ sl) (hb1 : sl ≤ 9223372036854775807) (v : Nat) (hv : Um.Word v) (M : Um.Mm) (hM : M = Um.mtouch c m 3 4 sl s v) :
    Calls Tryz.prog 122 #[.pointer (some ⟨P, 0, none⟩), .pointer (some ⟨B, 0, none⟩), .int .u64 (v : Nat)] w fun r w' => r = .returned (.bool M.l.done) ∧ WordsOk c M ∧ Sx bs w0 w' (putL l [(i, B, memL c C M), (j, C, rowW M.ws c.n), (k, P, [.int .i64 sl, .int .u64 (s : Nat), .int .u64 (h : Nat), .slice la nl cl, fn, .int .i64 fe, .int .u64 (wd : Nat)])]) e := by
  have HS := hide hS
  have HI := hide (And.intro hi (And.intro hj hk))
  have hL := hS.enter3 i j k hi hj hk hij hik hjk
  have HR := hide hr
  have HW := hide hw
  have HM := hide hM
  have HV := hide hv
  have HBD := hide (And.intro hb0 hb1)
  clear hS hi hj hk hr hw hM hb0 hb1 hv
  have hS := hL
  clear hL
  have k1 := fun w' (hq : BlkAt w' P [.int .i64 sl, .int .u64 (s : Nat), .int .u64 (h : Nat), .slice la nl cl, fn, .int .i64 fe, .int .u64 (wd : Nat)]) => hq.cell 1 _ rfl
  have HP := hide (hS.get 2 rfl)
  go_enter Tryz.func122, Tryz.ntmps122
  go_wp2_with fail
  have HS3 := hide hS
  clear hS
  go_region_held3 (fun w' => BlkAt w' P [.int .i64 sl, .int .u64 (s : Nat), .int .u64 (h : Nat), .slice la nl cl, fn, .int .i64 fe, .int .u64 (wd : Nat)]) (first | exact (unhide HP).drew | exact BlkAt.below (by assumption) (by assumption) | assumption) (first | (go_at_call 119; refine (gSpotE_b (by assumption)).mono ?_; rintro e u5 ⟨rfl, hb5⟩) | (go_at_call 132; refine (mSwap_x ((unhide HS3).undrew hb5) 0 1 rfl rfl (by decide) (unhide HR) (unhide HW) 4 sl s v (unhide HV) (unhide HBD).1 (unhide HBD).2 M (unhide HM)).mono ?_; rintro e u7 ⟨rfl, hW6, hS6⟩; have hP6 := hS6.get 2 rfl))
  have hS := hS6
  have HW6 := hide hW6
  clear hS6 hP6 hW6 k1 HS3 HP
  dsimp only [putL, List.set] at hS
  go_wp2_with fail
  go_ret
  exact ⟨rfl, unhide HW6, (unhide HS).back3 i j k (unhide HI).1 (unhide HI).2.1 (unhide HI).2.2 hS⟩

set_option maxHeartbeats 1000000 in
theorem gSpotL_b (hB : BlkAt w P [.int .i64 sl, .int .u64 (s : Nat), .int .i64 st, fn]) : Calls Tryz.prog 119 #[.pointer (some ⟨P, 0, none⟩)] w fun r w' => r = .returned (.agg #[.int .i64 4, .int .i64 sl]) ∧ Below w.heap.size w w' := by
  have hS := Sx.read1 hB
  clear hB
  go_enter Tryz.func119, Tryz.ntmps119
  go_wp2_with (first | (first | (refine ybox hS (h := ?_); clear hS; intro _ _ hS) | (refine yall hS (h := ?_); clear hS; intro _ _ hS) | refine yld hS (h := ?_) | (refine yst hS (h := ?_); clear hS; intro _ hS)) | (refine wpx_load1e hS 0 rfl _ _ rfl _ _ rfl _ rfl (one_any2 rfl) _ rfl _ (by simp only [Act.put, List.setIfInBounds_toArray, List.set_cons_zero, List.set_cons_succ]; first | done | exact rfl) ?_))
  have hZ := hS.get 0 rfl
  exact bodyPost_ret (v := (.agg #[.int .i64 4, .int .i64 sl])) (by simp [results, Tryz.results119, go_sem, hZ.cell 0 _ rfl, hZ.cell 1 _ rfl]) rfl ⟨rfl, hS.bel⟩

set_option maxHeartbeats 1000000 in
theorem gMovedL_b (hB : BlkAt w P [.int .i64 sl, .int .u64 (s : Nat), .int .i64 st, fn]) (x : Int) (bz : Bool) (hs : Um.Word s) : Calls Tryz.prog 121 #[.pointer (some ⟨P, 0, none⟩), .int .i64 x, .bool bz] w fun r w' => r = .returned (.int .u64 (Um.moveN s (x % 8).toNat bz : Nat)) ∧ Below w.heap.size w w' := by
  have h1 := hB.cell 1 _ rfl
  have HC := hide (same_below (move_any s x bz w hs))
  clear hB hs
  go_enter Tryz.func121, Tryz.ntmps121
  go_wp2_with fail
  refine (unhide HC).mono ?_
  rintro r u ⟨rfl, hb⟩
  clear HC
  go_wp2
  go_ret
  exact ⟨rfl, hb⟩

set_option maxHeartbeats 4000000 in
theorem gLookL_x (hS : Sx bs w0 w l e) (i j k : Nat) (hi : l[i]? = some (B, memL c C m)) (hj : l[j]? = some (C, rowW m.ws c.n)) (hk : l[k]? = some (P, [.int .i64 sl, .int .u64 (s : Nat), .int .i64 st, fn])) (hij : i ≠ j) (hik : i ≠ k) (hjk : j ≠ k) (hr : c.r = true) (hw : WordsOk c m) (hb0 : -9223372036854775808 ≤ sl) (hb1 : sl ≤ 9223372036854775807) (M : Um.Mm) (hM : M = Um.mtouch c m 1 4 sl 0 0) :
    Calls Tryz.prog 102 #[.pointer (some ⟨P, 0, none⟩), .pointer (some ⟨B, 0, none⟩)] w fun r w' => r = .returned (.agg #[.int .i64 (Um.part M.l.old 30 32 : Nat), .int .i64 (Um.part M.l.old 27 3 : Nat), .bool ((M.l.old : Nat).testBit 26), .bool ((M.l.old : Nat).testBit 25), .bool ((M.l.old : Nat).testBit 24), .int .i64 (Um.part M.l.old 12 12 : Nat), .int .i64 (Um.part M.l.old 0 12 : Nat)]) ∧ WordsOk c M ∧ Sx bs w0 w' (putL l [(i, B, memL c C M), (j, C, rowW M.ws c.n), (k, P, [.int .i64 sl, .int .u64 (M.l.old : Nat), .int .i64 st, fn])]) e := by
  have HO := hide (show Um.Word (Um.mtouch c m 1 4 sl 0 0).l.old from Um.old_word hw)
  rw [← hM] at HO
  have HS := hide hS
  have HI := hide (And.intro hi (And.intro hj hk))
  have hL := hS.enter3 i j k hi hj hk hij hik hjk
  have HR := hide hr
  have HW := hide hw
  have HM := hide hM
  have HBD := hide (And.intro hb0 hb1)
  clear hS hi hj hk hr hw hM hb0 hb1
  have hS := hL
  clear hL
  go_enter Tryz.func102, Tryz.ntmps102
  go_wp2_with (first | (refine ybox hS (h := ?_); clear hS; intro _ _ hS) | (refine yall hS (h := ?_); clear hS; intro _ _ hS) | refine yld hS (h := ?_) | (refine yst hS (h := ?_); clear hS; intro _ hS))
  refine (gSpotL_b (hS.get 2 rfl)).mono ?_
  rintro r u ⟨rfl, hb⟩
  replace hS := hS.call hb
  clear hb
  go_wp2_with fail
  refine (mLoad_x hS 0 1 rfl rfl (by decide) (unhide HR) (unhide HW) 4 sl (unhide HBD).1 (unhide HBD).2 M (unhide HM)).mono ?_
  rintro r u ⟨rfl, hWn, hSn⟩
  clear hS
  have hS := hSn
  clear hSn
  dsimp only [putL, List.set, List.cons_append, List.nil_append] at hS
  have HW6 := hide hWn
  clear hWn
  go_wp2_with (first | (refine ybox hS (h := ?_); clear hS; intro _ _ hS) | (refine yall hS (h := ?_); clear hS; intro _ _ hS) | refine yld hS (h := ?_) | (refine yst hS (h := ?_); clear hS; intro _ hS))
  refine (unpack_any M.l.old _ (unhide HO)).mono ?_
  rintro r u ⟨rfl, hb⟩
  replace hS := hS.call hb
  clear hb
  go_wp2_with (first | (refine ybox hS (h := ?_); clear hS; intro _ _ hS) | (refine yall hS (h := ?_); clear hS; intro _ _ hS) | refine yld hS (h := ?_) | (refine yst hS (h := ?_); clear hS; intro _ hS))
  have hZ := hS.get 3 rfl
  exact bodyPost_ret (v := .agg #[.int .i64 (Um.part M.l.old 30 32 : Nat), .int .i64 (Um.part M.l.old 27 3 : Nat), .bool ((M.l.old : Nat).testBit 26), .bool ((M.l.old : Nat).testBit 25), .bool ((M.l.old : Nat).testBit 24), .int .i64 (Um.part M.l.old 12 12 : Nat), .int .i64 (Um.part M.l.old 0 12 : Nat)]) (by simp [results, Tryz.results102, go_sem, hZ.cell 0 _ rfl, hZ.cell 1 _ rfl, hZ.cell 2 _ rfl, hZ.cell 3 _ rfl, hZ.cell 4 _ rfl, hZ.cell 5 _ rfl, hZ.cell 6 _ rfl]) rfl ⟨rfl, unhide HW6, (unhide HS).back3 i j k (unhide HI).1 (unhide HI).2.1 (unhide HI).2.2 hS⟩

set_option maxHeartbeats 4000000 in
theorem gSwapL_x (hS : Sx bs w0 w l e) (i j k : Nat) (hi : l[i]? = some (B, memL c C m)) (hj : l[j]? = some (C, rowW m.ws c.n)) (hk : l[k]? = some (P, [.int .i64 sl, .int .u64 (s : Nat), .int .i64 st, fn])) (hij : i ≠ j) (hik : i ≠ k) (hjk : j ≠ k) (hr : c.r = true) (hw : WordsOk c m) (hb0 : -9223372036854775808 ≤ sl) (hb1 : sl ≤ 9223372036854775807) (v : Nat) (hv : Um.Word v) (M : Um.Mm) (hM : M = Um.mtouch c m 3 4 sl s v) :
    Calls Tryz.prog 122 #[.pointer (some ⟨P, 0, none⟩), .pointer (some ⟨B, 0, none⟩), .int .u64 (v : Nat)] w fun r w' => r = .returned (.bool M.l.done) ∧ WordsOk c M ∧ Sx bs w0 w' (putL l [(i, B, memL c C M), (j, C, rowW M.ws c.n), (k, P, [.int .i64 sl, .int .u64 (s : Nat), .int .i64 st, fn])]) e := by
  have HS := hide hS
  have HI := hide (And.intro hi (And.intro hj hk))
  have hL := hS.enter3 i j k hi hj hk hij hik hjk
  have HR := hide hr
  have HW := hide hw
  have HM := hide hM
  have HV := hide hv
  have HBD := hide (And.intro hb0 hb1)
  clear hS hi hj hk hr hw hM hb0 hb1 hv
  have hS := hL
  clear hL
  have k1 := fun w' (hq : BlkAt w' P [.int .i64 sl, .int .u64 (s : Nat), .int .i64 st, fn]) => hq.cell 1 _ rfl
  have HP := hide (hS.get 2 rfl)
  go_enter Tryz.func122, Tryz.ntmps122
  go_wp2_with fail
  have HS3 := hide hS
  clear hS
  go_region_held3 (fun w' => BlkAt w' P [.int .i64 sl, .int .u64 (s : Nat), .int .i64 st, fn]) (first | exact (unhide HP).drew | exact BlkAt.below (by assumption) (by assumption) | assumption) (first | (go_at_call 119; refine (gSpotL_b (by assumption)).mono ?_; rintro e u5 ⟨rfl, hb5⟩) | (go_at_call 132; refine (mSwap_x ((unhide HS3).undrew hb5) 0 1 rfl rfl (by decide) (unhide HR) (unhide HW) 4 sl s v (unhide HV) (unhide HBD).1 (unhide HBD).2 M (unhide HM)).mono ?_; rintro e u7 ⟨rfl, hW6, hS6⟩; have hP6 := hS6.get 2 rfl))
  have hS := hS6
  have HW6 := hide hW6
  clear hS6 hP6 hW6 k1 HS3 HP
  dsimp only [putL, List.set] at hS
  go_wp2_with fail
  go_ret
  exact ⟨rfl, unhide HW6, (unhide HS).back3 i j k (unhide HI).1 (unhide HI).2.1 (unhide HI).2.2 hS⟩

set_option maxHeartbeats 4000000 in
theorem gStranger_x (hS : Sx bs w0 w l e) (i j k : Nat) (hi : l[i]? = some (B, memL c C m)) (hj : l[j]? = some (C, rowW m.ws c.n)) (hk : l[k]? = some (P, [.int .i64 sl, .int .u64 (s : Nat), .int .u64 (h : Nat), .slice la nl cl, fn, .int .i64 fe, .int .u64 (wd : Nat)])) (hij : i ≠ j) (hr : c.r = true) (hw : WordsOk c m) (hh : Um.Word h) : Calls Tryz.prog 104 #[.pointer (some ⟨P, 0, none⟩), .pointer (some ⟨B, 0, none⟩)] w fun r w' => r = .returned (.bool (!Um.ook h c.s)) ∧ Below w.heap.size w w' := by
  have HCF := hide (fun d os => Calls.regrown_of (config9_x (hS.call (below_regrown w d os)) i j hi hj hij hr hw))
  have HOF := hide (fun u => kOf_any h c.s u hh)
  have hf := field_cfgS
  have kA := cell_regrown ((hS.get k hk).cell 2 _ rfl)
  clear hS hi hj hk hij hr hw hh
  go_enter Tryz.func104, Tryz.ntmps104
  go_wp2_with fail
  refine wp_region_quiet_below (by kernel_rfl) (by kernel_rfl) ?_
  repeat (go_big_quiet_step (first | (go_at_call 123; exact (unhide HCF) _ _) | (go_at_call 43; exact Calls.regrown_of ((unhide HOF) _))))
  refine wpQuiet_nil ?_
  intro _ hw'
  obtain ⟨⟨dq, osq⟩, hw''⟩ := hw'
  subst hw''
  have hb := below_regrown w dq osq
  clear HCF HOF kA
  generalize grow (redrawn w dq) osq = u9 at *
  go_wp2
  go_ret
  exact ⟨rfl, hb⟩

set_option maxHeartbeats 2000000 in
theorem gDone_f (f : Fn) (a1 a2 : Array Value) (hS : Sx bs w0 w l e) (i j k : Nat) (hi : l[i]? = some (B, memL c C m)) (hj : l[j]? = some (C, rowW m.ws c.n)) (hk : l[k]? = some (P, [.int .i64 sl, .int .u64 (s : Nat), .int .u64 (h : Nat), .slice la nl cl, .func f a1 a2, .int .i64 fe, .int .u64 (wd : Nat)])) (hij : i ≠ j) (hr : c.r = true) (hw : WordsOk c m) (hh : Um.Word h) : Calls Tryz.prog 87 #[.pointer (some ⟨P, 0, none⟩), .pointer (some ⟨B, 0, none⟩)] w fun r w' => r = .returned (.bool (!Um.ook h c.s)) ∧ Below w.heap.size w w' := by
  have HST := hide (gStranger_x hS i j k hi hj hk hij hr hw hh)
  have hE := eqGFn
  have h4 := (hS.get k hk).cell 4 _ rfl
  clear hS hi hj hk hij hr hw hh
  go_enter Tryz.func87, Tryz.ntmps87
  go_wp2_with fail
  refine (unhide HST).mono ?_
  rintro r u ⟨rfl, hb⟩
  clear HST
  go_wp2
  go_ret
  exact ⟨rfl, hb⟩

set_option maxHeartbeats 2000000 in
theorem gDone_n (hS : Sx bs w0 w l e) (i j k : Nat) (hi : l[i]? = some (B, memL c C m)) (hj : l[j]? = some (C, rowW m.ws c.n)) (hk : l[k]? = some (P, [.int .i64 sl, .int .u64 (s : Nat), .int .u64 (h : Nat), .slice la nl cl, .nilFunc, .int .i64 fe, .int .u64 (wd : Nat)])) (hij : i ≠ j) (hr : c.r = true) (hw : WordsOk c m) (hh : Um.Word h) : Calls Tryz.prog 87 #[.pointer (some ⟨P, 0, none⟩), .pointer (some ⟨B, 0, none⟩)] w fun r w' => r = .returned (.bool (true)) ∧ Below w.heap.size w w' := by
  have hE := eqGNo
  have h4 := (hS.get k hk).cell 4 _ rfl
  clear hS hi hj hk hij hr hw hh
  go_enter Tryz.func87, Tryz.ntmps87
  go_wp2
  go_ret
  exact ⟨rfl, Below.refl _ _⟩

set_option maxHeartbeats 2000000 in
theorem gError_y (hS : Sx bs w0 w l e) (i j k : Nat) (hi : l[i]? = some (B, memL c C m)) (hj : l[j]? = some (C, rowW m.ws c.n)) (hk : l[k]? = some (P, [.int .i64 sl, .int .u64 (s : Nat), .int .u64 (h : Nat), .slice la nl cl, fn, .int .i64 fe, .int .u64 (wd : Nat)])) (hij : i ≠ j) (hr : c.r = true) (hw : WordsOk c m) (hh : Um.Word h) (hn : Um.ook h c.s = true) : Calls Tryz.prog 88 #[.pointer (some ⟨P, 0, none⟩), .pointer (some ⟨B, 0, none⟩)] w fun r w' => r = .returned (.int .i64 fe) ∧ Below w.heap.size w w' := by
  have HST := hide (gStranger_x hS i j k hi hj hk hij hr hw hh)
  rw [hn] at HST
  have HB := hide (hS.get k hk)
  clear hS hi hj hk hij hr hw hh hn
  go_enter Tryz.func88, Tryz.ntmps88
  go_wp2_with fail
  refine (unhide HST).mono ?_
  rintro r u ⟨rfl, hb⟩
  have h5 := ((unhide HB).below hb).cell 5 _ rfl
  clear HST HB
  go_wp2
  go_ret
  exact ⟨rfl, hb⟩

set_option maxHeartbeats 2000000 in
theorem gError_n (hS : Sx bs w0 w l e) (i j k : Nat) (hi : l[i]? = some (B, memL c C m)) (hj : l[j]? = some (C, rowW m.ws c.n)) (hk : l[k]? = some (P, [.int .i64 sl, .int .u64 (s : Nat), .int .u64 (h : Nat), .slice la nl cl, fn, .int .i64 fe, .int .u64 (wd : Nat)])) (hij : i ≠ j) (hr : c.r = true) (hw : WordsOk c m) (hh : Um.Word h) (hn : Um.ook h c.s = false) : Calls Tryz.prog 88 #[.pointer (some ⟨P, 0, none⟩), .pointer (some ⟨B, 0, none⟩)] w fun r w' => r = .returned (.int .i64 2) ∧ Below w.heap.size w w' := by
  have HST := hide (gStranger_x hS i j k hi hj hk hij hr hw hh)
  rw [hn] at HST
  have HB := hide (hS.get k hk)
  clear hS hi hj hk hij hr hw hh hn
  go_enter Tryz.func88, Tryz.ntmps88
  go_wp2_with fail
  refine (unhide HST).mono ?_
  rintro r u ⟨rfl, hb⟩
  have h5 := ((unhide HB).below hb).cell 5 _ rfl
  clear HST HB
  go_wp2
  go_ret
  exact ⟨rfl, hb⟩

set_option maxHeartbeats 4000000 in
theorem gAgainst_g (hB : BlkAt w P [.int .i64 sl, .int .u64 (s : Nat), .int .u64 (h : Nat), .slice la nl cl, fn, .int .i64 fe, .int .u64 (wd : Nat)]) (x : Nat) (Z : Nat → Int) (hh : Um.Word h) (hg : ((Um.gnN x : Nat) : Int) ≠ Um.tgN h) : Calls Tryz.prog 101 #[.pointer (some ⟨P, 0, none⟩), .agg #[.int .i64 (Um.part x 30 32 : Nat), .int .i64 (Um.part x 27 3 : Nat), .bool ((x : Nat).testBit 26), .bool ((x : Nat).testBit 25), .bool ((x : Nat).testBit 24), .int .i64 (Um.part x 12 12 : Nat), .int .i64 (Um.part x 0 12 : Nat)]] w fun r w' => r = .returned (.int .i64 2) ∧ Below w.heap.size w w' := by
  have g1 : ¬ ((Um.part x 30 32 : Nat) : Int) = Um.tgN h := hg
  have g2 : (((Um.part x 30 32 : Nat) : Int) != Um.tgN h) = true := by simpa using g1
  clear hg
  have hS := Sx.read1 hB
  have HH := hide hh
  clear hB hh
  go_enter Tryz.func101, Tryz.ntmps101
  go_wp2_with (first | (refine ybox hS (h := ?_); clear hS; intro _ _ hS) | (refine yall hS (h := ?_); clear hS; intro _ _ hS) | refine yld hS (h := ?_) | (refine yst hS (h := ?_); clear hS; intro _ hS))
  obtain ⟨u, rfl⟩ := nameW hS
  have kP := cell_regrown ((hS.getE 0 rfl).cell 2 _ rfl)
  have k0 := cell_regrown ((hS.get 0 rfl).cell 0 _ rfl)
  have HSQ := hide hS
  clear hS
  refine wp_region_quiet_below (by kernel_rfl) (by kernel_rfl) ?_
  repeat (go_big_quiet_step (first | (go_at_call 117; exact Calls.regrown_of (kGen_any _ _ (unhide HH)))))
  refine wpQuiet_nil ?_
  intro _ hw'
  obtain ⟨⟨dq, osq⟩, hw''⟩ := hw'
  subst hw''
  have hS := (unhide HSQ).call (below_regrown u dq osq)
  clear HSQ kP k0
  generalize grow (redrawn u dq) osq = u9 at *
  go_wp2_with (first | (refine ybox hS (h := ?_); clear hS; intro _ _ hS) | (refine yall hS (h := ?_); clear hS; intro _ _ hS) | refine yld hS (h := ?_) | (refine yst hS (h := ?_); clear hS; intro _ hS))
  have hB := hS.bel
  clear hS
  try go_wp2
  go_ret
  exact ⟨rfl, hB⟩

set_option maxHeartbeats 4000000 in
theorem gAgainst_0 (hB : BlkAt w P [.int .i64 sl, .int .u64 (s : Nat), .int .u64 (h : Nat), .slice la nl cl, fn, .int .i64 fe, .int .u64 (wd : Nat)]) (x : Nat) (Z : Nat → Int) (hh : Um.Word h) (hg : ((Um.gnN x : Nat) : Int) = Um.tgN h) (h3 : Um.stN x = 0) : Calls Tryz.prog 101 #[.pointer (some ⟨P, 0, none⟩), .agg #[.int .i64 (Um.part x 30 32 : Nat), .int .i64 (Um.part x 27 3 : Nat), .bool ((x : Nat).testBit 26), .bool ((x : Nat).testBit 25), .bool ((x : Nat).testBit 24), .int .i64 (Um.part x 12 12 : Nat), .int .i64 (Um.part x 0 12 : Nat)]] w fun r w' => r = .returned (.int .i64 2) ∧ Below w.heap.size w w' := by
  have g1 : ((Um.part x 30 32 : Nat) : Int) = Um.tgN h := hg
  have g2 : (((Um.part x 30 32 : Nat) : Int) != Um.tgN h) = false := by simpa using g1
  clear hg
  have hq : Um.part x 27 3 = 0 := h3
  clear h3
  rw [hq]
  have hS := Sx.read1 hB
  have HH := hide hh
  clear hB hh
  go_enter Tryz.func101, Tryz.ntmps101
  go_wp2_with (first | (refine ybox hS (h := ?_); clear hS; intro _ _ hS) | (refine yall hS (h := ?_); clear hS; intro _ _ hS) | refine yld hS (h := ?_) | (refine yst hS (h := ?_); clear hS; intro _ hS))
  obtain ⟨u, rfl⟩ := nameW hS
  have kP := cell_regrown ((hS.getE 0 rfl).cell 2 _ rfl)
  have k0 := cell_regrown ((hS.get 0 rfl).cell 0 _ rfl)
  have HSQ := hide hS
  clear hS
  refine wp_region_quiet_below (by kernel_rfl) (by kernel_rfl) ?_
  repeat (go_big_quiet_step (first | (go_at_call 117; exact Calls.regrown_of (kGen_any _ _ (unhide HH)))))
  refine wpQuiet_nil ?_
  intro _ hw'
  obtain ⟨⟨dq, osq⟩, hw''⟩ := hw'
  subst hw''
  have hS := (unhide HSQ).call (below_regrown u dq osq)
  clear HSQ kP k0
  generalize grow (redrawn u dq) osq = u9 at *
  go_wp2_with (first | (refine ybox hS (h := ?_); clear hS; intro _ _ hS) | (refine yall hS (h := ?_); clear hS; intro _ _ hS) | refine yld hS (h := ?_) | (refine yst hS (h := ?_); clear hS; intro _ hS))
  have hB := hS.bel
  clear hS
  try go_wp2
  go_ret
  exact ⟨rfl, hB⟩

set_option maxHeartbeats 4000000 in
theorem gAgainst_1 (hB : BlkAt w P [.int .i64 sl, .int .u64 (s : Nat), .int .u64 (h : Nat), .slice la nl cl, fn, .int .i64 fe, .int .u64 (wd : Nat)]) (x : Nat) (Z : Nat → Int) (hh : Um.Word h) (hg : ((Um.gnN x : Nat) : Int) = Um.tgN h) (h3 : Um.stN x = 1) : Calls Tryz.prog 101 #[.pointer (some ⟨P, 0, none⟩), .agg #[.int .i64 (Um.part x 30 32 : Nat), .int .i64 (Um.part x 27 3 : Nat), .bool ((x : Nat).testBit 26), .bool ((x : Nat).testBit 25), .bool ((x : Nat).testBit 24), .int .i64 (Um.part x 12 12 : Nat), .int .i64 (Um.part x 0 12 : Nat)]] w fun r w' => r = .returned (.int .i64 2) ∧ Below w.heap.size w w' := by
  have g1 : ((Um.part x 30 32 : Nat) : Int) = Um.tgN h := hg
  have g2 : (((Um.part x 30 32 : Nat) : Int) != Um.tgN h) = false := by simpa using g1
  clear hg
  have hq : Um.part x 27 3 = 1 := h3
  clear h3
  rw [hq]
  have hS := Sx.read1 hB
  have HH := hide hh
  clear hB hh
  go_enter Tryz.func101, Tryz.ntmps101
  go_wp2_with (first | (refine ybox hS (h := ?_); clear hS; intro _ _ hS) | (refine yall hS (h := ?_); clear hS; intro _ _ hS) | refine yld hS (h := ?_) | (refine yst hS (h := ?_); clear hS; intro _ hS))
  obtain ⟨u, rfl⟩ := nameW hS
  have kP := cell_regrown ((hS.getE 0 rfl).cell 2 _ rfl)
  have k0 := cell_regrown ((hS.get 0 rfl).cell 0 _ rfl)
  have HSQ := hide hS
  clear hS
  refine wp_region_quiet_below (by kernel_rfl) (by kernel_rfl) ?_
  repeat (go_big_quiet_step (first | (go_at_call 117; exact Calls.regrown_of (kGen_any _ _ (unhide HH)))))
  refine wpQuiet_nil ?_
  intro _ hw'
  obtain ⟨⟨dq, osq⟩, hw''⟩ := hw'
  subst hw''
  have hS := (unhide HSQ).call (below_regrown u dq osq)
  clear HSQ kP k0
  generalize grow (redrawn u dq) osq = u9 at *
  go_wp2_with (first | (refine ybox hS (h := ?_); clear hS; intro _ _ hS) | (refine yall hS (h := ?_); clear hS; intro _ _ hS) | refine yld hS (h := ?_) | (refine yst hS (h := ?_); clear hS; intro _ hS))
  have hB := hS.bel
  clear hS
  try go_wp2
  go_ret
  exact ⟨rfl, hB⟩

set_option maxHeartbeats 4000000 in
theorem gAgainst_b (hB : BlkAt w P [.int .i64 sl, .int .u64 (s : Nat), .int .u64 (h : Nat), .slice la nl cl, fn, .int .i64 fe, .int .u64 (wd : Nat)]) (x : Nat) (Z : Nat → Int) (hh : Um.Word h) (hg : ((Um.gnN x : Nat) : Int) = Um.tgN h) (h0 : Um.stN x ≠ 0) (h1 : Um.stN x ≠ 1) (hz : x.testBit 26 = true) : Calls Tryz.prog 101 #[.pointer (some ⟨P, 0, none⟩), .agg #[.int .i64 (Um.part x 30 32 : Nat), .int .i64 (Um.part x 27 3 : Nat), .bool ((x : Nat).testBit 26), .bool ((x : Nat).testBit 25), .bool ((x : Nat).testBit 24), .int .i64 (Um.part x 12 12 : Nat), .int .i64 (Um.part x 0 12 : Nat)]] w fun r w' => r = .returned (.int .i64 3) ∧ Below w.heap.size w w' := by
  have g1 : ((Um.part x 30 32 : Nat) : Int) = Um.tgN h := hg
  have g2 : (((Um.part x 30 32 : Nat) : Int) != Um.tgN h) = false := by simpa using g1
  clear hg
  have hq : Um.stN x = Um.part x 27 3 := rfl
  have s1 : ¬ ((Um.part x 27 3 : Nat) : Int) = 0 := by omega
  have s2 : (((Um.part x 27 3 : Nat) : Int) == 0) = false := by simpa using s1
  have s3 : ¬ ((Um.part x 27 3 : Nat) : Int) = 1 := by omega
  have s4 : (((Um.part x 27 3 : Nat) : Int) == 1) = false := by simpa using s3
  clear h0 h1 hq
  rw [hz]
  have hS := Sx.read1 hB
  have HH := hide hh
  clear hB hh
  go_enter Tryz.func101, Tryz.ntmps101
  go_wp2_with (first | (refine ybox hS (h := ?_); clear hS; intro _ _ hS) | (refine yall hS (h := ?_); clear hS; intro _ _ hS) | refine yld hS (h := ?_) | (refine yst hS (h := ?_); clear hS; intro _ hS))
  obtain ⟨u, rfl⟩ := nameW hS
  have kP := cell_regrown ((hS.getE 0 rfl).cell 2 _ rfl)
  have k0 := cell_regrown ((hS.get 0 rfl).cell 0 _ rfl)
  have HSQ := hide hS
  clear hS
  refine wp_region_quiet_below (by kernel_rfl) (by kernel_rfl) ?_
  repeat (go_big_quiet_step (first | (go_at_call 117; exact Calls.regrown_of (kGen_any _ _ (unhide HH)))))
  refine wpQuiet_nil ?_
  intro _ hw'
  obtain ⟨⟨dq, osq⟩, hw''⟩ := hw'
  subst hw''
  have hS := (unhide HSQ).call (below_regrown u dq osq)
  clear HSQ kP k0
  generalize grow (redrawn u dq) osq = u9 at *
  go_wp2_with (first | (refine ybox hS (h := ?_); clear hS; intro _ _ hS) | (refine yall hS (h := ?_); clear hS; intro _ _ hS) | refine yld hS (h := ?_) | (refine yst hS (h := ?_); clear hS; intro _ hS))
  have hB := hS.bel
  clear hS
  try go_wp2
  go_ret
  exact ⟨rfl, hB⟩

set_option maxHeartbeats 4000000 in
theorem gAgainst_y (hB : BlkAt w P [.int .i64 sl, .int .u64 (s : Nat), .int .u64 (h : Nat), .slice la nl cl, fn, .int .i64 fe, .int .u64 (wd : Nat)]) (x : Nat) (Z : Nat → Int) (hh : Um.Word h) (hg : ((Um.gnN x : Nat) : Int) = Um.tgN h) (h0 : Um.stN x ≠ 0) (h1 : Um.stN x ≠ 1) (hz : x.testBit 26 = false) (hb : nl ≤ 50) (hZ : RowOf w la nl (fun i => .int .i64 (Z i))) (hi : inZ Z nl ((Um.stN x : Nat) : Int) = true) : Calls Tryz.prog 101 #[.pointer (some ⟨P, 0, none⟩), .agg #[.int .i64 (Um.part x 30 32 : Nat), .int .i64 (Um.part x 27 3 : Nat), .bool ((x : Nat).testBit 26), .bool ((x : Nat).testBit 25), .bool ((x : Nat).testBit 24), .int .i64 (Um.part x 12 12 : Nat), .int .i64 (Um.part x 0 12 : Nat)]] w fun r w' => r = .returned (.int .i64 0) ∧ Below w.heap.size w w' := by
  have g1 : ((Um.part x 30 32 : Nat) : Int) = Um.tgN h := hg
  have g2 : (((Um.part x 30 32 : Nat) : Int) != Um.tgN h) = false := by simpa using g1
  clear hg
  have hq : Um.stN x = Um.part x 27 3 := rfl
  have s1 : ¬ ((Um.part x 27 3 : Nat) : Int) = 0 := by omega
  have s2 : (((Um.part x 27 3 : Nat) : Int) == 0) = false := by simpa using s1
  have s3 : ¬ ((Um.part x 27 3 : Nat) : Int) = 1 := by omega
  have s4 : (((Um.part x 27 3 : Nat) : Int) == 1) = false := by simpa using s3
  clear h0 h1 hq
  rw [hz]
  have HIN := hide (And.intro hZ hi)
  clear hz hZ hi
  have hS := Sx.read1 hB
  have HH := hide hh
  clear hB hh
  go_enter Tryz.func101, Tryz.ntmps101
  go_wp2_with (first | (refine ybox hS (h := ?_); clear hS; intro _ _ hS) | (refine yall hS (h := ?_); clear hS; intro _ _ hS) | refine yld hS (h := ?_) | (refine yst hS (h := ?_); clear hS; intro _ hS))
  obtain ⟨u, rfl⟩ := nameW hS
  have kP := cell_regrown ((hS.getE 0 rfl).cell 2 _ rfl)
  have k0 := cell_regrown ((hS.get 0 rfl).cell 0 _ rfl)
  have HSQ := hide hS
  clear hS
  refine wp_region_quiet_below (by kernel_rfl) (by kernel_rfl) ?_
  repeat (go_big_quiet_step (first | (go_at_call 117; exact Calls.regrown_of (kGen_any _ _ (unhide HH)))))
  refine wpQuiet_nil ?_
  intro _ hw'
  obtain ⟨⟨dq, osq⟩, hw''⟩ := hw'
  subst hw''
  have hS := (unhide HSQ).call (below_regrown u dq osq)
  clear HSQ kP k0
  generalize grow (redrawn u dq) osq = u9 at *
  go_wp2_with (first | (refine ybox hS (h := ?_); clear hS; intro _ _ hS) | (refine yall hS (h := ?_); clear hS; intro _ _ hS) | refine yld hS (h := ?_) | (refine yst hS (h := ?_); clear hS; intro _ hS))
  obtain ⟨u, rfl⟩ := nameW hS
  have kP := cell_regrown ((hS.getE 0 rfl).cell 3 _ rfl)
  have k1 := cell_regrown ((hS.get 0 rfl).cell 1 _ rfl)
  have HCT := hide (fun d os => Calls.regrown_of (same_below (gContains_any la nl cl Z ((Um.part x 27 3 : Nat) : Int) _ hb (((unhide HIN).1.below hS.bel).below (below_regrown u d os)))))
  rw [show inZ Z nl ((Um.part x 27 3 : Nat) : Int) = true from (unhide HIN).2] at HCT
  have HSQ := hide hS
  clear hS
  refine wp_region_quiet_below (by kernel_rfl) (by kernel_rfl) ?_
  repeat (go_big_quiet_step (first | (go_at_call 118; exact (unhide HCT) _ _)))
  refine wpQuiet_nil ?_
  intro _ hw'
  obtain ⟨⟨dq, osq⟩, hw''⟩ := hw'
  subst hw''
  have hS := (unhide HSQ).call (below_regrown u dq osq)
  clear HCT HSQ kP k1
  generalize grow (redrawn u dq) osq = u8 at *
  go_wp2_with (first | (refine ybox hS (h := ?_); clear hS; intro _ _ hS) | (refine yall hS (h := ?_); clear hS; intro _ _ hS) | refine yld hS (h := ?_) | (refine yst hS (h := ?_); clear hS; intro _ hS))
  have hB := hS.bel
  clear hS
  try go_wp2
  go_ret
  exact ⟨rfl, hB⟩

set_option maxHeartbeats 4000000 in
theorem gAgainst_n (hB : BlkAt w P [.int .i64 sl, .int .u64 (s : Nat), .int .u64 (h : Nat), .slice la nl cl, fn, .int .i64 fe, .int .u64 (wd : Nat)]) (x : Nat) (Z : Nat → Int) (hh : Um.Word h) (hg : ((Um.gnN x : Nat) : Int) = Um.tgN h) (h0 : Um.stN x ≠ 0) (h1 : Um.stN x ≠ 1) (hz : x.testBit 26 = false) (hb : nl ≤ 50) (hZ : RowOf w la nl (fun i => .int .i64 (Z i))) (hi : inZ Z nl ((Um.stN x : Nat) : Int) = false) : Calls Tryz.prog 101 #[.pointer (some ⟨P, 0, none⟩), .agg #[.int .i64 (Um.part x 30 32 : Nat), .int .i64 (Um.part x 27 3 : Nat), .bool ((x : Nat).testBit 26), .bool ((x : Nat).testBit 25), .bool ((x : Nat).testBit 24), .int .i64 (Um.part x 12 12 : Nat), .int .i64 (Um.part x 0 12 : Nat)]] w fun r w' => r = .returned (.int .i64 4) ∧ Below w.heap.size w w' := by
  have g1 : ((Um.part x 30 32 : Nat) : Int) = Um.tgN h := hg
  have g2 : (((Um.part x 30 32 : Nat) : Int) != Um.tgN h) = false := by simpa using g1
  clear hg
  have hq : Um.stN x = Um.part x 27 3 := rfl
  have s1 : ¬ ((Um.part x 27 3 : Nat) : Int) = 0 := by omega
  have s2 : (((Um.part x 27 3 : Nat) : Int) == 0) = false := by simpa using s1
  have s3 : ¬ ((Um.part x 27 3 : Nat) : Int) = 1 := by omega
  have s4 : (((Um.part x 27 3 : Nat) : Int) == 1) = false := by simpa using s3
  clear h0 h1 hq
  rw [hz]
  have HIN := hide (And.intro hZ hi)
  clear hz hZ hi
  have hS := Sx.read1 hB
  have HH := hide hh
  clear hB hh
  go_enter Tryz.func101, Tryz.ntmps101
  go_wp2_with (first | (refine ybox hS (h := ?_); clear hS; intro _ _ hS) | (refine yall hS (h := ?_); clear hS; intro _ _ hS) | refine yld hS (h := ?_) | (refine yst hS (h := ?_); clear hS; intro _ hS))
  obtain ⟨u, rfl⟩ := nameW hS
  have kP := cell_regrown ((hS.getE 0 rfl).cell 2 _ rfl)
  have k0 := cell_regrown ((hS.get 0 rfl).cell 0 _ rfl)
  have HSQ := hide hS
  clear hS
  refine wp_region_quiet_below (by kernel_rfl) (by kernel_rfl) ?_
  repeat (go_big_quiet_step (first | (go_at_call 117; exact Calls.regrown_of (kGen_any _ _ (unhide HH)))))
  refine wpQuiet_nil ?_
  intro _ hw'
  obtain ⟨⟨dq, osq⟩, hw''⟩ := hw'
  subst hw''
  have hS := (unhide HSQ).call (below_regrown u dq osq)
  clear HSQ kP k0
  generalize grow (redrawn u dq) osq = u9 at *
  go_wp2_with (first | (refine ybox hS (h := ?_); clear hS; intro _ _ hS) | (refine yall hS (h := ?_); clear hS; intro _ _ hS) | refine yld hS (h := ?_) | (refine yst hS (h := ?_); clear hS; intro _ hS))
  obtain ⟨u, rfl⟩ := nameW hS
  have kP := cell_regrown ((hS.getE 0 rfl).cell 3 _ rfl)
  have k1 := cell_regrown ((hS.get 0 rfl).cell 1 _ rfl)
  have HCT := hide (fun d os => Calls.regrown_of (same_below (gContains_any la nl cl Z ((Um.part x 27 3 : Nat) : Int) _ hb (((unhide HIN).1.below hS.bel).below (below_regrown u d os)))))
  rw [show inZ Z nl ((Um.part x 27 3 : Nat) : Int) = false from (unhide HIN).2] at HCT
  have HSQ := hide hS
  clear hS
  refine wp_region_quiet_below (by kernel_rfl) (by kernel_rfl) ?_
  repeat (go_big_quiet_step (first | (go_at_call 118; exact (unhide HCT) _ _)))
  refine wpQuiet_nil ?_
  intro _ hw'
  obtain ⟨⟨dq, osq⟩, hw''⟩ := hw'
  subst hw''
  have hS := (unhide HSQ).call (below_regrown u dq osq)
  clear HCT HSQ kP k1
  generalize grow (redrawn u dq) osq = u8 at *
  go_wp2_with (first | (refine ybox hS (h := ?_); clear hS; intro _ _ hS) | (refine yall hS (h := ?_); clear hS; intro _ _ hS) | refine yld hS (h := ?_) | (refine yst hS (h := ?_); clear hS; intro _ hS))
  have hB := hS.bel
  clear hS
  try go_wp2
  go_ret
  exact ⟨rfl, hB⟩

theorem gAgainst_any (hB : BlkAt w P [.int .i64 sl, .int .u64 (s : Nat), .int .u64 (h : Nat), .slice la nl cl, fn, .int .i64 fe, .int .u64 (wd : Nat)]) (x : Nat) (Z : Nat → Int) (hh : Um.Word h) (hb : nl ≤ 50) (hZ : RowOf w la nl (fun i => .int .i64 (Z i))) : Calls Tryz.prog 101 #[.pointer (some ⟨P, 0, none⟩), .agg #[.int .i64 (Um.part x 30 32 : Nat), .int .i64 (Um.part x 27 3 : Nat), .bool ((x : Nat).testBit 26), .bool ((x : Nat).testBit 25), .bool ((x : Nat).testBit 24), .int .i64 (Um.part x 12 12 : Nat), .int .i64 (Um.part x 0 12 : Nat)]] w fun r w' => r = .returned (.int .i64 (Um.flN h (fun k => inZ Z nl ((k : Nat) : Int)) x)) ∧ Below w.heap.size w w' := by
  by_cases hg : ((Um.gnN x : Nat) : Int) = Um.tgN h
  · by_cases h0 : Um.stN x = 0
    · rw [show Um.flN h (fun k => inZ Z nl ((k : Nat) : Int)) x = 2 by unfold Um.flN; rw [if_pos (.inr (.inl h0))]]
      exact gAgainst_0 hB x Z hh hg h0
    by_cases h1 : Um.stN x = 1
    · rw [show Um.flN h (fun k => inZ Z nl ((k : Nat) : Int)) x = 2 by unfold Um.flN; rw [if_pos (.inr (.inr h1))]]
      exact gAgainst_1 hB x Z hh hg h1
    have hno : ¬ (((Um.gnN x : Nat) : Int) ≠ Um.tgN h ∨ Um.stN x = 0 ∨ Um.stN x = 1) := by
      rintro (q | q | q)
      · exact q hg
      · exact h0 q
      · exact h1 q
    cases hz : x.testBit 26 with
    | true =>
      rw [show Um.flN h (fun k => inZ Z nl ((k : Nat) : Int)) x = 3 by unfold Um.flN; rw [if_neg hno, hz, if_pos rfl]]
      have := gAgainst_b hB x Z hh hg h0 h1 hz
      rwa [hz] at this
    | false =>
      cases hi : inZ Z nl ((Um.stN x : Nat) : Int) with
      | true =>
        rw [show Um.flN h (fun k => inZ Z nl ((k : Nat) : Int)) x = 0 by unfold Um.flN; rw [if_neg hno, hz, if_neg (by decide)]; simp only [hi]; rfl]
        have := gAgainst_y hB x Z hh hg h0 h1 hz hb hZ hi
        rwa [hz] at this
      | false =>
        rw [show Um.flN h (fun k => inZ Z nl ((k : Nat) : Int)) x = 4 by unfold Um.flN; rw [if_neg hno, hz, if_neg (by decide)]; simp only [hi]; rfl]
        have := gAgainst_n hB x Z hh hg h0 h1 hz hb hZ hi
        rwa [hz] at this
  · rw [show Um.flN h (fun k => inZ Z nl ((k : Nat) : Int)) x = 2 by unfold Um.flN; rw [if_pos (.inl hg)]]
    exact gAgainst_g hB x Z hh hg

end

end Go.Proofs.YtapgghciieloaaaGreat

/-
  The walks of the program's gate: the steps of an entering and of a leaving, new ones.
-/
namespace Go.Proofs.YtapgghciieloaaaGreat
set_option maxRecDepth 100000
open Go.RowKit Go.Sort
set_option linter.unusedVariables false
set_option linter.unusedSimpArgs false

/-- what a callee has made, beside what the caller has -/
theorem Sx.plus {bs : List Nat} {w0 w w' : World} {l e n f : List (Nat × List Value)} (h : Sx bs w0 w l e) (b : Below w.heap.size w w') (h2 : Sx [] w w' n f) (hf : ∀ p ∈ f, w.heap.size ≤ p.1) : Sx bs w0 w' (l ++ n) (e ++ f) := by
  have h' := h.adds b n h2.blk (fun p hp => (h2.low p hp).resolve_left (by simp)) h2.nd
  refine ⟨h'.off, h'.low, h'.blk, h'.nd, fun p hp => ?_, fun p hp q hq => ?_⟩
  · rcases List.mem_append.1 hp with q | q
    · exact h'.eb p q
    · exact h2.eb p q
  · rcases List.mem_append.1 hp with q1 | q1
    · exact h'.ed p q1 q hq
    · rcases List.mem_append.1 hq with q2 | q2
      · have h3 := (h.blk q q2).lt
        have h4 := hf p q1
        omega
      · exact h2.ed p q1 q q2

theorem field_stat1g (a b c d e f g : Value) (w : World) : (Instr.field 170 (.agg #[a, b, c, d, e, f, g]) 1).run Tryz.prog w = .ok b w := by simp [Instr.field, go_sem, asAgg]

section
variable {bs : List Nat} {w0 w : World} {l e : List (Nat × List Value)} {B C P : Nat} {c : Um.Cf} {m : Um.Mm} {sl st fe : Int} {h s wd : Nat} {la : Option Addr} {nl cl : Nat} {fn : Value}

set_option maxHeartbeats 4000000 in
theorem gJudge_0 (hS : Sx bs w0 w l e) (i j k : Nat) (hi : l[i]? = some (B, memL c C m)) (hj : l[j]? = some (C, rowW m.ws c.n)) (hk : l[k]? = some (P, [.int .i64 sl, .int .u64 (s : Nat), .int .u64 (h : Nat), .slice la nl cl, fn, .int .i64 fe, .int .u64 (wd : Nat)])) (hij : i ≠ j) (hik : i ≠ k) (hjk : j ≠ k) (hr : c.r = true) (hw : WordsOk c m) (hb0 : -9223372036854775808 ≤ sl) (hb1 : sl ≤ 9223372036854775807) (M : Um.Mm) (hM : M = Um.mtouch c m 1 4 sl 0 0) (Z : Nat → Int) (hh : Um.Word h) (hnl : nl ≤ 50) (hSt : StB la nl Z e) (hf : Um.flN h (fun k => inZ Z nl ((k : Nat) : Int)) M.l.old = 0) :
    Calls Tryz.prog 85 #[.pointer (some ⟨P, 0, none⟩), .pointer (some ⟨B, 0, none⟩)] w fun r w' => r = .returned (.tuple #[]) ∧ WordsOk c M ∧ Sx bs w0 w' (putL l [(i, B, memL c C M), (j, C, rowW M.ws c.n), (k, P, [.int .i64 sl, .int .u64 (M.l.old : Nat), .int .u64 (h : Nat), .slice la nl cl, .func (.func 103) #[.pointer (some ⟨P, 0, none⟩)] #[], .int .i64 0, .int .u64 (wd : Nat)])]) e := by
  have HS := hide hS
  have HI := hide (And.intro hi (And.intro hj hk))
  have hL := hS.enter3e i j k hi hj hk hij hik hjk
  have HR := hide hr
  have HW := hide hw
  have HM := hide hM
  have HBD := hide (And.intro hb0 hb1)
  have HF := hide hf
  have HH := hide hh
  clear hS hi hj hk hr hw hM hb0 hb1 hf hh
  have hS := hL
  clear hL
  go_enter Tryz.func85, Tryz.ntmps85
  go_wp2_with fail
  refine (gLookE_x hS 0 1 2 rfl rfl rfl (by decide) (by decide) (by decide) (unhide HR) (unhide HW) (unhide HBD).1 (unhide HBD).2 M (unhide HM)).mono ?_
  rintro r u ⟨rfl, hWn, hSn⟩
  clear hS
  have hS := hSn
  clear hSn
  dsimp only [putL, List.set, List.cons_append, List.nil_append] at hS
  have HW6 := hide hWn
  clear hWn
  go_wp2_with fail
  refine (gAgainst_any (hS.get 2 rfl) M.l.old Z (unhide HH) hnl (hSt.row hS)).mono ?_
  rintro r u ⟨rfl, hb⟩
  replace hS := hS.call hb
  clear hb
  rw [unhide HF]
  go_wp2_with (first | (refine ybox hS (h := ?_); clear hS; intro _ _ hS) | (refine yall hS (h := ?_); clear hS; intro _ _ hS) | refine yld hS (h := ?_) | (refine yst hS (h := ?_); clear hS; intro _ hS))
  first | go_end0 | ((try simp only [Exit.inBlock, Exit.then]); refine bodyPost_ret (results_none rfl _ _ _) rfl ?_)
  exact ⟨rfl, unhide HW6, (unhide HS).back3 i j k (unhide HI).1 (unhide HI).2.1 (unhide HI).2.2 hS⟩

set_option maxHeartbeats 4000000 in
theorem gJudge_n (hS : Sx bs w0 w l e) (i j k : Nat) (hi : l[i]? = some (B, memL c C m)) (hj : l[j]? = some (C, rowW m.ws c.n)) (hk : l[k]? = some (P, [.int .i64 sl, .int .u64 (s : Nat), .int .u64 (h : Nat), .slice la nl cl, fn, .int .i64 fe, .int .u64 (wd : Nat)])) (hij : i ≠ j) (hik : i ≠ k) (hjk : j ≠ k) (hr : c.r = true) (hw : WordsOk c m) (hb0 : -9223372036854775808 ≤ sl) (hb1 : sl ≤ 9223372036854775807) (M : Um.Mm) (hM : M = Um.mtouch c m 1 4 sl 0 0) (Z : Nat → Int) (hh : Um.Word h) (hnl : nl ≤ 50) (hSt : StB la nl Z e) (fe2 : Int) (hf : Um.flN h (fun k => inZ Z nl ((k : Nat) : Int)) M.l.old = fe2) (hf0 : fe2 ≠ 0) :
    Calls Tryz.prog 85 #[.pointer (some ⟨P, 0, none⟩), .pointer (some ⟨B, 0, none⟩)] w fun r w' => r = .returned (.tuple #[]) ∧ WordsOk c M ∧ Sx bs w0 w' (putL l [(i, B, memL c C M), (j, C, rowW M.ws c.n), (k, P, [.int .i64 sl, .int .u64 (M.l.old : Nat), .int .u64 (h : Nat), .slice la nl cl, .nilFunc, .int .i64 fe2, .int .u64 (wd : Nat)])]) e := by
  have f1 : ¬ fe2 = 0 := hf0
  have f2 : (fe2 != 0) = true := by simpa using f1
  clear hf0
  have HS := hide hS
  have HI := hide (And.intro hi (And.intro hj hk))
  have hL := hS.enter3e i j k hi hj hk hij hik hjk
  have HR := hide hr
  have HW := hide hw
  have HM := hide hM
  have HBD := hide (And.intro hb0 hb1)
  have HF := hide hf
  have HH := hide hh
  clear hS hi hj hk hr hw hM hb0 hb1 hf hh
  have hS := hL
  clear hL
  go_enter Tryz.func85, Tryz.ntmps85
  go_wp2_with fail
  refine (gLookE_x hS 0 1 2 rfl rfl rfl (by decide) (by decide) (by decide) (unhide HR) (unhide HW) (unhide HBD).1 (unhide HBD).2 M (unhide HM)).mono ?_
  rintro r u ⟨rfl, hWn, hSn⟩
  clear hS
  have hS := hSn
  clear hSn
  dsimp only [putL, List.set, List.cons_append, List.nil_append] at hS
  have HW6 := hide hWn
  clear hWn
  go_wp2_with fail
  refine (gAgainst_any (hS.get 2 rfl) M.l.old Z (unhide HH) hnl (hSt.row hS)).mono ?_
  rintro r u ⟨rfl, hb⟩
  replace hS := hS.call hb
  clear hb
  rw [unhide HF]
  go_wp2_with (first | (refine ybox hS (h := ?_); clear hS; intro _ _ hS) | (refine yall hS (h := ?_); clear hS; intro _ _ hS) | refine yld hS (h := ?_) | (refine yst hS (h := ?_); clear hS; intro _ hS))
  first | go_end0 | ((try simp only [Exit.inBlock, Exit.then]); refine bodyPost_ret (results_none rfl _ _ _) rfl ?_)
  exact ⟨rfl, unhide HW6, (unhide HS).back3 i j k (unhide HI).1 (unhide HI).2.1 (unhide HI).2.2 hS⟩

set_option maxHeartbeats 4000000 in
theorem gTake_t (hS : Sx bs w0 w l e) (i j k : Nat) (hi : l[i]? = some (B, memL c C m)) (hj : l[j]? = some (C, rowW m.ws c.n)) (hk : l[k]? = some (P, [.int .i64 sl, .int .u64 (s : Nat), .int .u64 (h : Nat), .slice la nl cl, fn, .int .i64 fe, .int .u64 (wd : Nat)])) (hij : i ≠ j) (hik : i ≠ k) (hjk : j ≠ k) (hr : c.r = true) (hw : WordsOk c m) (hb0 : -9223372036854775808 ≤ sl) (hb1 : sl ≤ 9223372036854775807) (M : Um.Mm) (hM : M = Um.mtouch c m 3 4 sl s (Um.bzN s)) (hs : Um.Word s) (hd : M.l.done = true) :
    Calls Tryz.prog 103 #[.pointer (some ⟨P, 0, none⟩), .pointer (some ⟨B, 0, none⟩)] w fun r w' => r = .returned (.tuple #[]) ∧ WordsOk c M ∧ Sx bs w0 w' (putL l [(i, B, memL c C M), (j, C, rowW M.ws c.n), (k, P, [.int .i64 sl, .int .u64 (s : Nat), .int .u64 (h : Nat), .slice la nl cl, .nilFunc, .int .i64 fe, .int .u64 ((Um.bzN s : Nat) : Int)])]) e := by
  have HS := hide hS
  have HI := hide (And.intro hi (And.intro hj hk))
  have hL := hS.enter3 i j k hi hj hk hij hik hjk
  have HR := hide hr
  have HW := hide hw
  have HM := hide hM
  have HBD := hide (And.intro hb0 hb1)
  have HSW := hide hs
  have HD := hide hd
  clear hS hi hj hk hr hw hM hb0 hb1 hs hd
  have hS := hL
  clear hL
  have hf1 := field_stat1g
  go_enter Tryz.func103, Tryz.ntmps103
  go_wp2_with fail
  obtain ⟨u, rfl⟩ := nameW hS
  have kP := cell_regrown ((hS.get 2 rfl).cell 1 _ rfl)
  have HMV := hide (fun d os => Calls.regrown_of (gMovedE_b ((hS.call (below_regrown u d os)).get 2 rfl) ((Um.part s 27 3 : Nat) : Int) true (unhide HSW)))
  rw [show Um.moveN s (((Um.part s 27 3 : Nat) : Int) % 8).toNat true = Um.bzN s by rw [st_mod]; exact Um.move_bz s] at HMV
  have HSQ := hide hS
  clear hS
  refine wp_region_quiet_below (by kernel_rfl) (by kernel_rfl) ?_
  repeat (go_big_quiet_step (first | (go_at_call 120; exact Calls.regrown_of (unpack_any s _ (unhide HSW))) | (go_at_call 121; exact (unhide HMV) _ _)))
  refine wpQuiet_nil ?_
  intro _ hw'
  obtain ⟨⟨dq, osq⟩, hw''⟩ := hw'
  subst hw''
  have hS := (unhide HSQ).call (below_regrown u dq osq)
  clear HMV HSQ kP
  generalize grow (redrawn u dq) osq = u9 at *
  go_wp2_with (first | (refine ybox hS (h := ?_); clear hS; intro _ _ hS) | (refine yall hS (h := ?_); clear hS; intro _ _ hS) | refine yld hS (h := ?_) | (refine yst hS (h := ?_); clear hS; intro _ hS))
  refine (gSwapE_x hS 0 1 2 rfl rfl rfl (by decide) (by decide) (by decide) (unhide HR) (unhide HW) (unhide HBD).1 (unhide HBD).2 (Um.bzN s) (Um.bz_word (unhide HSW)) M (unhide HM)).mono ?_
  rintro r u ⟨rfl, hWn, hSn⟩
  clear hS
  have hS := hSn
  clear hSn
  dsimp only [putL, List.set, List.cons_append, List.nil_append] at hS
  have HW6 := hide hWn
  clear hWn
  rw [unhide HD]
  go_wp2_with (first | (refine ybox hS (h := ?_); clear hS; intro _ _ hS) | (refine yall hS (h := ?_); clear hS; intro _ _ hS) | refine yld hS (h := ?_) | (refine yst hS (h := ?_); clear hS; intro _ hS))
  first | go_end0 | ((try simp only [Exit.inBlock, Exit.then]); refine bodyPost_ret (results_none rfl _ _ _) rfl ?_)
  exact ⟨rfl, unhide HW6, (unhide HS).back3 i j k (unhide HI).1 (unhide HI).2.1 (unhide HI).2.2 hS⟩

set_option maxHeartbeats 4000000 in
theorem gTake_f (hS : Sx bs w0 w l e) (i j k : Nat) (hi : l[i]? = some (B, memL c C m)) (hj : l[j]? = some (C, rowW m.ws c.n)) (hk : l[k]? = some (P, [.int .i64 sl, .int .u64 (s : Nat), .int .u64 (h : Nat), .slice la nl cl, fn, .int .i64 fe, .int .u64 (wd : Nat)])) (hij : i ≠ j) (hik : i ≠ k) (hjk : j ≠ k) (hr : c.r = true) (hw : WordsOk c m) (hb0 : -9223372036854775808 ≤ sl) (hb1 : sl ≤ 9223372036854775807) (M : Um.Mm) (hM : M = Um.mtouch c m 3 4 sl s (Um.bzN s)) (hs : Um.Word s) (hd : M.l.done = false) :
    Calls Tryz.prog 103 #[.pointer (some ⟨P, 0, none⟩), .pointer (some ⟨B, 0, none⟩)] w fun r w' => r = .returned (.tuple #[]) ∧ WordsOk c M ∧ Sx bs w0 w' (putL l [(i, B, memL c C M), (j, C, rowW M.ws c.n), (k, P, [.int .i64 sl, .int .u64 (s : Nat), .int .u64 (h : Nat), .slice la nl cl, .func (.func 85) #[.pointer (some ⟨P, 0, none⟩)] #[], .int .i64 fe, .int .u64 (wd : Nat)])]) e := by
  have HS := hide hS
  have HI := hide (And.intro hi (And.intro hj hk))
  have hL := hS.enter3 i j k hi hj hk hij hik hjk
  have HR := hide hr
  have HW := hide hw
  have HM := hide hM
  have HBD := hide (And.intro hb0 hb1)
  have HSW := hide hs
  have HD := hide hd
  clear hS hi hj hk hr hw hM hb0 hb1 hs hd
  have hS := hL
  clear hL
  have hf1 := field_stat1g
  go_enter Tryz.func103, Tryz.ntmps103
  go_wp2_with fail
  obtain ⟨u, rfl⟩ := nameW hS
  have kP := cell_regrown ((hS.get 2 rfl).cell 1 _ rfl)
  have HMV := hide (fun d os => Calls.regrown_of (gMovedE_b ((hS.call (below_regrown u d os)).get 2 rfl) ((Um.part s 27 3 : Nat) : Int) true (unhide HSW)))
  rw [show Um.moveN s (((Um.part s 27 3 : Nat) : Int) % 8).toNat true = Um.bzN s by rw [st_mod]; exact Um.move_bz s] at HMV
  have HSQ := hide hS
  clear hS
  refine wp_region_quiet_below (by kernel_rfl) (by kernel_rfl) ?_
  repeat (go_big_quiet_step (first | (go_at_call 120; exact Calls.regrown_of (unpack_any s _ (unhide HSW))) | (go_at_call 121; exact (unhide HMV) _ _)))
  refine wpQuiet_nil ?_
  intro _ hw'
  obtain ⟨⟨dq, osq⟩, hw''⟩ := hw'
  subst hw''
  have hS := (unhide HSQ).call (below_regrown u dq osq)
  clear HMV HSQ kP
  generalize grow (redrawn u dq) osq = u9 at *
  go_wp2_with (first | (refine ybox hS (h := ?_); clear hS; intro _ _ hS) | (refine yall hS (h := ?_); clear hS; intro _ _ hS) | refine yld hS (h := ?_) | (refine yst hS (h := ?_); clear hS; intro _ hS))
  refine (gSwapE_x hS 0 1 2 rfl rfl rfl (by decide) (by decide) (by decide) (unhide HR) (unhide HW) (unhide HBD).1 (unhide HBD).2 (Um.bzN s) (Um.bz_word (unhide HSW)) M (unhide HM)).mono ?_
  rintro r u ⟨rfl, hWn, hSn⟩
  clear hS
  have hS := hSn
  clear hSn
  dsimp only [putL, List.set, List.cons_append, List.nil_append] at hS
  have HW6 := hide hWn
  clear hWn
  rw [unhide HD]
  go_wp2_with (first | (refine ybox hS (h := ?_); clear hS; intro _ _ hS) | (refine yall hS (h := ?_); clear hS; intro _ _ hS) | refine yld hS (h := ?_) | (refine yst hS (h := ?_); clear hS; intro _ hS))
  first | go_end0 | ((try simp only [Exit.inBlock, Exit.then]); refine bodyPost_ret (results_none rfl _ _ _) rfl ?_)
  exact ⟨rfl, unhide HW6, (unhide HS).back3 i j k (unhide HI).1 (unhide HI).2.1 (unhide HI).2.2 hS⟩

set_option maxHeartbeats 2000000 in
theorem gStep_judge {Q : World → Prop} (hS : Sx bs w0 w l e) (i j k : Nat) (hi : l[i]? = some (B, memL c C m)) (hj : l[j]? = some (C, rowW m.ws c.n)) (hk : l[k]? = some (P, [.int .i64 sl, .int .u64 (s : Nat), .int .u64 (h : Nat), .slice la nl cl, .func (.func 85) #[.pointer (some ⟨P, 0, none⟩)] #[], .int .i64 fe, .int .u64 (wd : Nat)])) (hij : i ≠ j) (hr : c.r = true) (hw : WordsOk c m) (hh : Um.Word h) (hn : Um.ook h c.s = true) (hC : ∀ w1, Below w.heap.size w w1 → Calls Tryz.prog 85 #[.pointer (some ⟨P, 0, none⟩), .pointer (some ⟨B, 0, none⟩)] w1 fun r w' => r = .returned (.tuple #[]) ∧ Q w') :
    Calls Tryz.prog 86 #[.pointer (some ⟨P, 0, none⟩), .pointer (some ⟨B, 0, none⟩)] w fun r w' => r = .returned (.tuple #[]) ∧ Q w' := by
  have HD := hide (gDone_f _ _ _ hS i j k hi hj hk hij hr hw hh)
  rw [hn] at HD
  have HC := hide hC
  have HB := hide (hS.get k hk)
  clear hC hS hi hj hk hij hr hw hh hn
  go_enter Tryz.func86, Tryz.ntmps86
  go_wp2_with fail
  refine (unhide HD).mono ?_
  rintro r u ⟨rfl, hb⟩
  have h2 := ((unhide HB).below hb).cell 4 _ rfl
  have HBL := hide hb
  clear HD hb
  go_wp2_with fail
  refine ((unhide HC) _ (unhide HBL)).mono ?_
  rintro r u2 ⟨rfl, hQ⟩
  have H2 := hide hQ
  clear hQ h2 HC HBL
  go_wp2
  go_end0
  exact ⟨rfl, unhide H2⟩

set_option maxHeartbeats 2000000 in
theorem gStep_take {Q : World → Prop} (hS : Sx bs w0 w l e) (i j k : Nat) (hi : l[i]? = some (B, memL c C m)) (hj : l[j]? = some (C, rowW m.ws c.n)) (hk : l[k]? = some (P, [.int .i64 sl, .int .u64 (s : Nat), .int .u64 (h : Nat), .slice la nl cl, .func (.func 103) #[.pointer (some ⟨P, 0, none⟩)] #[], .int .i64 fe, .int .u64 (wd : Nat)])) (hij : i ≠ j) (hr : c.r = true) (hw : WordsOk c m) (hh : Um.Word h) (hn : Um.ook h c.s = true) (hC : ∀ w1, Below w.heap.size w w1 → Calls Tryz.prog 103 #[.pointer (some ⟨P, 0, none⟩), .pointer (some ⟨B, 0, none⟩)] w1 fun r w' => r = .returned (.tuple #[]) ∧ Q w') :
    Calls Tryz.prog 86 #[.pointer (some ⟨P, 0, none⟩), .pointer (some ⟨B, 0, none⟩)] w fun r w' => r = .returned (.tuple #[]) ∧ Q w' := by
  have HD := hide (gDone_f _ _ _ hS i j k hi hj hk hij hr hw hh)
  rw [hn] at HD
  have HC := hide hC
  have HB := hide (hS.get k hk)
  clear hC hS hi hj hk hij hr hw hh hn
  go_enter Tryz.func86, Tryz.ntmps86
  go_wp2_with fail
  refine (unhide HD).mono ?_
  rintro r u ⟨rfl, hb⟩
  have h2 := ((unhide HB).below hb).cell 4 _ rfl
  have HBL := hide hb
  clear HD hb
  go_wp2_with fail
  refine ((unhide HC) _ (unhide HBL)).mono ?_
  rintro r u2 ⟨rfl, hQ⟩
  have H2 := hide hQ
  clear hQ h2 HC HBL
  go_wp2
  go_end0
  exact ⟨rfl, unhide H2⟩

set_option maxHeartbeats 2000000 in
theorem gStep_done (hS : Sx bs w0 w l e) (i j k : Nat) (hi : l[i]? = some (B, memL c C m)) (hj : l[j]? = some (C, rowW m.ws c.n)) (hk : l[k]? = some (P, [.int .i64 sl, .int .u64 (s : Nat), .int .u64 (h : Nat), .slice la nl cl, fn, .int .i64 fe, .int .u64 (wd : Nat)])) (hij : i ≠ j) (hr : c.r = true) (hw : WordsOk c m) (hh : Um.Word h) (hD : Calls Tryz.prog 87 #[.pointer (some ⟨P, 0, none⟩), .pointer (some ⟨B, 0, none⟩)] w fun r w' => r = .returned (.bool true) ∧ Below w.heap.size w w') :
    Calls Tryz.prog 86 #[.pointer (some ⟨P, 0, none⟩), .pointer (some ⟨B, 0, none⟩)] w fun r w' => r = .returned (.tuple #[]) ∧ Below w.heap.size w w' := by
  have HD := hide hD
  clear hD hS hi hj hk hij hr hw hh
  go_enter Tryz.func86, Tryz.ntmps86
  go_wp2_with fail
  refine (unhide HD).mono ?_
  rintro r u ⟨rfl, hb⟩
  clear HD
  go_wp2
  go_end0
  exact ⟨rfl, hb⟩

set_option maxHeartbeats 1000000 in
theorem gNewLeave_x (hS : Sx bs w0 w l e) (sl st : Int) :
    Calls Tryz.prog 146 #[.int .i64 sl, .int .i64 st] w fun r w' => ∃ P, r = .returned (.pointer (some ⟨P, 0, none⟩)) ∧ Sx bs w0 w' (l ++ [(P, [.int .i64 sl, .int .u64 (0 : Nat), .int .i64 st, .func (.func 153) #[.pointer (some ⟨P, 0, none⟩)] #[]])]) e := by
  have HS := hide hS
  clear hS
  have hS := Sx.new w
  go_enter Tryz.func146, Tryz.ntmps146
  go_wp2_with (first | (refine ybox hS (h := ?_); clear hS; intro _ _ hS) | (refine yall hS (h := ?_); clear hS; intro _ _ hS) | refine yld hS (h := ?_) | (refine yst hS (h := ?_); clear hS; intro _ hS))
  go_ret
  obtain ⟨P, rfl⟩ := nameB hS 0 rfl
  exact ⟨P, rfl, (unhide HS).add hS.bel (hS.get 0 rfl) ((hS.low _ (List.mem_of_getElem? (i := 0) rfl)).resolve_left (by simp))⟩

set_option maxHeartbeats 1000000 in
theorem gTarget_in (hB : BlkAt w P [.int .i64 sl, .int .u64 (s : Nat), .int .i64 st, fn]) (h0 : 0 ≤ st) (h1 : st ≤ 7) : Calls Tryz.prog 173 #[.pointer (some ⟨P, 0, none⟩)] w fun r w' => r = .returned (.int .i64 st) ∧ Below w.heap.size w w' := by
  have k2 := hB.cell 2 _ rfl
  have d1 : decide (st < 0) = false := decide_eq_false (by omega)
  have d2 : decide (7 < st) = false := decide_eq_false (by omega)
  have d3 : ¬ st < 0 := by omega
  have d4 : ¬ 7 < st := by omega
  clear hB h0 h1
  go_enter Tryz.func173, Tryz.ntmps173
  go_wp2
  go_ret
  exact ⟨rfl, Below.refl _ _⟩

set_option maxHeartbeats 1000000 in
theorem gTarget_neg (hB : BlkAt w P [.int .i64 sl, .int .u64 (s : Nat), .int .i64 st, fn]) (hs : Um.Word s) (h0 : st < 0) : Calls Tryz.prog 173 #[.pointer (some ⟨P, 0, none⟩)] w fun r w' => r = .returned (.int .i64 ((Um.part s 27 3 : Nat) : Int)) ∧ Below w.heap.size w w' := by
  have k2 := hB.cell 2 _ rfl
  have k1 := hB.cell 1 _ rfl
  have hf1 := field_stat1g
  have d1 : decide (st < 0) = true := decide_eq_true h0
  have HC := hide (fun w => unpack_any s w hs)
  clear hB hs
  go_enter Tryz.func173, Tryz.ntmps173
  go_wp2_with fail
  refine ((unhide HC) _).mono ?_
  rintro r u ⟨rfl, hb⟩
  clear HC
  go_wp2
  go_ret
  exact ⟨rfl, hb⟩

set_option maxHeartbeats 1000000 in
theorem gTarget_big (hB : BlkAt w P [.int .i64 sl, .int .u64 (s : Nat), .int .i64 st, fn]) (hs : Um.Word s) (h0 : 7 < st) : Calls Tryz.prog 173 #[.pointer (some ⟨P, 0, none⟩)] w fun r w' => r = .returned (.int .i64 ((Um.part s 27 3 : Nat) : Int)) ∧ Below w.heap.size w w' := by
  have k2 := hB.cell 2 _ rfl
  have k1 := hB.cell 1 _ rfl
  have hf1 := field_stat1g
  have d1 : decide (st < 0) = false := decide_eq_false (by omega)
  have d3 : ¬ st < 0 := by omega
  have d2 : decide (7 < st) = true := decide_eq_true h0
  have HC := hide (fun w => unpack_any s w hs)
  clear hB hs
  go_enter Tryz.func173, Tryz.ntmps173
  go_wp2_with fail
  refine ((unhide HC) _).mono ?_
  rintro r u ⟨rfl, hb⟩
  clear HC
  go_wp2
  go_ret
  exact ⟨rfl, hb⟩

theorem gTarget_any (hB : BlkAt w P [.int .i64 sl, .int .u64 (s : Nat), .int .i64 st, fn]) (hs : Um.Word s) : Calls Tryz.prog 173 #[.pointer (some ⟨P, 0, none⟩)] w fun r w' => r = .returned (.int .i64 ((Um.lst st s : Nat) : Int)) ∧ Below w.heap.size w w' := by
  by_cases h0 : st < 0
  · rw [show Um.lst st s = Um.part s 27 3 by unfold Um.lst; rw [if_pos (.inl h0)]; rfl]
    exact gTarget_neg hB hs h0
  by_cases h7 : 7 < st
  · rw [show Um.lst st s = Um.part s 27 3 by unfold Um.lst; rw [if_pos (.inr h7)]; rfl]
    exact gTarget_big hB hs h7
  · rw [show ((Um.lst st s : Nat) : Int) = st by unfold Um.lst; rw [if_neg (by omega)]; omega]
    exact gTarget_in hB (by omega) (by omega)

set_option maxHeartbeats 4000000 in
theorem gAsk_x (hS : Sx bs w0 w l e) (i j k : Nat) (hi : l[i]? = some (B, memL c C m)) (hj : l[j]? = some (C, rowW m.ws c.n)) (hk : l[k]? = some (P, [.int .i64 sl, .int .u64 (s : Nat), .int .i64 st, fn])) (hij : i ≠ j) (hik : i ≠ k) (hjk : j ≠ k) (hr : c.r = true) (hw : WordsOk c m) (hb0 : -9223372036854775808 ≤ sl) (hb1 : sl ≤ 9223372036854775807) (M : Um.Mm) (hM : M = Um.mtouch c m 1 4 sl 0 0) :
    Calls Tryz.prog 153 #[.pointer (some ⟨P, 0, none⟩), .pointer (some ⟨B, 0, none⟩)] w fun r w' => r = .returned (.tuple #[]) ∧ WordsOk c M ∧ Sx bs w0 w' (putL l [(i, B, memL c C M), (j, C, rowW M.ws c.n), (k, P, [.int .i64 sl, .int .u64 (M.l.old : Nat), .int .i64 st, .func (.func 164) #[.pointer (some ⟨P, 0, none⟩)] #[]])]) e := by
  have HS := hide hS
  have HI := hide (And.intro hi (And.intro hj hk))
  have hL := hS.enter3 i j k hi hj hk hij hik hjk
  have HR := hide hr
  have HW := hide hw
  have HM := hide hM
  have HBD := hide (And.intro hb0 hb1)
  clear hS hi hj hk hr hw hM hb0 hb1 
  have hS := hL
  clear hL
  go_enter Tryz.func153, Tryz.ntmps153
  go_wp2_with fail
  refine (gLookL_x hS 0 1 2 rfl rfl rfl (by decide) (by decide) (by decide) (unhide HR) (unhide HW) (unhide HBD).1 (unhide HBD).2 M (unhide HM)).mono ?_
  rintro r u ⟨rfl, hWn, hSn⟩
  clear hS
  have hS := hSn
  clear hSn
  dsimp only [putL, List.set, List.cons_append, List.nil_append] at hS
  have HW6 := hide hWn
  clear hWn
  go_wp2_with (first | (refine ybox hS (h := ?_); clear hS; intro _ _ hS) | (refine yall hS (h := ?_); clear hS; intro _ _ hS) | refine yld hS (h := ?_) | (refine yst hS (h := ?_); clear hS; intro _ hS))
  first | go_end0 | ((try simp only [Exit.inBlock, Exit.then]); refine bodyPost_ret (results_none rfl _ _ _) rfl ?_)
  exact ⟨rfl, unhide HW6, (unhide HS).back3 i j k (unhide HI).1 (unhide HI).2.1 (unhide HI).2.2 hS⟩

set_option maxHeartbeats 4000000 in
theorem gLay_t (hS : Sx bs w0 w l e) (i j k : Nat) (hi : l[i]? = some (B, memL c C m)) (hj : l[j]? = some (C, rowW m.ws c.n)) (hk : l[k]? = some (P, [.int .i64 sl, .int .u64 (s : Nat), .int .i64 st, fn])) (hij : i ≠ j) (hik : i ≠ k) (hjk : j ≠ k) (hr : c.r = true) (hw : WordsOk c m) (hb0 : -9223372036854775808 ≤ sl) (hb1 : sl ≤ 9223372036854775807) (M : Um.Mm) (hM : M = Um.mtouch c m 3 4 sl s (Um.moveN s (Um.lst st s) false)) (hs : Um.Word s) (hd : M.l.done = true) :
    Calls Tryz.prog 164 #[.pointer (some ⟨P, 0, none⟩), .pointer (some ⟨B, 0, none⟩)] w fun r w' => r = .returned (.tuple #[]) ∧ WordsOk c M ∧ Sx bs w0 w' (putL l [(i, B, memL c C M), (j, C, rowW M.ws c.n), (k, P, [.int .i64 sl, .int .u64 (s : Nat), .int .i64 st, .nilFunc])]) e := by
  have HS := hide hS
  have HI := hide (And.intro hi (And.intro hj hk))
  have hL := hS.enter3 i j k hi hj hk hij hik hjk
  have HR := hide hr
  have HW := hide hw
  have HM := hide hM
  have HBD := hide (And.intro hb0 hb1)
  have HSW := hide hs
  have HD := hide hd
  clear hS hi hj hk hr hw hM hb0 hb1 hs hd
  have hS := hL
  clear hL
  have HP := hide (hS.get 2 rfl)
  go_enter Tryz.func164, Tryz.ntmps164
  go_wp2_with fail
  have HS3 := hide hS
  clear hS
  go_region_held3 (fun w' => BlkAt w' P [.int .i64 sl, .int .u64 (s : Nat), .int .i64 st, fn]) (first | exact (unhide HP).drew | exact BlkAt.below (by assumption) (by assumption) | assumption) (first | (go_at_call 173; refine (gTarget_any (by assumption) (unhide HSW)).mono ?_; rintro e u5 ⟨rfl, hb5⟩) | (go_at_call 121; refine (gMovedL_b (by assumption) ((Um.lst st s : Nat) : Int) false (unhide HSW)).mono ?_; rintro e u6 ⟨rfl, hb6⟩) | (go_at_call 122; rw [lst_mod]; refine (gSwapL_x (((unhide HS3).undrew hb5).call hb6) 0 1 2 rfl rfl rfl (by decide) (by decide) (by decide) (unhide HR) (unhide HW) (unhide HBD).1 (unhide HBD).2 (Um.moveN s (Um.lst st s) false) (Um.move_word (unhide HSW) (Um.lst_lt _ _)) M (unhide HM)).mono ?_; rintro e u7 ⟨rfl, hW6, hS6⟩; have hP6 := hS6.get 2 rfl))
  have hS := hS6
  have HW6 := hide hW6
  clear hS6 hP6 hW6 HS3 HP
  dsimp only [putL, List.set] at hS
  simp only [unhide HD]
  go_wp2_with (first | (refine ybox hS (h := ?_); clear hS; intro _ _ hS) | (refine yall hS (h := ?_); clear hS; intro _ _ hS) | refine yld hS (h := ?_) | (refine yst hS (h := ?_); clear hS; intro _ hS))
  first | go_end0 | ((try simp only [Exit.inBlock, Exit.then]); refine bodyPost_ret (results_none rfl _ _ _) rfl ?_)
  exact ⟨rfl, unhide HW6, (unhide HS).back3 i j k (unhide HI).1 (unhide HI).2.1 (unhide HI).2.2 hS⟩

set_option maxHeartbeats 4000000 in
theorem gLay_f (hS : Sx bs w0 w l e) (i j k : Nat) (hi : l[i]? = some (B, memL c C m)) (hj : l[j]? = some (C, rowW m.ws c.n)) (hk : l[k]? = some (P, [.int .i64 sl, .int .u64 (s : Nat), .int .i64 st, fn])) (hij : i ≠ j) (hik : i ≠ k) (hjk : j ≠ k) (hr : c.r = true) (hw : WordsOk c m) (hb0 : -9223372036854775808 ≤ sl) (hb1 : sl ≤ 9223372036854775807) (M : Um.Mm) (hM : M = Um.mtouch c m 3 4 sl s (Um.moveN s (Um.lst st s) false)) (hs : Um.Word s) (hd : M.l.done = false) :
    Calls Tryz.prog 164 #[.pointer (some ⟨P, 0, none⟩), .pointer (some ⟨B, 0, none⟩)] w fun r w' => r = .returned (.tuple #[]) ∧ WordsOk c M ∧ Sx bs w0 w' (putL l [(i, B, memL c C M), (j, C, rowW M.ws c.n), (k, P, [.int .i64 sl, .int .u64 (s : Nat), .int .i64 st, .func (.func 153) #[.pointer (some ⟨P, 0, none⟩)] #[]])]) e := by
  have HS := hide hS
  have HI := hide (And.intro hi (And.intro hj hk))
  have hL := hS.enter3 i j k hi hj hk hij hik hjk
  have HR := hide hr
  have HW := hide hw
  have HM := hide hM
  have HBD := hide (And.intro hb0 hb1)
  have HSW := hide hs
  have HD := hide hd
  clear hS hi hj hk hr hw hM hb0 hb1 hs hd
  have hS := hL
  clear hL
  have HP := hide (hS.get 2 rfl)
  go_enter Tryz.func164, Tryz.ntmps164
  go_wp2_with fail
  have HS3 := hide hS
  clear hS
  go_region_held3 (fun w' => BlkAt w' P [.int .i64 sl, .int .u64 (s : Nat), .int .i64 st, fn]) (first | exact (unhide HP).drew | exact BlkAt.below (by assumption) (by assumption) | assumption) (first | (go_at_call 173; refine (gTarget_any (by assumption) (unhide HSW)).mono ?_; rintro e u5 ⟨rfl, hb5⟩) | (go_at_call 121; refine (gMovedL_b (by assumption) ((Um.lst st s : Nat) : Int) false (unhide HSW)).mono ?_; rintro e u6 ⟨rfl, hb6⟩) | (go_at_call 122; rw [lst_mod]; refine (gSwapL_x (((unhide HS3).undrew hb5).call hb6) 0 1 2 rfl rfl rfl (by decide) (by decide) (by decide) (unhide HR) (unhide HW) (unhide HBD).1 (unhide HBD).2 (Um.moveN s (Um.lst st s) false) (Um.move_word (unhide HSW) (Um.lst_lt _ _)) M (unhide HM)).mono ?_; rintro e u7 ⟨rfl, hW6, hS6⟩; have hP6 := hS6.get 2 rfl))
  have hS := hS6
  have HW6 := hide hW6
  clear hS6 hP6 hW6 HS3 HP
  dsimp only [putL, List.set] at hS
  simp only [unhide HD]
  go_wp2_with (first | (refine ybox hS (h := ?_); clear hS; intro _ _ hS) | (refine yall hS (h := ?_); clear hS; intro _ _ hS) | refine yld hS (h := ?_) | (refine yst hS (h := ?_); clear hS; intro _ hS))
  first | go_end0 | ((try simp only [Exit.inBlock, Exit.then]); refine bodyPost_ret (results_none rfl _ _ _) rfl ?_)
  exact ⟨rfl, unhide HW6, (unhide HS).back3 i j k (unhide HI).1 (unhide HI).2.1 (unhide HI).2.2 hS⟩

set_option maxHeartbeats 1000000 in
theorem lDone_f (f : Fn) (a1 a2 : Array Value) (hB : BlkAt w P [.int .i64 sl, .int .u64 (s : Nat), .int .i64 st, .func f a1 a2]) : Calls Tryz.prog 155 #[.pointer (some ⟨P, 0, none⟩)] w fun r w' => r = .returned (.bool false) ∧ w' = w := by
  have h2 := hB.cell 3 _ rfl
  have hE := eqGFn
  have hE0 := eqGNo
  clear hB
  go_enter Tryz.func155, Tryz.ntmps155
  go_wp2
  go_ret
  exact ⟨rfl, rfl⟩

set_option maxHeartbeats 1000000 in
theorem lDone_n (hB : BlkAt w P [.int .i64 sl, .int .u64 (s : Nat), .int .i64 st, .nilFunc]) : Calls Tryz.prog 155 #[.pointer (some ⟨P, 0, none⟩)] w fun r w' => r = .returned (.bool true) ∧ w' = w := by
  have h2 := hB.cell 3 _ rfl
  have hE := eqGFn
  have hE0 := eqGNo
  clear hB
  go_enter Tryz.func155, Tryz.ntmps155
  go_wp2
  go_ret
  exact ⟨rfl, rfl⟩

set_option maxHeartbeats 2000000 in
theorem lStep_ask {Q : World → Prop} (hB : BlkAt w P [.int .i64 sl, .int .u64 (s : Nat), .int .i64 st, .func (.func 153) #[.pointer (some ⟨P, 0, none⟩)] #[]]) (hC : Calls Tryz.prog 153 #[.pointer (some ⟨P, 0, none⟩), .pointer (some ⟨B, 0, none⟩)] w fun r w' => r = .returned (.tuple #[]) ∧ Q w') :
    Calls Tryz.prog 154 #[.pointer (some ⟨P, 0, none⟩), .pointer (some ⟨B, 0, none⟩)] w fun r w' => r = .returned (.tuple #[]) ∧ Q w' := by
  have HD := hide (lDone_f _ _ _ hB)
  have HC := hide hC
  have h2 := hB.cell 3 _ rfl
  clear hB hC
  go_enter Tryz.func154, Tryz.ntmps154
  go_wp2_with fail
  refine (unhide HD).mono ?_
  rintro r u ⟨rfl, rfl⟩
  go_wp2_with fail
  refine (unhide HC).mono ?_
  rintro r u2 ⟨rfl, hQ⟩
  have H2 := hide hQ
  clear hQ h2
  go_wp2
  go_end0
  exact ⟨rfl, unhide H2⟩

set_option maxHeartbeats 2000000 in
theorem lStep_lay {Q : World → Prop} (hB : BlkAt w P [.int .i64 sl, .int .u64 (s : Nat), .int .i64 st, .func (.func 164) #[.pointer (some ⟨P, 0, none⟩)] #[]]) (hC : Calls Tryz.prog 164 #[.pointer (some ⟨P, 0, none⟩), .pointer (some ⟨B, 0, none⟩)] w fun r w' => r = .returned (.tuple #[]) ∧ Q w') :
    Calls Tryz.prog 154 #[.pointer (some ⟨P, 0, none⟩), .pointer (some ⟨B, 0, none⟩)] w fun r w' => r = .returned (.tuple #[]) ∧ Q w' := by
  have HD := hide (lDone_f _ _ _ hB)
  have HC := hide hC
  have h2 := hB.cell 3 _ rfl
  clear hB hC
  go_enter Tryz.func154, Tryz.ntmps154
  go_wp2_with fail
  refine (unhide HD).mono ?_
  rintro r u ⟨rfl, rfl⟩
  go_wp2_with fail
  refine (unhide HC).mono ?_
  rintro r u2 ⟨rfl, hQ⟩
  have H2 := hide hQ
  clear hQ h2
  go_wp2
  go_end0
  exact ⟨rfl, unhide H2⟩

set_option maxHeartbeats 2000000 in
theorem lStep_done (hB : BlkAt w P [.int .i64 sl, .int .u64 (s : Nat), .int .i64 st, .nilFunc]) (b : Value) :
    Calls Tryz.prog 154 #[.pointer (some ⟨P, 0, none⟩), b] w fun r w' => r = .returned (.tuple #[]) ∧ w' = w := by
  have HD := hide (lDone_n hB)
  clear hB
  go_enter Tryz.func154, Tryz.ntmps154
  go_wp2_with fail
  refine (unhide HD).mono ?_
  rintro r u ⟨rfl, rfl⟩
  go_wp2
  go_end0
  exact ⟨rfl, rfl⟩

end

end Go.Proofs.YtapgghciieloaaaGreat

/-
  A step of an entering, of a leaving, of whatever step; to their ends; states that a caller tells.
-/
namespace Go.Proofs.YtapgghciieloaaaGreat
set_option maxRecDepth 100000
open Go.RowKit Go.Sort
set_option linter.unusedVariables false
set_option linter.unusedSimpArgs false

/-- what comes next -/
def enF (P : Nat) (o : Um.Es) : Value := if o.en = true then .nilFunc else if o.tk = true then .func (.func 103) #[.pointer (some ⟨P, 0, none⟩)] #[] else .func (.func 85) #[.pointer (some ⟨P, 0, none⟩)] #[]

/-- an entering's cells -/
def entL (P h : Nat) (la : Option Addr) (nl cl : Nat) (o : Um.Es) : List Value := [.int .i64 (Um.svN h), .int .u64 (o.s : Nat), .int .u64 (h : Nat), .slice la nl cl, enF P o, .int .i64 o.e, .int .u64 (o.w : Nat)]

def leF (P : Nat) (o : Um.Ls) : Value := if o.dn = true then .nilFunc else if o.lk = true then .func (.func 164) #[.pointer (some ⟨P, 0, none⟩)] #[] else .func (.func 153) #[.pointer (some ⟨P, 0, none⟩)] #[]

/-- a leaving's cells -/
def leaL (P : Nat) (sl st : Int) (o : Um.Ls) : List Value := [.int .i64 sl, .int .u64 (o.s : Nat), .int .i64 st, leF P o]

theorem put_same3 {l : List (Nat × List Value)} {i j k : Nat} {a b d : Nat × List Value} (hi : l[i]? = some a) (hj : l[j]? = some b) (hk : l[k]? = some d) : putL l [(i, a), (j, b), (k, d)] = l := by
  show ((l.set i a).set j b).set k d = l
  rw [set_same hi, set_same hj, set_same hk]

section
variable {bs : List Nat} {w0 w : World} {l e : List (Nat × List Value)} {B C P : Nat} {c : Um.Cf} {sl st : Int} {h : Nat} {la : Option Addr} {nl cl : Nat} {Z : Nat → Int}

theorem gDone_any {o : Um.Es} {m : Um.Mm} (hS : Sx bs w0 w l e) (i j k : Nat) (hi : l[i]? = some (B, memL c C m)) (hj : l[j]? = some (C, rowW m.ws c.n)) (hk : l[k]? = some (P, entL P h la nl cl o)) (hij : i ≠ j) (hr : c.r = true) (hw : WordsOk c m) (hh : Um.Word h) :
    Calls Tryz.prog 87 #[.pointer (some ⟨P, 0, none⟩), .pointer (some ⟨B, 0, none⟩)] w fun r w' => r = .returned (.bool (Um.edn c h o)) ∧ Below w.heap.size w w' := by
  obtain ⟨mo, tk, s, wd, er, en⟩ := o
  cases en with
  | true => exact gDone_n hS i j k hi hj hk hij hr hw hh
  | false =>
    cases tk with
    | true => exact gDone_f _ _ _ hS i j k hi hj hk hij hr hw hh
    | false => exact gDone_f _ _ _ hS i j k hi hj hk hij hr hw hh

theorem gError_any {o : Um.Es} {m : Um.Mm} (hS : Sx bs w0 w l e) (i j k : Nat) (hi : l[i]? = some (B, memL c C m)) (hj : l[j]? = some (C, rowW m.ws c.n)) (hk : l[k]? = some (P, entL P h la nl cl o)) (hij : i ≠ j) (hr : c.r = true) (hw : WordsOk c m) (hh : Um.Word h) :
    Calls Tryz.prog 88 #[.pointer (some ⟨P, 0, none⟩), .pointer (some ⟨B, 0, none⟩)] w fun r w' => r = .returned (.int .i64 (Um.eer c h o)) ∧ Below w.heap.size w w' := by
  obtain ⟨mo, tk, s, wd, er, en⟩ := o
  cases hn : Um.ook h c.s with
  | true =>
    rw [show Um.eer c h ⟨mo, tk, s, wd, er, en⟩ = er by unfold Um.eer; rw [hn, if_pos rfl]]
    exact gError_y hS i j k hi hj hk hij hr hw hh hn
  | false =>
    rw [show Um.eer c h ⟨mo, tk, s, wd, er, en⟩ = 2 by unfold Um.eer; rw [hn, if_neg (by decide)]]
    exact gError_n hS i j k hi hj hk hij hr hw hh hn

theorem gStep_any (hS : Sx bs w0 w l e) (i j k : Nat) (o O : Um.Es) (hO : O = Um.estep c h (fun k => inZ Z nl ((k : Nat) : Int)) o) (hi : l[i]? = some (B, memL c C o.m)) (hj : l[j]? = some (C, rowW o.m.ws c.n)) (hk : l[k]? = some (P, entL P h la nl cl o)) (hij : i ≠ j) (hik : i ≠ k) (hjk : j ≠ k) (hr : c.r = true) (ho : Um.Eok c o) (hh : Um.Word h) (hnl : nl ≤ 50) (hSt : StB la nl Z e) :
    Calls Tryz.prog 86 #[.pointer (some ⟨P, 0, none⟩), .pointer (some ⟨B, 0, none⟩)] w fun r w' => r = .returned (.tuple #[]) ∧ Um.Eok c O ∧ Sx bs w0 w' (putL l [(i, B, memL c C O.m), (j, C, rowW O.m.ws c.n), (k, P, entL P h la nl cl O)]) e := by
  have hO' : Um.Eok c O := hO ▸ Um.estep_ok ho
  have hsv := Um.sv_range h
  have hD := gDone_any hS i j k hi hj hk hij hr ho.wd hh
  cases hd : Um.edn c h o with
  | true =>
    rw [hd] at hD
    rw [Um.estep_done hd] at hO
    subst hO
    refine (gStep_done hS i j k hi hj hk hij hr ho.wd hh hD).mono ?_
    rintro r w' ⟨rfl, hb⟩
    exact ⟨rfl, hO', by rw [put_same3 hi hj hk]; exact hS.call hb⟩
  | false =>
    clear hD
    obtain ⟨m, tk, s, wd, er, en⟩ := o
    obtain ⟨i1, i2, i3, i4⟩ := ho
    dsimp only at *
    obtain ⟨rfl, hn⟩ : en = false ∧ Um.ook h c.s = true := by
      have hd' : (en || !Um.ook h c.s) = false := hd
      cases en <;> cases hq : Um.ook h c.s <;> rw [hq] at hd' <;> first | exact ⟨rfl, rfl⟩ | cases hd'
    cases tk with
    | false =>
      obtain ⟨M, hM⟩ : ∃ M, M = Um.mtouch c m 1 4 (Um.svN h) 0 0 := ⟨_, rfl⟩
      have eO : O = ⟨M, decide (Um.flN h (fun k => inZ Z nl ((k : Nat) : Int)) M.l.old = 0), M.l.old, wd, Um.flN h (fun k => inZ Z nl ((k : Nat) : Int)) M.l.old, !decide (Um.flN h (fun k => inZ Z nl ((k : Nat) : Int)) M.l.old = 0)⟩ := by
        rw [hO, hM]
        unfold Um.estep
        rw [if_neg (by rw [hd]; decide), if_neg (show ¬ (false = true) by decide)]
      by_cases hf : Um.flN h (fun k => inZ Z nl ((k : Nat) : Int)) M.l.old = 0
      · rw [hf] at eO
        subst eO
        refine (gStep_judge (Q := fun w' => WordsOk c M ∧ Sx bs w0 w' (putL l [(i, B, memL c C M), (j, C, rowW M.ws c.n), (k, P, entL P h la nl cl ⟨M, true, M.l.old, wd, 0, false⟩)]) e) hS i j k hi hj hk hij hr i1 hh hn (fun w1 hb => gJudge_0 (hS.call hb) i j k hi hj hk hij hik hjk hr i1 (by omega) (by omega) M hM Z hh hnl hSt hf)).mono ?_
        rintro r w' ⟨rfl, _, hSn⟩
        exact ⟨rfl, hO', hSn⟩
      · rw [decide_eq_false hf] at eO
        subst eO
        refine (gStep_judge (Q := fun w' => WordsOk c M ∧ Sx bs w0 w' (putL l [(i, B, memL c C M), (j, C, rowW M.ws c.n), (k, P, entL P h la nl cl ⟨M, false, M.l.old, wd, Um.flN h (fun k => inZ Z nl ((k : Nat) : Int)) M.l.old, true⟩)]) e) hS i j k hi hj hk hij hr i1 hh hn (fun w1 hb => gJudge_n (hS.call hb) i j k hi hj hk hij hik hjk hr i1 (by omega) (by omega) M hM Z hh hnl hSt _ rfl hf)).mono ?_
        rintro r w' ⟨rfl, _, hSn⟩
        exact ⟨rfl, hO', hSn⟩
    | true =>
      obtain ⟨M, hM⟩ : ∃ M, M = Um.mtouch c m 3 4 (Um.svN h) s (Um.bzN s) := ⟨_, rfl⟩
      have eO : O = ⟨M, false, s, if M.l.done then Um.bzN s else wd, er, M.l.done⟩ := by
        rw [hO, hM]
        unfold Um.estep
        rw [if_neg (by rw [hd]; decide), if_pos rfl]
      cases hdn : M.l.done with
      | true =>
        rw [hdn, if_pos rfl] at eO
        subst eO
        refine (gStep_take (Q := fun w' => WordsOk c M ∧ Sx bs w0 w' (putL l [(i, B, memL c C M), (j, C, rowW M.ws c.n), (k, P, entL P h la nl cl ⟨M, false, s, Um.bzN s, er, true⟩)]) e) hS i j k hi hj hk hij hr i1 hh hn (fun w1 hb => gTake_t (hS.call hb) i j k hi hj hk hij hik hjk hr i1 (by omega) (by omega) M hM i2 hdn)).mono ?_
        rintro r w' ⟨rfl, _, hSn⟩
        exact ⟨rfl, hO', hSn⟩
      | false =>
        rw [hdn, if_neg (by decide)] at eO
        subst eO
        refine (gStep_take (Q := fun w' => WordsOk c M ∧ Sx bs w0 w' (putL l [(i, B, memL c C M), (j, C, rowW M.ws c.n), (k, P, entL P h la nl cl ⟨M, false, s, wd, er, false⟩)]) e) hS i j k hi hj hk hij hr i1 hh hn (fun w1 hb => gTake_f (hS.call hb) i j k hi hj hk hij hik hjk hr i1 (by omega) (by omega) M hM i2 hdn)).mono ?_
        rintro r w' ⟨rfl, _, hSn⟩
        exact ⟨rfl, hO', hSn⟩

theorem lDone_any {o : Um.Ls} (hB : BlkAt w P (leaL P sl st o)) : Calls Tryz.prog 155 #[.pointer (some ⟨P, 0, none⟩)] w fun r w' => r = .returned (.bool o.dn) ∧ w' = w := by
  obtain ⟨m, lk, s, dn⟩ := o
  cases dn with
  | true => exact lDone_n hB
  | false =>
    cases lk with
    | true => exact lDone_f _ _ _ hB
    | false => exact lDone_f _ _ _ hB

theorem lStep_any (hS : Sx bs w0 w l e) (i j k : Nat) (o O : Um.Ls) (hO : O = Um.lstep c sl st o) (hi : l[i]? = some (B, memL c C o.m)) (hj : l[j]? = some (C, rowW o.m.ws c.n)) (hk : l[k]? = some (P, leaL P sl st o)) (hij : i ≠ j) (hik : i ≠ k) (hjk : j ≠ k) (hr : c.r = true) (ho : Um.Lok c o) (h0 : -9223372036854775808 ≤ sl) (h1 : sl ≤ 9223372036854775807) :
    Calls Tryz.prog 154 #[.pointer (some ⟨P, 0, none⟩), .pointer (some ⟨B, 0, none⟩)] w fun r w' => r = .returned (.tuple #[]) ∧ Um.Lok c O ∧ Sx bs w0 w' (putL l [(i, B, memL c C O.m), (j, C, rowW O.m.ws c.n), (k, P, leaL P sl st O)]) e := by
  have hO' : Um.Lok c O := hO ▸ Um.lstep_ok ho
  obtain ⟨m, lk, s, dn⟩ := o
  obtain ⟨i1, i2⟩ := ho
  dsimp only at *
  cases dn with
  | true =>
    have eO : O = ⟨m, lk, s, true⟩ := by rw [hO]; exact Um.lstep_done rfl
    subst eO
    refine (lStep_done (hS.get k hk) _).mono ?_
    rintro r w' ⟨rfl, rfl⟩
    exact ⟨rfl, hO', by rw [put_same3 hi hj hk]; exact hS⟩
  | false =>
    cases lk with
    | false =>
      have eO : O = ⟨Um.mtouch c m 1 4 sl 0 0, true, (Um.mtouch c m 1 4 sl 0 0).l.old, false⟩ := hO
      subst eO
      refine (lStep_ask (hS.get k hk) (gAsk_x hS i j k hi hj hk hij hik hjk hr i1 h0 h1 _ rfl)).mono ?_
      rintro r w' ⟨rfl, _, hSn⟩
      exact ⟨rfl, hO', hSn⟩
    | true =>
      obtain ⟨M, hM⟩ : ∃ M, M = Um.mtouch c m 3 4 sl s (Um.moveN s (Um.lst st s) false) := ⟨_, rfl⟩
      have eO : O = ⟨M, false, s, M.l.done⟩ := by rw [hM]; exact hO
      cases hdn : M.l.done with
      | true =>
        rw [hdn] at eO
        subst eO
        refine (lStep_lay (hS.get k hk) (gLay_t hS i j k hi hj hk hij hik hjk hr i1 h0 h1 M hM i2 hdn)).mono ?_
        rintro r w' ⟨rfl, _, hSn⟩
        exact ⟨rfl, hO', hSn⟩
      | false =>
        rw [hdn] at eO
        subst eO
        refine (lStep_lay (hS.get k hk) (gLay_f hS i j k hi hj hk hij hik hjk hr i1 h0 h1 M hM i2 hdn)).mono ?_
        rintro r w' ⟨rfl, _, hSn⟩
        exact ⟨rfl, hO', hSn⟩

theorem lnew_any (hS : Sx bs w0 w l e) (sl st : Int) (m : Um.Mm) :
    Calls Tryz.prog 146 #[.int .i64 sl, .int .i64 st] w fun r w' => ∃ P, r = .returned (.pointer (some ⟨P, 0, none⟩)) ∧ Sx bs w0 w' (l ++ [(P, leaL P sl st (Um.lnew m))]) e := gNewLeave_x hS sl st

end

/-- a slice that is written out -/
theorem wpx_build1 {ops : Array Oper} {rest : List Oper} {op : Oper} {a : Act} {bs : List Nat} {w w0 : World} {Q : Exit → Act → World → Prop} {l e : List (Nat × List Value)} (hS : Sx bs w0 w l e) (hw : Region.wanted op (yielded ops a.tmps) = true)
    (x0 : Operand) (ho : op.op = .buildSlice 41 1 #[(0, x0)]) (k0 : Int) (h0 : a.eval x0 = .int .i64 k0)
    (f : Nat → Act) (hf : ∀ b, a.put op.dst (.slice (some ⟨b, 0, none⟩) 1 1) = f b) (h : ∀ b w', Sx bs w0 w' (l ++ [(b, [.int .i64 k0])]) e → wpList Tryz.prog ops Q rest (f b) w') : wpList Tryz.prog ops Q (op :: rest) a w := by
  refine BigFrame.wpList_want hw fun K hK => ?_
  have er : (execOp a.eval op).run Tryz.prog w = .ok (.value (.slice (some ⟨w.heap.size, 0, none⟩) 1 1)) (w.alloc (.cells (List.toArray [.int .i64 k0]) 3)) := by
    unfold execOp
    rw [ho]
    generalize a.eval = E at h0 ⊢
    go_simp
  unfold Oper.wp
  rw [er]
  exact hK _ _ (by rw [hf]; exact h _ _ (hS.alloc (List.toArray [.int .i64 k0]) 3))

theorem told1 {w : World} {b : Nat} {x : Int} (hB : BlkAt w b [.int .i64 x]) : Told w (some ⟨b, 0, none⟩) 1 1 (fun _ => x) :=
  ⟨.inr ⟨b, 0, rfl, hB.lt, fun i hi => by
      obtain rfl : i = 0 := by omega
      exact hB.cell 0 _ rfl⟩, (fun q => by cases q), by decide⟩

end Go.Proofs.YtapgghciieloaaaGreat

/-
  Plain arithmetic of layer 11: a conflict that is laid, one's own end. No Go in sight.
-/
namespace Um
set_option maxRecDepth 100000

/-- a join over a memory: its next step (0 look, 1 number, 2 lay), what it looked at, what it came to (0: it goes on) -/
structure Js where
  m : Mm
  nx : Nat
  s : Nat
  r : Nat

/-- judged -/
def jjd (sd b : Int) (M : Mm) (nx s : Nat) : Js :=
  if hasN s sd b = true then ⟨M, nx, s, 2⟩ else if stN s ≠ 2 ∧ anyN s (1 - sd) = true then ⟨M, nx, s, 3⟩ else ⟨M, 2, s, 0⟩

def jstep (c : Cf) (sl sd b : Int) (sn : Nat) (o : Js) : Js :=
  if o.r ≠ 0 then o
  else if o.nx = 0 then
    (if stN (mtouch c o.m 1 4 sl 0 0).l.old = 4 then ⟨mtouch c o.m 1 4 sl 0 0, 1, (mtouch c o.m 1 4 sl 0 0).l.old, 0⟩
      else if stN (mtouch c o.m 1 4 sl 0 0).l.old = 2 ∨ stN (mtouch c o.m 1 4 sl 0 0).l.old = 3 then jjd sd b (mtouch c o.m 1 4 sl 0 0) 0 (mtouch c o.m 1 4 sl 0 0).l.old
      else ⟨mtouch c o.m 1 4 sl 0 0, 0, (mtouch c o.m 1 4 sl 0 0).l.old, 1⟩)
  else if o.nx = 1 then
    (if past (mtouch c o.m 1 6 sl 0 0).l.old sn = true then ⟨mtouch c o.m 1 6 sl 0 0, 1, o.s, 1⟩ else jjd sd b (mtouch c o.m 1 6 sl 0 0) 1 o.s)
  else ⟨mtouch c o.m 3 4 sl o.s (withN o.s sd b), 0, o.s, if (mtouch c o.m 3 4 sl o.s (withN o.s sd b)).l.done then 2 else 0⟩

def jit (c : Cf) (sl sd b : Int) (sn : Nat) (o : Js) : Nat → Js
  | 0 => o
  | k + 1 => jstep c sl sd b sn (jit c sl sd b sn o k)

def jnew (m : Mm) : Js := ⟨m, 0, 0, 0⟩

structure Jok (c : Cf) (o : Js) : Prop where
  wd : ∀ i, i < c.n → Word (o.m.ws i)
  s : Word o.s
  nx : o.nx ≤ 2
  r : o.r ≤ 3

theorem jnew_ok {c : Cf} {m : Mm} (h : ∀ i, i < c.n → Word (m.ws i)) : Jok c (jnew m) := ⟨h, zero_word, (show 0 ≤ 2 by decide), (show 0 ≤ 3 by decide)⟩

theorem jjd_ok {c : Cf} {sd b : Int} {M : Mm} {nx s : Nat} (hM : ∀ i, i < c.n → Word (M.ws i)) (hs : Word s) (hn : nx ≤ 2) : Jok c (jjd sd b M nx s) := by
  unfold jjd
  split
  · exact ⟨hM, hs, hn, (show 2 ≤ 3 by decide)⟩
  split
  · exact ⟨hM, hs, hn, (show 3 ≤ 3 by decide)⟩
  · exact ⟨hM, hs, (show 2 ≤ 2 by decide), (show 0 ≤ 3 by decide)⟩

theorem jstep_ok {c : Cf} {sl sd b : Int} {sn : Nat} {o : Js} (h : Jok c o) : Jok c (jstep c sl sd b sn o) := by
  have hld : ∀ a, (∀ i, i < c.n → Word ((mtouch c o.m 1 a sl 0 0).ws i)) := fun a => word_touch h.wd zero_word
  have hlo : ∀ a, Word (mtouch c o.m 1 a sl 0 0).l.old := fun a => old_word h.wd
  unfold jstep
  split
  · exact h
  split
  · split
    · exact ⟨hld 4, hlo 4, (show 1 ≤ 2 by decide), (show 0 ≤ 3 by decide)⟩
    split
    · exact jjd_ok (hld 4) (hlo 4) (by decide)
    · exact ⟨hld 4, hlo 4, (show 0 ≤ 2 by decide), (show 1 ≤ 3 by decide)⟩
  split
  · split
    · exact ⟨hld 6, h.s, (show 1 ≤ 2 by decide), (show 1 ≤ 3 by decide)⟩
    · exact jjd_ok (hld 6) h.s (by decide)
  · refine ⟨word_touch h.wd (with_word h.s _ _), h.s, (show 0 ≤ 2 by decide), ?_⟩
    show (if _ then 2 else 0) ≤ 3
    split <;> decide

theorem jstep_end {c : Cf} {sl sd b : Int} {sn : Nat} {o : Js} (h : o.r ≠ 0) : jstep c sl sd b sn o = o := by
  unfold jstep
  rw [if_pos h]

theorem jit_end {c : Cf} {sl sd b : Int} {sn : Nat} {o : Js} {q : Nat} (h : (jit c sl sd b sn o q).r ≠ 0) {k : Nat} (hk : q ≤ k) : jit c sl sd b sn o k = jit c sl sd b sn o q := by
  obtain ⟨d, rfl⟩ : ∃ d, k = q + d := ⟨k - q, by omega⟩
  clear hk
  induction d with
  | zero => rfl
  | succ d ih =>
    show jstep c sl sd b sn (jit c sl sd b sn o (q + d)) = _
    rw [ih]
    exact jstep_end h

/-- one's own end, over a memory: has it looked, at what, is it done -/
def wstep (c : Cf) (sl sd b : Int) (o : Ls) : Ls :=
  if o.dn = true then o
  else if o.lk = false then ⟨mtouch c o.m 1 4 sl 0 0, true, (mtouch c o.m 1 4 sl 0 0).l.old, decide (withN (mtouch c o.m 1 4 sl 0 0).l.old sd b = (mtouch c o.m 1 4 sl 0 0).l.old)⟩
  else ⟨mtouch c o.m 3 4 sl o.s (withN o.s sd b), false, o.s, (mtouch c o.m 3 4 sl o.s (withN o.s sd b)).l.done⟩

def wit (c : Cf) (sl sd b : Int) (o : Ls) : Nat → Ls
  | 0 => o
  | k + 1 => wstep c sl sd b (wit c sl sd b o k)

theorem wstep_ok {c : Cf} {sl sd b : Int} {o : Ls} (ho : Lok c o) : Lok c (wstep c sl sd b o) := by
  unfold wstep
  split
  · exact ho
  split
  · exact ⟨word_touch ho.wd zero_word, old_word ho.wd⟩
  · exact ⟨word_touch ho.wd (with_word ho.s _ _), ho.s⟩

theorem wstep_done {c : Cf} {sl sd b : Int} {o : Ls} (hd : o.dn = true) : wstep c sl sd b o = o := by
  unfold wstep
  rw [if_pos hd]

theorem wit_done {c : Cf} {sl sd b : Int} {o : Ls} {q : Nat} (hd : (wit c sl sd b o q).dn = true) {k : Nat} (hk : q ≤ k) : wit c sl sd b o k = wit c sl sd b o q := by
  obtain ⟨d, rfl⟩ : ∃ d, k = q + d := ⟨k - q, by omega⟩
  clear hk
  induction d with
  | zero => rfl
  | succ d ih =>
    show wstep c sl sd b (wit c sl sd b o (q + d)) = _
    rw [ih]
    exact wstep_done hd

/-! ## words -/

theorem with_self {x : Nat} {a b : Int} (h : hasN x a b = true) : withN x a b = x := by
  unfold hasN at h
  have h1 : okS a b = true := by cases ho : okS a b <;> rw [ho] at h <;> first | rfl | cases h
  rw [h1, Bool.true_and] at h
  rw [with_ok _ h1]
  exact setN_self _ _ _ h

theorem with_comm (x : Nat) (a b a' b' : Int) : withN (withN x a b) a' b' = withN (withN x a' b') a b := by
  cases ho : okS a b with
  | false => rw [with_bad _ a b ho, with_bad _ a b ho]
  | true =>
    cases ho' : okS a' b' with
    | false => rw [with_bad _ a' b' ho', with_bad _ a' b' ho']
    | true =>
      rw [with_ok _ ho, with_ok _ ho', with_ok _ ho', with_ok _ ho]
      exact setN_comm _ _ _ _ _ (.inr rfl)

/-- bits stay -/
theorem has_stay {x : Nat} {a b : Int} (a' b' : Int) (h : hasN x a b = true) : hasN (withN x a' b') a b = true := by
  unfold hasN at h ⊢
  cases ho : okS a b with
  | false => rw [ho] at h; cases h
  | true =>
    rw [ho, Bool.true_and] at h
    rw [Bool.true_and]
    cases ho' : okS a' b' with
    | false => rw [with_bad _ a' b' ho']; exact h
    | true =>
      rw [with_ok _ ho', testBit_setN]
      split
      · rfl
      · exact h

theorem has_any {x : Nat} {a b : Int} (h : hasN x a b = true) : anyN x a = true := by
  have h1 : okS a b = true := by
    unfold hasN at h
    cases ho : okS a b <;> rw [ho] at h <;> first | rfl | cases h
  have := any_with x a b h1
  rwa [with_self h] at this

theorem with_bit {x : Nat} {a b : Int} {j : Nat} (h : x.testBit j = true) : (withN x a b).testBit j = true := by
  cases ho : okS a b with
  | false => rw [with_bad _ a b ho]; exact h
  | true =>
    rw [with_ok _ ho, testBit_setN]
    split
    · rfl
    · exact h

theorem any_stay {x : Nat} {a : Int} (a' b' : Int) (h : anyN x a = true) : anyN (withN x a' b') a = true := by
  by_cases ha : a = 0 ∨ a = 1
  · rw [any_iff ha] at h ⊢
    rcases h with ⟨j, h1, h2⟩ | h
    · exact .inl ⟨j, h1, with_bit h2⟩
    · exact .inr (with_bit h)
  · unfold anyN at h
    rw [decide_eq_false ha] at h
    cases h

/-! ## alone -/

/-- what it comes to, alone -/
def jtg (sd b : Int) (sn W N : Nat) : Nat :=
  if stN W < 2 ∨ 4 < stN W ∨ (stN W = 4 ∧ past N sn = true) then 1 else if hasN W sd b = true then 2 else if stN W ≠ 2 ∧ anyN W (1 - sd) = true then 3 else 2

theorem jtg_pos (sd b : Int) (sn W N : Nat) : jtg sd b sn W N ≠ 0 := by
  unfold jtg
  (repeat' split) <;> decide

theorem jjd_r (sd b : Int) (M : Mm) (nx s : Nat) : (jjd sd b M nx s).r = (if hasN s sd b = true then 2 else if stN s ≠ 2 ∧ anyN s (1 - sd) = true then 3 else 0) ∧ (jjd sd b M nx s).m = M ∧ (jjd sd b M nx s).s = s ∧ ((jjd sd b M nx s).r = 0 → (jjd sd b M nx s).nx = 2 ∧ hasN s sd b = false) := by
  unfold jjd
  by_cases h1 : hasN s sd b = true
  · rw [if_pos h1, if_pos h1]
    exact ⟨rfl, rfl, rfl, (fun q => by cases q)⟩
  rw [if_neg h1, if_neg h1]
  by_cases h2 : stN s ≠ 2 ∧ anyN s (1 - sd) = true
  · rw [if_pos h2, if_pos h2]
    exact ⟨rfl, rfl, rfl, (fun q => by cases q)⟩
  · rw [if_neg h2, if_neg h2]
    exact ⟨rfl, rfl, rfl, fun _ => ⟨rfl, by simpa using h1⟩⟩

section
variable {c : Cf} {sl sd b : Int} {sn : Nat}

theorem slot_cells (hr : c.r = true) (h0 : 0 ≤ sl) (h1 : sl < c.s) : 0 ≤ c.cl 4 sl ∧ 0 ≤ c.cl 6 sl := by
  obtain ⟨a, d, e⟩ := sl_cells hr h0 h1
  omega

theorem jstep_look (hr : c.r = true) (h0 : 0 ≤ sl) (h1 : sl < c.s) {o : Js} (hr0 : o.r = 0) (hn : o.nx = 0) :
    jstep c sl sd b sn o = if stN (o.m.ws (c.cl 4 sl).toNat) = 4 then ⟨mtouch c o.m 1 4 sl 0 0, 1, o.m.ws (c.cl 4 sl).toNat, 0⟩
      else if stN (o.m.ws (c.cl 4 sl).toNat) = 2 ∨ stN (o.m.ws (c.cl 4 sl).toNat) = 3 then jjd sd b (mtouch c o.m 1 4 sl 0 0) 0 (o.m.ws (c.cl 4 sl).toNat)
      else ⟨mtouch c o.m 1 4 sl 0 0, 0, o.m.ws (c.cl 4 sl).toNat, 1⟩ := by
  have hc := (slot_cells hr h0 h1).1
  have hold : (mtouch c o.m 1 4 sl 0 0).l.old = o.m.ws (c.cl 4 sl).toNat := by rw [load_old, if_pos hc]
  unfold jstep
  rw [if_neg (by rw [hr0]; decide), if_pos hn, hold]

theorem jstep_num (hr : c.r = true) (h0 : 0 ≤ sl) (h1 : sl < c.s) {o : Js} (hr0 : o.r = 0) (hn : o.nx = 1) :
    jstep c sl sd b sn o = if past (o.m.ws (c.cl 6 sl).toNat) sn = true then ⟨mtouch c o.m 1 6 sl 0 0, 1, o.s, 1⟩ else jjd sd b (mtouch c o.m 1 6 sl 0 0) 1 o.s := by
  have hc := (slot_cells hr h0 h1).2
  have hold : (mtouch c o.m 1 6 sl 0 0).l.old = o.m.ws (c.cl 6 sl).toNat := by rw [load_old, if_pos hc]
  unfold jstep
  rw [if_neg (by rw [hr0]; decide), if_neg (by rw [hn]; decide), if_pos hn, hold]

theorem jstep_lay (hr : c.r = true) (h0 : 0 ≤ sl) (h1 : sl < c.s) {o : Js} (hr0 : o.r = 0) (hn : o.nx = 2) :
    jstep c sl sd b sn o = ⟨mtouch c o.m 3 4 sl o.s (withN o.s sd b), 0, o.s, if o.m.ws (c.cl 4 sl).toNat = o.s then 2 else 0⟩ := by
  have hc := (slot_cells hr h0 h1).1
  have hd : (mtouch c o.m 3 4 sl o.s (withN o.s sd b)).l.done = decide (o.m.ws (c.cl 4 sl).toNat = o.s) := by
    rw [swap_done]
    by_cases e : o.m.ws (c.cl 4 sl).toNat = o.s
    · rw [decide_eq_true e, decide_eq_true ⟨hc, e⟩]
    · rw [decide_eq_false e, decide_eq_false (fun q => e q.2)]
  unfold jstep
  rw [if_neg (by rw [hr0]; decide), if_neg (by rw [hn]; decide), if_neg (by rw [hn]; decide), hd]
  by_cases e : o.m.ws (c.cl 4 sl).toNat = o.s
  · rw [decide_eq_true e, if_pos rfl, if_pos e]
  · rw [decide_eq_false e, if_neg (by decide), if_neg e]

/-- judged, and laid: the next step ends it -/
theorem judged_end (hr : c.r = true) (h0 : 0 ≤ sl) (h1 : sl < c.s) (M : Mm) (nx : Nat) (ws : Nat → Nat) (hM : M.ws = ws) (W : Nat) (hW : W = ws (c.cl 4 sl).toNat) :
    (jstep c sl sd b sn (jjd sd b M nx W)).r = (if hasN W sd b = true then 2 else if stN W ≠ 2 ∧ anyN W (1 - sd) = true then 3 else 2) ∧
    ∀ i : Nat, (jstep c sl sd b sn (jjd sd b M nx W)).m.ws i = if (jstep c sl sd b sn (jjd sd b M nx W)).r = 2 ∧ (i : Int) = c.cl 4 sl then withN (ws i) sd b else ws i := by
  have hc := (slot_cells hr h0 h1).1
  obtain ⟨q1, q2, q3, q4⟩ := jjd_r sd b M nx W
  by_cases hz : (jjd sd b M nx W).r = 0
  · obtain ⟨n2, hf⟩ := q4 hz
    have hl := jstep_lay (sd := sd) (b := b) (sn := sn) hr h0 h1 hz n2
    have he : (jjd sd b M nx W).m.ws (c.cl 4 sl).toNat = (jjd sd b M nx W).s := by rw [q2, q3, hM, hW]
    rw [if_pos he] at hl
    rw [hl]
    have hno : ¬ (stN W ≠ 2 ∧ anyN W (1 - sd) = true) := by
      intro h2
      rw [q1, if_neg (by rw [hf]; decide), if_pos h2] at hz
      cases hz
    rw [if_neg (by rw [hf]; decide), if_neg hno]
    refine ⟨rfl, fun i => ?_⟩
    show (mtouch c _ 3 4 sl _ _).ws i = if 2 = 2 ∧ _ then _ else _
    rw [swap_ws, q2, q3, hM]
    by_cases e : (i : Int) = c.cl 4 sl
    · have ei : i = (c.cl 4 sl).toNat := by omega
      rw [if_pos ⟨e, by rw [ei, hW]⟩, if_pos ⟨rfl, e⟩, ei, hW]
    · rw [if_neg (fun q => e q.1), if_neg (fun q => e q.2)]
  · rw [jstep_end hz, q2, hM]
    rw [q1] at hz ⊢
    by_cases h2 : hasN W sd b = true
    · rw [if_pos h2, if_pos h2]
      refine ⟨rfl, fun i => ?_⟩
      by_cases e : (i : Int) = c.cl 4 sl
      · have ei : i = (c.cl 4 sl).toNat := by omega
        rw [if_pos ⟨rfl, e⟩, ei, ← hW, with_self h2]
      · rw [if_neg (fun q => e q.2)]
    · rw [if_neg h2] at hz ⊢
      rw [if_neg h2]
      by_cases h3 : stN W ≠ 2 ∧ anyN W (1 - sd) = true
      · rw [if_pos h3, if_pos h3]
        exact ⟨rfl, fun i => by rw [if_neg (fun q => by cases q.1)]⟩
      · rw [if_neg h3] at hz
        exact absurd rfl hz

end

/-- alone: at most three steps -/
theorem join_alone {c : Cf} (hr : c.r = true) {sl sd b : Int} {sn : Nat} (h0 : 0 ≤ sl) (h1 : sl < c.s) (m : Mm) {k : Nat} (hk : 3 ≤ k) (A : Js) (hA : A = jit c sl sd b sn (jnew m) k) :
    A.r = jtg sd b sn (m.ws (c.cl 4 sl).toNat) (m.ws (c.cl 6 sl).toNat) ∧ (∀ i : Nat, A.m.ws i = if A.r = 2 ∧ (i : Int) = c.cl 4 sl then withN (m.ws i) sd b else m.ws i) ∧ (jit c sl sd b sn (jnew m) 3).r ≠ 0 ∧
      ((jtg sd b sn (m.ws (c.cl 4 sl).toNat) (m.ws (c.cl 6 sl).toNat) ≠ 2 ∨ hasN (m.ws (c.cl 4 sl).toNat) sd b = true) → (jit c sl sd b sn (jnew m) 2).r ≠ 0) := by
  obtain ⟨W, hW⟩ : ∃ W, W = m.ws (c.cl 4 sl).toNat := ⟨_, rfl⟩
  obtain ⟨N, hN⟩ : ∃ N, N = m.ws (c.cl 6 sl).toNat := ⟨_, rfl⟩
  rw [← hW, ← hN]
  have hws4 : (mtouch c m 1 4 sl 0 0).ws = m.ws := load_ws c m 4 sl
  have e1 : jit c sl sd b sn (jnew m) 1 = _ := jstep_look (sd := sd) (b := b) (sn := sn) hr h0 h1 (o := jnew m) rfl rfl
  have hw0 : (jnew m).m.ws (c.cl 4 sl).toNat = W := hW.symm
  rw [hw0] at e1
  have s2 : jit c sl sd b sn (jnew m) 2 = jstep c sl sd b sn (jit c sl sd b sn (jnew m) 1) := rfl
  have s3 : jit c sl sd b sn (jnew m) 3 = jstep c sl sd b sn (jit c sl sd b sn (jnew m) 2) := rfl
  by_cases h4 : stN W = 4
  · rw [if_pos h4] at e1
    have e2 := jstep_num (sd := sd) (b := b) (sn := sn) hr h0 h1 (o := jit c sl sd b sn (jnew m) 1) (by rw [e1]) (by rw [e1])
    rw [← s2] at e2
    have hm1 : (jit c sl sd b sn (jnew m) 1).m.ws = m.ws := by rw [e1]; exact hws4
    have hs1 : (jit c sl sd b sn (jnew m) 1).s = W := by rw [e1]
    rw [hm1, hs1, ← hN] at e2
    have hws6 : (mtouch c (jit c sl sd b sn (jnew m) 1).m 1 6 sl 0 0).ws = m.ws := by rw [load_ws, hm1]
    by_cases hp : past N sn = true
    · rw [if_pos hp] at e2
      have hr2 : (jit c sl sd b sn (jnew m) 2).r = 1 := by rw [e2]
      have ht : jtg sd b sn W N = 1 := by unfold jtg; rw [if_pos (.inr (.inr ⟨h4, hp⟩))]
      have h2 : (jit c sl sd b sn (jnew m) 2).r ≠ 0 := by rw [hr2]; decide
      rw [hA, jit_end h2 (show 2 ≤ k by omega), hr2, ht]
      refine ⟨rfl, fun i => ?_, ?_, fun _ => (by first | exact h2 | decide)⟩
      · rw [e2, if_neg (fun q => by cases q.1)]
        exact congrFun hws6 i
      · rw [jit_end h2 (show 2 ≤ 3 by omega)]; exact h2
    · rw [if_neg hp] at e2
      have hj := judged_end (sd := sd) (b := b) (sn := sn) hr h0 h1 (mtouch c (jit c sl sd b sn (jnew m) 1).m 1 6 sl 0 0) 1 m.ws hws6 W hW
      rw [← e2, ← s3] at hj
      have ht : jtg sd b sn W N = if hasN W sd b = true then 2 else if stN W ≠ 2 ∧ anyN W (1 - sd) = true then 3 else 2 := by
        unfold jtg
        rw [if_neg (fun q => by rcases q with q | q | q; omega; omega; exact hp q.2)]
      have h3 : (jit c sl sd b sn (jnew m) 3).r ≠ 0 := by rw [hj.1, ← ht]; exact jtg_pos _ _ _ _ _
      rw [hA, jit_end h3 hk]
      refine ⟨by rw [hj.1, ht], hj.2, h3, fun q => ?_⟩
      rw [e2, (jjd_r sd b _ 1 W).1]
      rw [ht] at q
      by_cases g1 : hasN W sd b = true
      · rw [if_pos g1]; decide
      · rw [if_neg g1] at q ⊢
        by_cases g2 : stN W ≠ 2 ∧ anyN W (1 - sd) = true
        · rw [if_pos g2]; decide
        · rw [if_neg g2] at q
          rcases q with q | q
          · exact absurd rfl q
          · exact absurd q g1
  · rw [if_neg h4] at e1
    by_cases h23 : stN W = 2 ∨ stN W = 3
    · rw [if_pos h23] at e1
      have hj := judged_end (sd := sd) (b := b) (sn := sn) hr h0 h1 (mtouch c (jnew m).m 1 4 sl 0 0) 0 m.ws hws4 W hW
      rw [← e1, ← s2] at hj
      have ht : jtg sd b sn W N = if hasN W sd b = true then 2 else if stN W ≠ 2 ∧ anyN W (1 - sd) = true then 3 else 2 := by
        unfold jtg
        rw [if_neg (fun q => by rcases q with q | q | q <;> omega)]
      have h2 : (jit c sl sd b sn (jnew m) 2).r ≠ 0 := by rw [hj.1, ← ht]; exact jtg_pos _ _ _ _ _
      rw [hA, jit_end h2 (show 2 ≤ k by omega)]
      refine ⟨by rw [hj.1, ht], hj.2, ?_, fun _ => h2⟩
      rw [jit_end h2 (show 2 ≤ 3 by omega)]
      exact h2
    · rw [if_neg h23] at e1
      have hr1 : (jit c sl sd b sn (jnew m) 1).r = 1 := by rw [e1]
      have g1 : (jit c sl sd b sn (jnew m) 1).r ≠ 0 := by rw [hr1]; decide
      have hlt : stN W < 8 := part_lt W 27 3
      have ht : jtg sd b sn W N = 1 := by
        unfold jtg
        rw [if_pos (by omega)]
      rw [hA, jit_end g1 (show 1 ≤ k by omega), hr1, ht]
      refine ⟨rfl, fun i => ?_, ?_, fun _ => ?_⟩
      · rw [e1, if_neg (fun q => by cases q.1)]
        exact congrFun hws4 i
      · rw [jit_end g1 (show 1 ≤ 3 by omega)]; exact g1
      · rw [jit_end g1 (show 1 ≤ 2 by omega)]; exact g1

end Um

/-
  Plain arithmetic of layer 11: two that lay conflicts to one status at once. No Go in sight.
-/
namespace Um
set_option maxRecDepth 100000

/-- another memory -/
def setJ (m : Mm) (o : Js) : Js := ⟨m, o.nx, o.s, o.r⟩

def JokW (c : Cf) (o : Js) : Prop := ∀ m : Mm, (∀ i, i < c.n → Word (m.ws i)) → Jok c (setJ m o)

theorem Jok.okw {c : Cf} {o : Js} (h : Jok c o) : JokW c o := fun _ hm => ⟨hm, h.s, h.nx, h.r⟩

/-- one that lays a conflict to a status W that is not Free, Beginning or aborted, and not past -/
structure Sj (W : Nat) (sd b : Int) (a : Js) : Prop where
  r : a.r = 0 ∨ a.r = 2 ∨ a.r = 3
  nx : a.nx ≤ 2
  two : a.r = 2 → hasN W sd b = true
  thr : a.r = 3 → anyN W (1 - sd) = true ∧ stN W ≠ 2
  s : a.r = 0 → 1 ≤ a.nx → (hasN a.s sd b = true → hasN W sd b = true) ∧ (anyN a.s (1 - sd) = true → anyN W (1 - sd) = true) ∧ stN a.s = stN W
  lay : a.r = 0 → a.nx = 2 → stN a.s ≠ 2 → anyN a.s (1 - sd) = false

theorem Sj.grow {W : Nat} {sd b : Int} {a : Js} (h : Sj W sd b a) (x y : Int) : Sj (withN W x y) sd b a :=
  ⟨h.r, h.nx, fun q => has_stay _ _ (h.two q), fun q => ⟨any_stay _ _ (h.thr q).1, by rw [st_with]; exact (h.thr q).2⟩, fun q r => ⟨fun t => has_stay _ _ ((h.s q r).1 t), fun t => any_stay _ _ ((h.s q r).2.1 t), by rw [st_with]; exact (h.s q r).2.2⟩, h.lay⟩

theorem Sj.at {W : Nat} {sd b : Int} {a : Js} (h : Sj W sd b a) (m : Mm) : Sj W sd b (setJ m a) := ⟨h.r, h.nx, h.two, h.thr, h.s, h.lay⟩

/-- two of either side, of a status that is committing, or committed -/
structure Bj (W : Nat) (p q b d : Int) (x y : Js) : Prop where
  pq : q = 1 - p ∧ p = 1 - q
  st : stN W = 3 ∨ stN W = 4
  one : ¬ (anyN W p = true ∧ anyN W q = true)
  X : Sj W p b x
  Y : Sj W q d y

theorem Bj.swap {W : Nat} {p q b d : Int} {x y : Js} (h : Bj W p q b d x y) : Bj W q p d b y x := ⟨⟨h.pq.2, h.pq.1⟩, h.st, fun r => h.one ⟨r.2, r.1⟩, h.Y, h.X⟩

theorem Bj.at {W : Nat} {p q b d : Int} {x y : Js} (h : Bj W p q b d x y) (m : Mm) : Bj W p q b d (setJ m x) y := ⟨h.pq, h.st, h.one, h.X.at m, h.Y⟩

end Um
