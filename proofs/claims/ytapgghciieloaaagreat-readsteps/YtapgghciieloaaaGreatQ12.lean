/-
  Texts that the laws stand on, merged (GateA, BlkRes, BlkRet).
-/
import Derived.Test.YtapgghciieloaaaGreatQ10
import Derived.Test.YtapgghciieloaaaGreatQ11
import Derived.Test.YtapgghciieloaaaGreatQ3
import Derived.Test.YtapgghciieloaaaGreatQ9
import Derived.Lib.QuietBelow

namespace Go.Proofs.YtapgghciieloaaaGreat
section
set_option maxRecDepth 100000
open Go.RowKit Go.Sort
set_option linter.unusedVariables false
set_option linter.unusedSimpArgs false
theorem eqGFn (f : Fn) (x y : Array Value) (w : World) : (binOp .eql 56 (.func f x y) .nilFunc).run Tryz.prog w = .ok (.bool false) w := by kernel_rfl
theorem eqGNo (w : World) : (binOp .eql 56 .nilFunc .nilFunc).run Tryz.prog w = .ok (.bool true) w := by kernel_rfl
theorem Sx.enter3e {bs : List Nat} {w0 w : World} {l e : List (Nat × List Value)} {b1 b2 b3 : Nat} {c1 c2 c3 : List Value} (hS : Sx bs w0 w l e) (i j k : Nat) (hi : l[i]? = some (b1, c1)) (hj : l[j]? = some (b2, c2)) (hk : l[k]? = some (b3, c3)) (hij : i ≠ j) (hik : i ≠ k) (hjk : j ≠ k) : Sx [b1, b2, b3] w w [(b1, c1), (b2, c2), (b3, c3)] e :=
  hS.enter [(b1, c1), (b2, c2), (b3, c3)] e (fun p hp => by
      rcases (by simpa using hp : p = (b1, c1) ∨ p = (b2, c2) ∨ p = (b3, c3)) with rfl | rfl | rfl
      · exact List.mem_of_getElem? hi
      · exact List.mem_of_getElem? hj
      · exact List.mem_of_getElem? hk)
    (by
      have h1 := hS.ne i j hi hj hij
      have h2 := hS.ne i k hi hk hik
      have h3 := hS.ne j k hj hk hjk
      simp [h1, h2, h3]) (fun p hp => hp)
theorem Sx.enter1e {bs : List Nat} {w0 w : World} {l e : List (Nat × List Value)} {b1 : Nat} {c1 : List Value} (hS : Sx bs w0 w l e) (i : Nat) (hi : l[i]? = some (b1, c1)) : Sx [b1] w w [(b1, c1)] e :=
  hS.enter [(b1, c1)] e (fun p hp => by
      obtain rfl : p = _ := by simpa using hp
      exact List.mem_of_getElem? hi) (by simp) (fun p hp => hp)
theorem st_mod (s : Nat) : (((Um.part s 27 3 : Nat) : Int) % 8).toNat = Um.stN s := by
  have h1 := Um.part_lt s 27 3
  have h2 : Um.stN s = Um.part s 27 3 := rfl
  omega
theorem lst_mod (st : Int) (s : Nat) : (((Um.lst st s : Nat) : Int) % 8).toNat = Um.lst st s := by
  have h1 := Um.lst_lt st s
  omega
section
variable {bs : List Nat} {w0 w : World} {l e : List (Nat × List Value)} {B C P : Nat} {c : Um.Cf} {m : Um.Mm} {sl st fe : Int} {h s wd : Nat} {la : Option Addr} {nl cl : Nat} {fn : Value}
set_option maxHeartbeats 1000000 in
theorem gSpotE_b (hB : BlkAt w P [.int .i64 sl, .int .u64 (s : Nat), .int .u64 (h : Nat), .slice la nl cl, fn, .int .i64 fe, .int .u64 (wd : Nat)]) : Calls Tryz.prog 119 #[.pointer (some ⟨P, 0, none⟩)] w fun r w' => r = .returned (.agg #[.int .i64 4, .int .i64 sl]) ∧ Below w.heap.size w w' := by
  have hS := Sx.read1 hB
  clear hB
  go_enter Tryz.func119, Tryz.ntmps119
  go_wp2_with (first | (first | (refine ybox hS (h := ?_); clear hS; intro _ _ hS) | (refine yall hS (h := ?_); clear hS; intro _ _ hS) | refine yld hS (h := ?_) | (refine yst hS (h := ?_); clear hS; intro _ hS)) | (refine wpx_load1e hS 0 rfl _ _ rfl _ _ rfl _ rfl (one_any2 rfl) _ rfl _ (by simp only [Act.put, List.setIfInBounds_toArray, List.set_cons_zero, List.set_cons_succ]; first | done | exact rfl) ?_))
  have hZ := hS.get 0 rfl
  exact bodyPost_ret (v := (.agg #[.int .i64 4, .int .i64 sl])) (by simp [results, Tryz.results119, go_sem, hZ.cell 0 _ rfl, hZ.cell 1 _ rfl]) rfl ⟨rfl, hS.bel⟩
set_option maxHeartbeats 1000000 in
theorem gMovedE_b (hB : BlkAt w P [.int .i64 sl, .int .u64 (s : Nat), .int .u64 (h : Nat), .slice la nl cl, fn, .int .i64 fe, .int .u64 (wd : Nat)]) (x : Int) (bz : Bool) (hs : Um.Word s) : Calls Tryz.prog 121 #[.pointer (some ⟨P, 0, none⟩), .int .i64 x, .bool bz] w fun r w' => r = .returned (.int .u64 (Um.moveN s (x % 8).toNat bz : Nat)) ∧ Below w.heap.size w w' := by
  have h1 := hB.cell 1 _ rfl
  have HC := hide (same_below (move_any s x bz w hs))
  clear hB hs
  go_enter Tryz.func121, Tryz.ntmps121
  go_wp2_with fail
  refine (unhide HC).mono ?_
  rintro r u ⟨rfl, hb⟩
  clear HC
  go_wp2
  go_ret
  exact ⟨rfl, hb⟩
set_option maxHeartbeats 4000000 in
theorem gLookE_x (hS : Sx bs w0 w l e) (i j k : Nat) (hi : l[i]? = some (B, memL c C m)) (hj : l[j]? = some (C, rowW m.ws c.n)) (hk : l[k]? = some (P, [.int .i64 sl, .int .u64 (s : Nat), .int .u64 (h : Nat), .slice la nl cl, fn, .int .i64 fe, .int .u64 (wd : Nat)])) (hij : i ≠ j) (hik : i ≠ k) (hjk : j ≠ k) (hr : c.r = true) (hw : WordsOk c m) (hb0 : -9223372036854775808 ≤ sl) (hb1 : sl ≤ 9223372036854775807) (M : Um.Mm) (hM : M = Um.mtouch c m 1 4 sl 0 0) :
    Calls Tryz.prog 102 #[.pointer (some ⟨P, 0, none⟩), .pointer (some ⟨B, 0, none⟩)] w fun r w' => r = .returned (.agg #[.int .i64 (Um.part M.l.old 30 32 : Nat), .int .i64 (Um.part M.l.old 27 3 : Nat), .bool ((M.l.old : Nat).testBit 26), .bool ((M.l.old : Nat).testBit 25), .bool ((M.l.old : Nat).testBit 24), .int .i64 (Um.part M.l.old 12 12 : Nat), .int .i64 (Um.part M.l.old 0 12 : Nat)]) ∧ WordsOk c M ∧ Sx bs w0 w' (putL l [(i, B, memL c C M), (j, C, rowW M.ws c.n), (k, P, [.int .i64 sl, .int .u64 (M.l.old : Nat), .int .u64 (h : Nat), .slice la nl cl, fn, .int .i64 fe, .int .u64 (wd : Nat)])]) e := by
  have HO := hide (show Um.Word (Um.mtouch c m 1 4 sl 0 0).l.old from Um.old_word hw)
  rw [← hM] at HO
  have HS := hide hS
  have HI := hide (And.intro hi (And.intro hj hk))
  have hL := hS.enter3 i j k hi hj hk hij hik hjk
  have HR := hide hr
  have HW := hide hw
  have HM := hide hM
  have HBD := hide (And.intro hb0 hb1)
  clear hS hi hj hk hr hw hM hb0 hb1
  have hS := hL
  clear hL
  go_enter Tryz.func102, Tryz.ntmps102
  go_wp2_with (first | (refine ybox hS (h := ?_); clear hS; intro _ _ hS) | (refine yall hS (h := ?_); clear hS; intro _ _ hS) | refine yld hS (h := ?_) | (refine yst hS (h := ?_); clear hS; intro _ hS))
  refine (gSpotE_b (hS.get 2 rfl)).mono ?_
  rintro r u ⟨rfl, hb⟩
  replace hS := hS.call hb
  clear hb
  go_wp2_with fail
  refine (mLoad_x hS 0 1 rfl rfl (by decide) (unhide HR) (unhide HW) 4 sl (unhide HBD).1 (unhide HBD).2 M (unhide HM)).mono ?_
  rintro r u ⟨rfl, hWn, hSn⟩
  clear hS
  have hS := hSn
  clear hSn
  dsimp only [putL, List.set, List.cons_append, List.nil_append] at hS
  have HW6 := hide hWn
  clear hWn
  go_wp2_with (first | (refine ybox hS (h := ?_); clear hS; intro _ _ hS) | (refine yall hS (h := ?_); clear hS; intro _ _ hS) | refine yld hS (h := ?_) | (refine yst hS (h := ?_); clear hS; intro _ hS))
  refine (unpack_any M.l.old _ (unhide HO)).mono ?_
  rintro r u ⟨rfl, hb⟩
  replace hS := hS.call hb
  clear hb
  go_wp2_with (first | (refine ybox hS (h := ?_); clear hS; intro _ _ hS) | (refine yall hS (h := ?_); clear hS; intro _ _ hS) | refine yld hS (h := ?_) | (refine yst hS (h := ?_); clear hS; intro _ hS))
  have hZ := hS.get 3 rfl
  exact bodyPost_ret (v := .agg #[.int .i64 (Um.part M.l.old 30 32 : Nat), .int .i64 (Um.part M.l.old 27 3 : Nat), .bool ((M.l.old : Nat).testBit 26), .bool ((M.l.old : Nat).testBit 25), .bool ((M.l.old : Nat).testBit 24), .int .i64 (Um.part M.l.old 12 12 : Nat), .int .i64 (Um.part M.l.old 0 12 : Nat)]) (by simp [results, Tryz.results102, go_sem, hZ.cell 0 _ rfl, hZ.cell 1 _ rfl, hZ.cell 2 _ rfl, hZ.cell 3 _ rfl, hZ.cell 4 _ rfl, hZ.cell 5 _ rfl, hZ.cell 6 _ rfl]) rfl ⟨rfl, unhide HW6, (unhide HS).back3 i j k (unhide HI).1 (unhide HI).2.1 (unhide HI).2.2 hS⟩
set_option maxHeartbeats 4000000 in
theorem gSwapE_x (hS : Sx bs w0 w l e) (i j k : Nat) (hi : l[i]? = some (B, memL c C m)) (hj : l[j]? = some (C, rowW m.ws c.n)) (hk : l[k]? = some (P, [.int .i64 sl, .int .u64 (s : Nat), .int .u64 (h : Nat), .slice la nl cl, fn, .int .i64 fe, .int .u64 (wd : Nat)])) (hij : i ≠ j) (hik : i ≠ k) (hjk : j ≠ k) (hr : c.r = true) (hw : WordsOk c m) (hb0 : -9223372036854775808 ≤ sl) (hb1 : sl ≤ 9223372036854775807) (v : Nat) (hv : Um.Word v) (M : Um.Mm) (hM : M = Um.mtouch c m 3 4 sl s v) :
    Calls Tryz.prog 122 #[.pointer (some ⟨P, 0, none⟩), .pointer (some ⟨B, 0, none⟩), .int .u64 (v : Nat)] w fun r w' => r = .returned (.bool M.l.done) ∧ WordsOk c M ∧ Sx bs w0 w' (putL l [(i, B, memL c C M), (j, C, rowW M.ws c.n), (k, P, [.int .i64 sl, .int .u64 (s : Nat), .int .u64 (h : Nat), .slice la nl cl, fn, .int .i64 fe, .int .u64 (wd : Nat)])]) e := by
  have HS := hide hS
  have HI := hide (And.intro hi (And.intro hj hk))
  have hL := hS.enter3 i j k hi hj hk hij hik hjk
  have HR := hide hr
  have HW := hide hw
  have HM := hide hM
  have HV := hide hv
  have HBD := hide (And.intro hb0 hb1)
  clear hS hi hj hk hr hw hM hb0 hb1 hv
  have hS := hL
  clear hL
  have k1 := fun w' (hq : BlkAt w' P [.int .i64 sl, .int .u64 (s : Nat), .int .u64 (h : Nat), .slice la nl cl, fn, .int .i64 fe, .int .u64 (wd : Nat)]) => hq.cell 1 _ rfl
  have HP := hide (hS.get 2 rfl)
  go_enter Tryz.func122, Tryz.ntmps122
  go_wp2_with fail
  have HS3 := hide hS
  clear hS
  go_region_held3 (fun w' => BlkAt w' P [.int .i64 sl, .int .u64 (s : Nat), .int .u64 (h : Nat), .slice la nl cl, fn, .int .i64 fe, .int .u64 (wd : Nat)]) (first | exact (unhide HP).drew | exact BlkAt.below (by assumption) (by assumption) | assumption) (first | (go_at_call 119; refine (gSpotE_b (by assumption)).mono ?_; rintro e u5 ⟨rfl, hb5⟩) | (go_at_call 132; refine (mSwap_x ((unhide HS3).undrew hb5) 0 1 rfl rfl (by decide) (unhide HR) (unhide HW) 4 sl s v (unhide HV) (unhide HBD).1 (unhide HBD).2 M (unhide HM)).mono ?_; rintro e u7 ⟨rfl, hW6, hS6⟩; have hP6 := hS6.get 2 rfl))
  have hS := hS6
  have HW6 := hide hW6
  clear hS6 hP6 hW6 k1 HS3 HP
  dsimp only [putL, List.set] at hS
  go_wp2_with fail
  go_ret
  exact ⟨rfl, unhide HW6, (unhide HS).back3 i j k (unhide HI).1 (unhide HI).2.1 (unhide HI).2.2 hS⟩
set_option maxHeartbeats 1000000 in
theorem gSpotL_b (hB : BlkAt w P [.int .i64 sl, .int .u64 (s : Nat), .int .i64 st, fn]) : Calls Tryz.prog 119 #[.pointer (some ⟨P, 0, none⟩)] w fun r w' => r = .returned (.agg #[.int .i64 4, .int .i64 sl]) ∧ Below w.heap.size w w' := by
  have hS := Sx.read1 hB
  clear hB
  go_enter Tryz.func119, Tryz.ntmps119
  go_wp2_with (first | (first | (refine ybox hS (h := ?_); clear hS; intro _ _ hS) | (refine yall hS (h := ?_); clear hS; intro _ _ hS) | refine yld hS (h := ?_) | (refine yst hS (h := ?_); clear hS; intro _ hS)) | (refine wpx_load1e hS 0 rfl _ _ rfl _ _ rfl _ rfl (one_any2 rfl) _ rfl _ (by simp only [Act.put, List.setIfInBounds_toArray, List.set_cons_zero, List.set_cons_succ]; first | done | exact rfl) ?_))
  have hZ := hS.get 0 rfl
  exact bodyPost_ret (v := (.agg #[.int .i64 4, .int .i64 sl])) (by simp [results, Tryz.results119, go_sem, hZ.cell 0 _ rfl, hZ.cell 1 _ rfl]) rfl ⟨rfl, hS.bel⟩
set_option maxHeartbeats 1000000 in
theorem gMovedL_b (hB : BlkAt w P [.int .i64 sl, .int .u64 (s : Nat), .int .i64 st, fn]) (x : Int) (bz : Bool) (hs : Um.Word s) : Calls Tryz.prog 121 #[.pointer (some ⟨P, 0, none⟩), .int .i64 x, .bool bz] w fun r w' => r = .returned (.int .u64 (Um.moveN s (x % 8).toNat bz : Nat)) ∧ Below w.heap.size w w' := by
  have h1 := hB.cell 1 _ rfl
  have HC := hide (same_below (move_any s x bz w hs))
  clear hB hs
  go_enter Tryz.func121, Tryz.ntmps121
  go_wp2_with fail
  refine (unhide HC).mono ?_
  rintro r u ⟨rfl, hb⟩
  clear HC
  go_wp2
  go_ret
  exact ⟨rfl, hb⟩
set_option maxHeartbeats 4000000 in
theorem gLookL_x (hS : Sx bs w0 w l e) (i j k : Nat) (hi : l[i]? = some (B, memL c C m)) (hj : l[j]? = some (C, rowW m.ws c.n)) (hk : l[k]? = some (P, [.int .i64 sl, .int .u64 (s : Nat), .int .i64 st, fn])) (hij : i ≠ j) (hik : i ≠ k) (hjk : j ≠ k) (hr : c.r = true) (hw : WordsOk c m) (hb0 : -9223372036854775808 ≤ sl) (hb1 : sl ≤ 9223372036854775807) (M : Um.Mm) (hM : M = Um.mtouch c m 1 4 sl 0 0) :
    Calls Tryz.prog 102 #[.pointer (some ⟨P, 0, none⟩), .pointer (some ⟨B, 0, none⟩)] w fun r w' => r = .returned (.agg #[.int .i64 (Um.part M.l.old 30 32 : Nat), .int .i64 (Um.part M.l.old 27 3 : Nat), .bool ((M.l.old : Nat).testBit 26), .bool ((M.l.old : Nat).testBit 25), .bool ((M.l.old : Nat).testBit 24), .int .i64 (Um.part M.l.old 12 12 : Nat), .int .i64 (Um.part M.l.old 0 12 : Nat)]) ∧ WordsOk c M ∧ Sx bs w0 w' (putL l [(i, B, memL c C M), (j, C, rowW M.ws c.n), (k, P, [.int .i64 sl, .int .u64 (M.l.old : Nat), .int .i64 st, fn])]) e := by
  have HO := hide (show Um.Word (Um.mtouch c m 1 4 sl 0 0).l.old from Um.old_word hw)
  rw [← hM] at HO
  have HS := hide hS
  have HI := hide (And.intro hi (And.intro hj hk))
  have hL := hS.enter3 i j k hi hj hk hij hik hjk
  have HR := hide hr
  have HW := hide hw
  have HM := hide hM
  have HBD := hide (And.intro hb0 hb1)
  clear hS hi hj hk hr hw hM hb0 hb1
  have hS := hL
  clear hL
  go_enter Tryz.func102, Tryz.ntmps102
  go_wp2_with (first | (refine ybox hS (h := ?_); clear hS; intro _ _ hS) | (refine yall hS (h := ?_); clear hS; intro _ _ hS) | refine yld hS (h := ?_) | (refine yst hS (h := ?_); clear hS; intro _ hS))
  refine (gSpotL_b (hS.get 2 rfl)).mono ?_
  rintro r u ⟨rfl, hb⟩
  replace hS := hS.call hb
  clear hb
  go_wp2_with fail
  refine (mLoad_x hS 0 1 rfl rfl (by decide) (unhide HR) (unhide HW) 4 sl (unhide HBD).1 (unhide HBD).2 M (unhide HM)).mono ?_
  rintro r u ⟨rfl, hWn, hSn⟩
  clear hS
  have hS := hSn
  clear hSn
  dsimp only [putL, List.set, List.cons_append, List.nil_append] at hS
  have HW6 := hide hWn
  clear hWn
  go_wp2_with (first | (refine ybox hS (h := ?_); clear hS; intro _ _ hS) | (refine yall hS (h := ?_); clear hS; intro _ _ hS) | refine yld hS (h := ?_) | (refine yst hS (h := ?_); clear hS; intro _ hS))
  refine (unpack_any M.l.old _ (unhide HO)).mono ?_
  rintro r u ⟨rfl, hb⟩
  replace hS := hS.call hb
  clear hb
  go_wp2_with (first | (refine ybox hS (h := ?_); clear hS; intro _ _ hS) | (refine yall hS (h := ?_); clear hS; intro _ _ hS) | refine yld hS (h := ?_) | (refine yst hS (h := ?_); clear hS; intro _ hS))
  have hZ := hS.get 3 rfl
  exact bodyPost_ret (v := .agg #[.int .i64 (Um.part M.l.old 30 32 : Nat), .int .i64 (Um.part M.l.old 27 3 : Nat), .bool ((M.l.old : Nat).testBit 26), .bool ((M.l.old : Nat).testBit 25), .bool ((M.l.old : Nat).testBit 24), .int .i64 (Um.part M.l.old 12 12 : Nat), .int .i64 (Um.part M.l.old 0 12 : Nat)]) (by simp [results, Tryz.results102, go_sem, hZ.cell 0 _ rfl, hZ.cell 1 _ rfl, hZ.cell 2 _ rfl, hZ.cell 3 _ rfl, hZ.cell 4 _ rfl, hZ.cell 5 _ rfl, hZ.cell 6 _ rfl]) rfl ⟨rfl, unhide HW6, (unhide HS).back3 i j k (unhide HI).1 (unhide HI).2.1 (unhide HI).2.2 hS⟩
set_option maxHeartbeats 4000000 in
theorem gSwapL_x (hS : Sx bs w0 w l e) (i j k : Nat) (hi : l[i]? = some (B, memL c C m)) (hj : l[j]? = some (C, rowW m.ws c.n)) (hk : l[k]? = some (P, [.int .i64 sl, .int .u64 (s : Nat), .int .i64 st, fn])) (hij : i ≠ j) (hik : i ≠ k) (hjk : j ≠ k) (hr : c.r = true) (hw : WordsOk c m) (hb0 : -9223372036854775808 ≤ sl) (hb1 : sl ≤ 9223372036854775807) (v : Nat) (hv : Um.Word v) (M : Um.Mm) (hM : M = Um.mtouch c m 3 4 sl s v) :
    Calls Tryz.prog 122 #[.pointer (some ⟨P, 0, none⟩), .pointer (some ⟨B, 0, none⟩), .int .u64 (v : Nat)] w fun r w' => r = .returned (.bool M.l.done) ∧ WordsOk c M ∧ Sx bs w0 w' (putL l [(i, B, memL c C M), (j, C, rowW M.ws c.n), (k, P, [.int .i64 sl, .int .u64 (s : Nat), .int .i64 st, fn])]) e := by
  have HS := hide hS
  have HI := hide (And.intro hi (And.intro hj hk))
  have hL := hS.enter3 i j k hi hj hk hij hik hjk
  have HR := hide hr
  have HW := hide hw
  have HM := hide hM
  have HV := hide hv
  have HBD := hide (And.intro hb0 hb1)
  clear hS hi hj hk hr hw hM hb0 hb1 hv
  have hS := hL
  clear hL
  have k1 := fun w' (hq : BlkAt w' P [.int .i64 sl, .int .u64 (s : Nat), .int .i64 st, fn]) => hq.cell 1 _ rfl
  have HP := hide (hS.get 2 rfl)
  go_enter Tryz.func122, Tryz.ntmps122
  go_wp2_with fail
  have HS3 := hide hS
  clear hS
  go_region_held3 (fun w' => BlkAt w' P [.int .i64 sl, .int .u64 (s : Nat), .int .i64 st, fn]) (first | exact (unhide HP).drew | exact BlkAt.below (by assumption) (by assumption) | assumption) (first | (go_at_call 119; refine (gSpotL_b (by assumption)).mono ?_; rintro e u5 ⟨rfl, hb5⟩) | (go_at_call 132; refine (mSwap_x ((unhide HS3).undrew hb5) 0 1 rfl rfl (by decide) (unhide HR) (unhide HW) 4 sl s v (unhide HV) (unhide HBD).1 (unhide HBD).2 M (unhide HM)).mono ?_; rintro e u7 ⟨rfl, hW6, hS6⟩; have hP6 := hS6.get 2 rfl))
  have hS := hS6
  have HW6 := hide hW6
  clear hS6 hP6 hW6 k1 HS3 HP
  dsimp only [putL, List.set] at hS
  go_wp2_with fail
  go_ret
  exact ⟨rfl, unhide HW6, (unhide HS).back3 i j k (unhide HI).1 (unhide HI).2.1 (unhide HI).2.2 hS⟩
set_option maxHeartbeats 4000000 in
theorem gStranger_x (hS : Sx bs w0 w l e) (i j k : Nat) (hi : l[i]? = some (B, memL c C m)) (hj : l[j]? = some (C, rowW m.ws c.n)) (hk : l[k]? = some (P, [.int .i64 sl, .int .u64 (s : Nat), .int .u64 (h : Nat), .slice la nl cl, fn, .int .i64 fe, .int .u64 (wd : Nat)])) (hij : i ≠ j) (hr : c.r = true) (hw : WordsOk c m) (hh : Um.Word h) : Calls Tryz.prog 104 #[.pointer (some ⟨P, 0, none⟩), .pointer (some ⟨B, 0, none⟩)] w fun r w' => r = .returned (.bool (!Um.ook h c.s)) ∧ Below w.heap.size w w' := by
  have HCF := hide (fun d os => Calls.regrown_of (config9_x (hS.call (below_regrown w d os)) i j hi hj hij hr hw))
  have HOF := hide (fun u => kOf_any h c.s u hh)
  have hf := field_cfgS
  have kA := cell_regrown ((hS.get k hk).cell 2 _ rfl)
  clear hS hi hj hk hij hr hw hh
  go_enter Tryz.func104, Tryz.ntmps104
  go_wp2_with fail
  refine wp_region_quiet_below (by kernel_rfl) (by kernel_rfl) ?_
  repeat (go_big_quiet_step (first | (go_at_call 123; exact (unhide HCF) _ _) | (go_at_call 43; exact Calls.regrown_of ((unhide HOF) _))))
  refine wpQuiet_nil ?_
  intro _ hw'
  obtain ⟨⟨dq, osq⟩, hw''⟩ := hw'
  subst hw''
  have hb := below_regrown w dq osq
  clear HCF HOF kA
  generalize grow (redrawn w dq) osq = u9 at *
  go_wp2
  go_ret
  exact ⟨rfl, hb⟩
set_option maxHeartbeats 2000000 in
theorem gDone_f (f : Fn) (a1 a2 : Array Value) (hS : Sx bs w0 w l e) (i j k : Nat) (hi : l[i]? = some (B, memL c C m)) (hj : l[j]? = some (C, rowW m.ws c.n)) (hk : l[k]? = some (P, [.int .i64 sl, .int .u64 (s : Nat), .int .u64 (h : Nat), .slice la nl cl, .func f a1 a2, .int .i64 fe, .int .u64 (wd : Nat)])) (hij : i ≠ j) (hr : c.r = true) (hw : WordsOk c m) (hh : Um.Word h) : Calls Tryz.prog 87 #[.pointer (some ⟨P, 0, none⟩), .pointer (some ⟨B, 0, none⟩)] w fun r w' => r = .returned (.bool (!Um.ook h c.s)) ∧ Below w.heap.size w w' := by
  have HST := hide (gStranger_x hS i j k hi hj hk hij hr hw hh)
  have hE := eqGFn
  have h4 := (hS.get k hk).cell 4 _ rfl
  clear hS hi hj hk hij hr hw hh
  go_enter Tryz.func87, Tryz.ntmps87
  go_wp2_with fail
  refine (unhide HST).mono ?_
  rintro r u ⟨rfl, hb⟩
  clear HST
  go_wp2
  go_ret
  exact ⟨rfl, hb⟩
set_option maxHeartbeats 2000000 in
theorem gDone_n (hS : Sx bs w0 w l e) (i j k : Nat) (hi : l[i]? = some (B, memL c C m)) (hj : l[j]? = some (C, rowW m.ws c.n)) (hk : l[k]? = some (P, [.int .i64 sl, .int .u64 (s : Nat), .int .u64 (h : Nat), .slice la nl cl, .nilFunc, .int .i64 fe, .int .u64 (wd : Nat)])) (hij : i ≠ j) (hr : c.r = true) (hw : WordsOk c m) (hh : Um.Word h) : Calls Tryz.prog 87 #[.pointer (some ⟨P, 0, none⟩), .pointer (some ⟨B, 0, none⟩)] w fun r w' => r = .returned (.bool (true)) ∧ Below w.heap.size w w' := by
  have hE := eqGNo
  have h4 := (hS.get k hk).cell 4 _ rfl
  clear hS hi hj hk hij hr hw hh
  go_enter Tryz.func87, Tryz.ntmps87
  go_wp2
  go_ret
  exact ⟨rfl, Below.refl _ _⟩
set_option maxHeartbeats 2000000 in
theorem gError_y (hS : Sx bs w0 w l e) (i j k : Nat) (hi : l[i]? = some (B, memL c C m)) (hj : l[j]? = some (C, rowW m.ws c.n)) (hk : l[k]? = some (P, [.int .i64 sl, .int .u64 (s : Nat), .int .u64 (h : Nat), .slice la nl cl, fn, .int .i64 fe, .int .u64 (wd : Nat)])) (hij : i ≠ j) (hr : c.r = true) (hw : WordsOk c m) (hh : Um.Word h) (hn : Um.ook h c.s = true) : Calls Tryz.prog 88 #[.pointer (some ⟨P, 0, none⟩), .pointer (some ⟨B, 0, none⟩)] w fun r w' => r = .returned (.int .i64 fe) ∧ Below w.heap.size w w' := by
  have HST := hide (gStranger_x hS i j k hi hj hk hij hr hw hh)
  rw [hn] at HST
  have HB := hide (hS.get k hk)
  clear hS hi hj hk hij hr hw hh hn
  go_enter Tryz.func88, Tryz.ntmps88
  go_wp2_with fail
  refine (unhide HST).mono ?_
  rintro r u ⟨rfl, hb⟩
  have h5 := ((unhide HB).below hb).cell 5 _ rfl
  clear HST HB
  go_wp2
  go_ret
  exact ⟨rfl, hb⟩
set_option maxHeartbeats 2000000 in
theorem gError_n (hS : Sx bs w0 w l e) (i j k : Nat) (hi : l[i]? = some (B, memL c C m)) (hj : l[j]? = some (C, rowW m.ws c.n)) (hk : l[k]? = some (P, [.int .i64 sl, .int .u64 (s : Nat), .int .u64 (h : Nat), .slice la nl cl, fn, .int .i64 fe, .int .u64 (wd : Nat)])) (hij : i ≠ j) (hr : c.r = true) (hw : WordsOk c m) (hh : Um.Word h) (hn : Um.ook h c.s = false) : Calls Tryz.prog 88 #[.pointer (some ⟨P, 0, none⟩), .pointer (some ⟨B, 0, none⟩)] w fun r w' => r = .returned (.int .i64 2) ∧ Below w.heap.size w w' := by
  have HST := hide (gStranger_x hS i j k hi hj hk hij hr hw hh)
  rw [hn] at HST
  have HB := hide (hS.get k hk)
  clear hS hi hj hk hij hr hw hh hn
  go_enter Tryz.func88, Tryz.ntmps88
  go_wp2_with fail
  refine (unhide HST).mono ?_
  rintro r u ⟨rfl, hb⟩
  have h5 := ((unhide HB).below hb).cell 5 _ rfl
  clear HST HB
  go_wp2
  go_ret
  exact ⟨rfl, hb⟩
set_option maxHeartbeats 4000000 in
theorem gAgainst_g (hB : BlkAt w P [.int .i64 sl, .int .u64 (s : Nat), .int .u64 (h : Nat), .slice la nl cl, fn, .int .i64 fe, .int .u64 (wd : Nat)]) (x : Nat) (Z : Nat → Int) (hh : Um.Word h) (hg : ((Um.gnN x : Nat) : Int) ≠ Um.tgN h) : Calls Tryz.prog 101 #[.pointer (some ⟨P, 0, none⟩), .agg #[.int .i64 (Um.part x 30 32 : Nat), .int .i64 (Um.part x 27 3 : Nat), .bool ((x : Nat).testBit 26), .bool ((x : Nat).testBit 25), .bool ((x : Nat).testBit 24), .int .i64 (Um.part x 12 12 : Nat), .int .i64 (Um.part x 0 12 : Nat)]] w fun r w' => r = .returned (.int .i64 2) ∧ Below w.heap.size w w' := by
  have g1 : ¬ ((Um.part x 30 32 : Nat) : Int) = Um.tgN h := hg
  have g2 : (((Um.part x 30 32 : Nat) : Int) != Um.tgN h) = true := by simpa using g1
  clear hg
  have hS := Sx.read1 hB
  have HH := hide hh
  clear hB hh
  go_enter Tryz.func101, Tryz.ntmps101
  go_wp2_with (first | (refine ybox hS (h := ?_); clear hS; intro _ _ hS) | (refine yall hS (h := ?_); clear hS; intro _ _ hS) | refine yld hS (h := ?_) | (refine yst hS (h := ?_); clear hS; intro _ hS))
  obtain ⟨u, rfl⟩ := nameW hS
  have kP := cell_regrown ((hS.getE 0 rfl).cell 2 _ rfl)
  have k0 := cell_regrown ((hS.get 0 rfl).cell 0 _ rfl)
  have HSQ := hide hS
  clear hS
  refine wp_region_quiet_below (by kernel_rfl) (by kernel_rfl) ?_
  repeat (go_big_quiet_step (first | (go_at_call 117; exact Calls.regrown_of (kGen_any _ _ (unhide HH)))))
  refine wpQuiet_nil ?_
  intro _ hw'
  obtain ⟨⟨dq, osq⟩, hw''⟩ := hw'
  subst hw''
  have hS := (unhide HSQ).call (below_regrown u dq osq)
  clear HSQ kP k0
  generalize grow (redrawn u dq) osq = u9 at *
  go_wp2_with (first | (refine ybox hS (h := ?_); clear hS; intro _ _ hS) | (refine yall hS (h := ?_); clear hS; intro _ _ hS) | refine yld hS (h := ?_) | (refine yst hS (h := ?_); clear hS; intro _ hS))
  have hB := hS.bel
  clear hS
  try go_wp2
  go_ret
  exact ⟨rfl, hB⟩
set_option maxHeartbeats 4000000 in
theorem gAgainst_0 (hB : BlkAt w P [.int .i64 sl, .int .u64 (s : Nat), .int .u64 (h : Nat), .slice la nl cl, fn, .int .i64 fe, .int .u64 (wd : Nat)]) (x : Nat) (Z : Nat → Int) (hh : Um.Word h) (hg : ((Um.gnN x : Nat) : Int) = Um.tgN h) (h3 : Um.stN x = 0) : Calls Tryz.prog 101 #[.pointer (some ⟨P, 0, none⟩), .agg #[.int .i64 (Um.part x 30 32 : Nat), .int .i64 (Um.part x 27 3 : Nat), .bool ((x : Nat).testBit 26), .bool ((x : Nat).testBit 25), .bool ((x : Nat).testBit 24), .int .i64 (Um.part x 12 12 : Nat), .int .i64 (Um.part x 0 12 : Nat)]] w fun r w' => r = .returned (.int .i64 2) ∧ Below w.heap.size w w' := by
  have g1 : ((Um.part x 30 32 : Nat) : Int) = Um.tgN h := hg
  have g2 : (((Um.part x 30 32 : Nat) : Int) != Um.tgN h) = false := by simpa using g1
  clear hg
  have hq : Um.part x 27 3 = 0 := h3
  clear h3
  rw [hq]
  have hS := Sx.read1 hB
  have HH := hide hh
  clear hB hh
  go_enter Tryz.func101, Tryz.ntmps101
  go_wp2_with (first | (refine ybox hS (h := ?_); clear hS; intro _ _ hS) | (refine yall hS (h := ?_); clear hS; intro _ _ hS) | refine yld hS (h := ?_) | (refine yst hS (h := ?_); clear hS; intro _ hS))
  obtain ⟨u, rfl⟩ := nameW hS
  have kP := cell_regrown ((hS.getE 0 rfl).cell 2 _ rfl)
  have k0 := cell_regrown ((hS.get 0 rfl).cell 0 _ rfl)
  have HSQ := hide hS
  clear hS
  refine wp_region_quiet_below (by kernel_rfl) (by kernel_rfl) ?_
  repeat (go_big_quiet_step (first | (go_at_call 117; exact Calls.regrown_of (kGen_any _ _ (unhide HH)))))
  refine wpQuiet_nil ?_
  intro _ hw'
  obtain ⟨⟨dq, osq⟩, hw''⟩ := hw'
  subst hw''
  have hS := (unhide HSQ).call (below_regrown u dq osq)
  clear HSQ kP k0
  generalize grow (redrawn u dq) osq = u9 at *
  go_wp2_with (first | (refine ybox hS (h := ?_); clear hS; intro _ _ hS) | (refine yall hS (h := ?_); clear hS; intro _ _ hS) | refine yld hS (h := ?_) | (refine yst hS (h := ?_); clear hS; intro _ hS))
  have hB := hS.bel
  clear hS
  try go_wp2
  go_ret
  exact ⟨rfl, hB⟩
set_option maxHeartbeats 4000000 in
theorem gAgainst_1 (hB : BlkAt w P [.int .i64 sl, .int .u64 (s : Nat), .int .u64 (h : Nat), .slice la nl cl, fn, .int .i64 fe, .int .u64 (wd : Nat)]) (x : Nat) (Z : Nat → Int) (hh : Um.Word h) (hg : ((Um.gnN x : Nat) : Int) = Um.tgN h) (h3 : Um.stN x = 1) : Calls Tryz.prog 101 #[.pointer (some ⟨P, 0, none⟩), .agg #[.int .i64 (Um.part x 30 32 : Nat), .int .i64 (Um.part x 27 3 : Nat), .bool ((x : Nat).testBit 26), .bool ((x : Nat).testBit 25), .bool ((x : Nat).testBit 24), .int .i64 (Um.part x 12 12 : Nat), .int .i64 (Um.part x 0 12 : Nat)]] w fun r w' => r = .returned (.int .i64 2) ∧ Below w.heap.size w w' := by
  have g1 : ((Um.part x 30 32 : Nat) : Int) = Um.tgN h := hg
  have g2 : (((Um.part x 30 32 : Nat) : Int) != Um.tgN h) = false := by simpa using g1
  clear hg
  have hq : Um.part x 27 3 = 1 := h3
  clear h3
  rw [hq]
  have hS := Sx.read1 hB
  have HH := hide hh
  clear hB hh
  go_enter Tryz.func101, Tryz.ntmps101
  go_wp2_with (first | (refine ybox hS (h := ?_); clear hS; intro _ _ hS) | (refine yall hS (h := ?_); clear hS; intro _ _ hS) | refine yld hS (h := ?_) | (refine yst hS (h := ?_); clear hS; intro _ hS))
  obtain ⟨u, rfl⟩ := nameW hS
  have kP := cell_regrown ((hS.getE 0 rfl).cell 2 _ rfl)
  have k0 := cell_regrown ((hS.get 0 rfl).cell 0 _ rfl)
  have HSQ := hide hS
  clear hS
  refine wp_region_quiet_below (by kernel_rfl) (by kernel_rfl) ?_
  repeat (go_big_quiet_step (first | (go_at_call 117; exact Calls.regrown_of (kGen_any _ _ (unhide HH)))))
  refine wpQuiet_nil ?_
  intro _ hw'
  obtain ⟨⟨dq, osq⟩, hw''⟩ := hw'
  subst hw''
  have hS := (unhide HSQ).call (below_regrown u dq osq)
  clear HSQ kP k0
  generalize grow (redrawn u dq) osq = u9 at *
  go_wp2_with (first | (refine ybox hS (h := ?_); clear hS; intro _ _ hS) | (refine yall hS (h := ?_); clear hS; intro _ _ hS) | refine yld hS (h := ?_) | (refine yst hS (h := ?_); clear hS; intro _ hS))
  have hB := hS.bel
  clear hS
  try go_wp2
  go_ret
  exact ⟨rfl, hB⟩
set_option maxHeartbeats 4000000 in
theorem gAgainst_b (hB : BlkAt w P [.int .i64 sl, .int .u64 (s : Nat), .int .u64 (h : Nat), .slice la nl cl, fn, .int .i64 fe, .int .u64 (wd : Nat)]) (x : Nat) (Z : Nat → Int) (hh : Um.Word h) (hg : ((Um.gnN x : Nat) : Int) = Um.tgN h) (h0 : Um.stN x ≠ 0) (h1 : Um.stN x ≠ 1) (hz : x.testBit 26 = true) : Calls Tryz.prog 101 #[.pointer (some ⟨P, 0, none⟩), .agg #[.int .i64 (Um.part x 30 32 : Nat), .int .i64 (Um.part x 27 3 : Nat), .bool ((x : Nat).testBit 26), .bool ((x : Nat).testBit 25), .bool ((x : Nat).testBit 24), .int .i64 (Um.part x 12 12 : Nat), .int .i64 (Um.part x 0 12 : Nat)]] w fun r w' => r = .returned (.int .i64 3) ∧ Below w.heap.size w w' := by
  have g1 : ((Um.part x 30 32 : Nat) : Int) = Um.tgN h := hg
  have g2 : (((Um.part x 30 32 : Nat) : Int) != Um.tgN h) = false := by simpa using g1
  clear hg
  have hq : Um.stN x = Um.part x 27 3 := rfl
  have s1 : ¬ ((Um.part x 27 3 : Nat) : Int) = 0 := by omega
  have s2 : (((Um.part x 27 3 : Nat) : Int) == 0) = false := by simpa using s1
  have s3 : ¬ ((Um.part x 27 3 : Nat) : Int) = 1 := by omega
  have s4 : (((Um.part x 27 3 : Nat) : Int) == 1) = false := by simpa using s3
  clear h0 h1 hq
  rw [hz]
  have hS := Sx.read1 hB
  have HH := hide hh
  clear hB hh
  go_enter Tryz.func101, Tryz.ntmps101
  go_wp2_with (first | (refine ybox hS (h := ?_); clear hS; intro _ _ hS) | (refine yall hS (h := ?_); clear hS; intro _ _ hS) | refine yld hS (h := ?_) | (refine yst hS (h := ?_); clear hS; intro _ hS))
  obtain ⟨u, rfl⟩ := nameW hS
  have kP := cell_regrown ((hS.getE 0 rfl).cell 2 _ rfl)
  have k0 := cell_regrown ((hS.get 0 rfl).cell 0 _ rfl)
  have HSQ := hide hS
  clear hS
  refine wp_region_quiet_below (by kernel_rfl) (by kernel_rfl) ?_
  repeat (go_big_quiet_step (first | (go_at_call 117; exact Calls.regrown_of (kGen_any _ _ (unhide HH)))))
  refine wpQuiet_nil ?_
  intro _ hw'
  obtain ⟨⟨dq, osq⟩, hw''⟩ := hw'
  subst hw''
  have hS := (unhide HSQ).call (below_regrown u dq osq)
  clear HSQ kP k0
  generalize grow (redrawn u dq) osq = u9 at *
  go_wp2_with (first | (refine ybox hS (h := ?_); clear hS; intro _ _ hS) | (refine yall hS (h := ?_); clear hS; intro _ _ hS) | refine yld hS (h := ?_) | (refine yst hS (h := ?_); clear hS; intro _ hS))
  have hB := hS.bel
  clear hS
  try go_wp2
  go_ret
  exact ⟨rfl, hB⟩
set_option maxHeartbeats 4000000 in
theorem gAgainst_y (hB : BlkAt w P [.int .i64 sl, .int .u64 (s : Nat), .int .u64 (h : Nat), .slice la nl cl, fn, .int .i64 fe, .int .u64 (wd : Nat)]) (x : Nat) (Z : Nat → Int) (hh : Um.Word h) (hg : ((Um.gnN x : Nat) : Int) = Um.tgN h) (h0 : Um.stN x ≠ 0) (h1 : Um.stN x ≠ 1) (hz : x.testBit 26 = false) (hb : nl ≤ 50) (hZ : RowOf w la nl (fun i => .int .i64 (Z i))) (hi : inZ Z nl ((Um.stN x : Nat) : Int) = true) : Calls Tryz.prog 101 #[.pointer (some ⟨P, 0, none⟩), .agg #[.int .i64 (Um.part x 30 32 : Nat), .int .i64 (Um.part x 27 3 : Nat), .bool ((x : Nat).testBit 26), .bool ((x : Nat).testBit 25), .bool ((x : Nat).testBit 24), .int .i64 (Um.part x 12 12 : Nat), .int .i64 (Um.part x 0 12 : Nat)]] w fun r w' => r = .returned (.int .i64 0) ∧ Below w.heap.size w w' := by
  have g1 : ((Um.part x 30 32 : Nat) : Int) = Um.tgN h := hg
  have g2 : (((Um.part x 30 32 : Nat) : Int) != Um.tgN h) = false := by simpa using g1
  clear hg
  have hq : Um.stN x = Um.part x 27 3 := rfl
  have s1 : ¬ ((Um.part x 27 3 : Nat) : Int) = 0 := by omega
  have s2 : (((Um.part x 27 3 : Nat) : Int) == 0) = false := by simpa using s1
  have s3 : ¬ ((Um.part x 27 3 : Nat) : Int) = 1 := by omega
  have s4 : (((Um.part x 27 3 : Nat) : Int) == 1) = false := by simpa using s3
  clear h0 h1 hq
  rw [hz]
  have HIN := hide (And.intro hZ hi)
  clear hz hZ hi
  have hS := Sx.read1 hB
  have HH := hide hh
  clear hB hh
  go_enter Tryz.func101, Tryz.ntmps101
  go_wp2_with (first | (refine ybox hS (h := ?_); clear hS; intro _ _ hS) | (refine yall hS (h := ?_); clear hS; intro _ _ hS) | refine yld hS (h := ?_) | (refine yst hS (h := ?_); clear hS; intro _ hS))
  obtain ⟨u, rfl⟩ := nameW hS
  have kP := cell_regrown ((hS.getE 0 rfl).cell 2 _ rfl)
  have k0 := cell_regrown ((hS.get 0 rfl).cell 0 _ rfl)
  have HSQ := hide hS
  clear hS
  refine wp_region_quiet_below (by kernel_rfl) (by kernel_rfl) ?_
  repeat (go_big_quiet_step (first | (go_at_call 117; exact Calls.regrown_of (kGen_any _ _ (unhide HH)))))
  refine wpQuiet_nil ?_
  intro _ hw'
  obtain ⟨⟨dq, osq⟩, hw''⟩ := hw'
  subst hw''
  have hS := (unhide HSQ).call (below_regrown u dq osq)
  clear HSQ kP k0
  generalize grow (redrawn u dq) osq = u9 at *
  go_wp2_with (first | (refine ybox hS (h := ?_); clear hS; intro _ _ hS) | (refine yall hS (h := ?_); clear hS; intro _ _ hS) | refine yld hS (h := ?_) | (refine yst hS (h := ?_); clear hS; intro _ hS))
  obtain ⟨u, rfl⟩ := nameW hS
  have kP := cell_regrown ((hS.getE 0 rfl).cell 3 _ rfl)
  have k1 := cell_regrown ((hS.get 0 rfl).cell 1 _ rfl)
  have HCT := hide (fun d os => Calls.regrown_of (same_below (gContains_any la nl cl Z ((Um.part x 27 3 : Nat) : Int) _ hb (((unhide HIN).1.below hS.bel).below (below_regrown u d os)))))
  rw [show inZ Z nl ((Um.part x 27 3 : Nat) : Int) = true from (unhide HIN).2] at HCT
  have HSQ := hide hS
  clear hS
  refine wp_region_quiet_below (by kernel_rfl) (by kernel_rfl) ?_
  repeat (go_big_quiet_step (first | (go_at_call 118; exact (unhide HCT) _ _)))
  refine wpQuiet_nil ?_
  intro _ hw'
  obtain ⟨⟨dq, osq⟩, hw''⟩ := hw'
  subst hw''
  have hS := (unhide HSQ).call (below_regrown u dq osq)
  clear HCT HSQ kP k1
  generalize grow (redrawn u dq) osq = u8 at *
  go_wp2_with (first | (refine ybox hS (h := ?_); clear hS; intro _ _ hS) | (refine yall hS (h := ?_); clear hS; intro _ _ hS) | refine yld hS (h := ?_) | (refine yst hS (h := ?_); clear hS; intro _ hS))
  have hB := hS.bel
  clear hS
  try go_wp2
  go_ret
  exact ⟨rfl, hB⟩
set_option maxHeartbeats 4000000 in
theorem gAgainst_n (hB : BlkAt w P [.int .i64 sl, .int .u64 (s : Nat), .int .u64 (h : Nat), .slice la nl cl, fn, .int .i64 fe, .int .u64 (wd : Nat)]) (x : Nat) (Z : Nat → Int) (hh : Um.Word h) (hg : ((Um.gnN x : Nat) : Int) = Um.tgN h) (h0 : Um.stN x ≠ 0) (h1 : Um.stN x ≠ 1) (hz : x.testBit 26 = false) (hb : nl ≤ 50) (hZ : RowOf w la nl (fun i => .int .i64 (Z i))) (hi : inZ Z nl ((Um.stN x : Nat) : Int) = false) : Calls Tryz.prog 101 #[.pointer (some ⟨P, 0, none⟩), .agg #[.int .i64 (Um.part x 30 32 : Nat), .int .i64 (Um.part x 27 3 : Nat), .bool ((x : Nat).testBit 26), .bool ((x : Nat).testBit 25), .bool ((x : Nat).testBit 24), .int .i64 (Um.part x 12 12 : Nat), .int .i64 (Um.part x 0 12 : Nat)]] w fun r w' => r = .returned (.int .i64 4) ∧ Below w.heap.size w w' := by
  have g1 : ((Um.part x 30 32 : Nat) : Int) = Um.tgN h := hg
  have g2 : (((Um.part x 30 32 : Nat) : Int) != Um.tgN h) = false := by simpa using g1
  clear hg
  have hq : Um.stN x = Um.part x 27 3 := rfl
  have s1 : ¬ ((Um.part x 27 3 : Nat) : Int) = 0 := by omega
  have s2 : (((Um.part x 27 3 : Nat) : Int) == 0) = false := by simpa using s1
  have s3 : ¬ ((Um.part x 27 3 : Nat) : Int) = 1 := by omega
  have s4 : (((Um.part x 27 3 : Nat) : Int) == 1) = false := by simpa using s3
  clear h0 h1 hq
  rw [hz]
  have HIN := hide (And.intro hZ hi)
  clear hz hZ hi
  have hS := Sx.read1 hB
  have HH := hide hh
  clear hB hh
  go_enter Tryz.func101, Tryz.ntmps101
  go_wp2_with (first | (refine ybox hS (h := ?_); clear hS; intro _ _ hS) | (refine yall hS (h := ?_); clear hS; intro _ _ hS) | refine yld hS (h := ?_) | (refine yst hS (h := ?_); clear hS; intro _ hS))
  obtain ⟨u, rfl⟩ := nameW hS
  have kP := cell_regrown ((hS.getE 0 rfl).cell 2 _ rfl)
  have k0 := cell_regrown ((hS.get 0 rfl).cell 0 _ rfl)
  have HSQ := hide hS
  clear hS
  refine wp_region_quiet_below (by kernel_rfl) (by kernel_rfl) ?_
  repeat (go_big_quiet_step (first | (go_at_call 117; exact Calls.regrown_of (kGen_any _ _ (unhide HH)))))
  refine wpQuiet_nil ?_
  intro _ hw'
  obtain ⟨⟨dq, osq⟩, hw''⟩ := hw'
  subst hw''
  have hS := (unhide HSQ).call (below_regrown u dq osq)
  clear HSQ kP k0
  generalize grow (redrawn u dq) osq = u9 at *
  go_wp2_with (first | (refine ybox hS (h := ?_); clear hS; intro _ _ hS) | (refine yall hS (h := ?_); clear hS; intro _ _ hS) | refine yld hS (h := ?_) | (refine yst hS (h := ?_); clear hS; intro _ hS))
  obtain ⟨u, rfl⟩ := nameW hS
  have kP := cell_regrown ((hS.getE 0 rfl).cell 3 _ rfl)
  have k1 := cell_regrown ((hS.get 0 rfl).cell 1 _ rfl)
  have HCT := hide (fun d os => Calls.regrown_of (same_below (gContains_any la nl cl Z ((Um.part x 27 3 : Nat) : Int) _ hb (((unhide HIN).1.below hS.bel).below (below_regrown u d os)))))
  rw [show inZ Z nl ((Um.part x 27 3 : Nat) : Int) = false from (unhide HIN).2] at HCT
  have HSQ := hide hS
  clear hS
  refine wp_region_quiet_below (by kernel_rfl) (by kernel_rfl) ?_
  repeat (go_big_quiet_step (first | (go_at_call 118; exact (unhide HCT) _ _)))
  refine wpQuiet_nil ?_
  intro _ hw'
  obtain ⟨⟨dq, osq⟩, hw''⟩ := hw'
  subst hw''
  have hS := (unhide HSQ).call (below_regrown u dq osq)
  clear HCT HSQ kP k1
  generalize grow (redrawn u dq) osq = u8 at *
  go_wp2_with (first | (refine ybox hS (h := ?_); clear hS; intro _ _ hS) | (refine yall hS (h := ?_); clear hS; intro _ _ hS) | refine yld hS (h := ?_) | (refine yst hS (h := ?_); clear hS; intro _ hS))
  have hB := hS.bel
  clear hS
  try go_wp2
  go_ret
  exact ⟨rfl, hB⟩
theorem gAgainst_any (hB : BlkAt w P [.int .i64 sl, .int .u64 (s : Nat), .int .u64 (h : Nat), .slice la nl cl, fn, .int .i64 fe, .int .u64 (wd : Nat)]) (x : Nat) (Z : Nat → Int) (hh : Um.Word h) (hb : nl ≤ 50) (hZ : RowOf w la nl (fun i => .int .i64 (Z i))) : Calls Tryz.prog 101 #[.pointer (some ⟨P, 0, none⟩), .agg #[.int .i64 (Um.part x 30 32 : Nat), .int .i64 (Um.part x 27 3 : Nat), .bool ((x : Nat).testBit 26), .bool ((x : Nat).testBit 25), .bool ((x : Nat).testBit 24), .int .i64 (Um.part x 12 12 : Nat), .int .i64 (Um.part x 0 12 : Nat)]] w fun r w' => r = .returned (.int .i64 (Um.flN h (fun k => inZ Z nl ((k : Nat) : Int)) x)) ∧ Below w.heap.size w w' := by
  by_cases hg : ((Um.gnN x : Nat) : Int) = Um.tgN h
  · by_cases h0 : Um.stN x = 0
    · rw [show Um.flN h (fun k => inZ Z nl ((k : Nat) : Int)) x = 2 by unfold Um.flN; rw [if_pos (.inr (.inl h0))]]
      exact gAgainst_0 hB x Z hh hg h0
    by_cases h1 : Um.stN x = 1
    · rw [show Um.flN h (fun k => inZ Z nl ((k : Nat) : Int)) x = 2 by unfold Um.flN; rw [if_pos (.inr (.inr h1))]]
      exact gAgainst_1 hB x Z hh hg h1
    have hno : ¬ (((Um.gnN x : Nat) : Int) ≠ Um.tgN h ∨ Um.stN x = 0 ∨ Um.stN x = 1) := by
      rintro (q | q | q)
      · exact q hg
      · exact h0 q
      · exact h1 q
    cases hz : x.testBit 26 with
    | true =>
      rw [show Um.flN h (fun k => inZ Z nl ((k : Nat) : Int)) x = 3 by unfold Um.flN; rw [if_neg hno, hz, if_pos rfl]]
      have := gAgainst_b hB x Z hh hg h0 h1 hz
      rwa [hz] at this
    | false =>
      cases hi : inZ Z nl ((Um.stN x : Nat) : Int) with
      | true =>
        rw [show Um.flN h (fun k => inZ Z nl ((k : Nat) : Int)) x = 0 by unfold Um.flN; rw [if_neg hno, hz, if_neg (by decide)]; simp only [hi]; rfl]
        have := gAgainst_y hB x Z hh hg h0 h1 hz hb hZ hi
        rwa [hz] at this
      | false =>
        rw [show Um.flN h (fun k => inZ Z nl ((k : Nat) : Int)) x = 4 by unfold Um.flN; rw [if_neg hno, hz, if_neg (by decide)]; simp only [hi]; rfl]
        have := gAgainst_n hB x Z hh hg h0 h1 hz hb hZ hi
        rwa [hz] at this
  · rw [show Um.flN h (fun k => inZ Z nl ((k : Nat) : Int)) x = 2 by unfold Um.flN; rw [if_pos (.inl hg)]]
    exact gAgainst_g hB x Z hh hg
end
end
section
set_option maxRecDepth 100000
open Go.RowKit Go.Sort
theorem loadVar_blk {P : Program} {w : World} {b : Nat} {cs : List Value} {ty : TypeId} {n : Nat} (h : BlkAt w b cs) (hr : Row P ty n) (hn : cs.length = n) : (loadVar ty ⟨b, 0, none⟩).run P w = .ok (.agg cs.toArray) w := by
  obtain ⟨d, hu, hd, hi⟩ := hr
  have h1 := run_load_st h 0 ty n (by omega) d hu hd hi
  have h2 : cutL cs 0 n = cs := by
    unfold cutL
    rw [← hn]
    simp
  rw [h2] at h1
  simpa [Instr.loadAt, Instr.sureAddr, Sem.run_bind] using h1
theorem mapM1 (f : ResultVar → Sem Value) (x : ResultVar) (P : Program) (w : World) : ((#[x]).mapM f).run P w = ((f x).run P w).andThen fun v w' => .ok #[v] w' := by
  simp
theorem mapM2 (f : ResultVar → Sem Value) (x y : ResultVar) (P : Program) (w : World) : ((#[x, y]).mapM f).run P w = ((f x).run P w).andThen fun v w' => ((f y).run P w').andThen fun v2 w2 => .ok #[v, v2] w2 := by
  simp
theorem cell_run {P : Program} {w : World} {tmps : Array Value} {t : Nat} {ty : TypeId} {b n : Nat} {cs : List Value} (hp : tmps.getD t undef = .pointer (some ⟨b, 0, none⟩)) (h : BlkAt w b cs) (hr : Row P ty n) (hn : cs.length = n) :
    (do loadVar ty (← asAddr (tmps.getD t undef)) : Sem Value).run P w = .ok (.agg cs.toArray) w := by
  rw [hp, Sem.run_bind]
  exact loadVar_blk h hr hn
theorem results_one {P : Program} {w : World} {fn : Func} {tmps : Array Value} {t : Nat} {ty : TypeId} {b n : Nat} {cs : List Value} (hF : fn.results = #[ResultVar.cell t ty]) (hp : tmps.getD t undef = .pointer (some ⟨b, 0, none⟩)) (h : BlkAt w b cs) (hr : Row P ty n) (hn : cs.length = n) :
    (results fn tmps).run P w = .ok (.agg cs.toArray) w := by
  unfold results
  rw [hF, Sem.run_bind, mapM1]
  rw [show _ = Result.ok (Value.agg cs.toArray) w from cell_run hp h hr hn]
  rfl
theorem results_rows {P : Program} {w : World} {fn : Func} {tmps : Array Value} {t t2 : Nat} {ty ty2 : TypeId} {b b2 n n2 : Nat} {cs cs2 : List Value} (hF : fn.results = #[ResultVar.cell t ty, ResultVar.cell t2 ty2]) (hp : tmps.getD t undef = .pointer (some ⟨b, 0, none⟩)) (hp2 : tmps.getD t2 undef = .pointer (some ⟨b2, 0, none⟩)) (h : BlkAt w b cs) (h2 : BlkAt w b2 cs2) (hr : Row P ty n) (hr2 : Row P ty2 n2) (hn : cs.length = n) (hn2 : cs2.length = n2) :
    (results fn tmps).run P w = .ok (.tuple #[.agg cs.toArray, .agg cs2.toArray]) w := by
  unfold results
  rw [hF, Sem.run_bind, mapM2]
  rw [show _ = Result.ok (Value.agg cs.toArray) w from cell_run hp h hr hn]
  show Result.andThen (Result.andThen (Sem.run P _ w) _) _ = _
  rw [show _ = Result.ok (Value.agg cs2.toArray) w from cell_run hp2 h2 hr2 hn2]
  rfl
end
section
set_option maxRecDepth 100000
open Go.RowKit Go.Sort
set_option linter.unusedSimpArgs false
theorem blit_to (vs : List Value) : ∀ (pre cs : List Value), cs.length = vs.length → blit (pre ++ cs) pre.length vs = pre ++ vs := by
  induction vs with
  | nil =>
    intro pre cs h
    rw [List.length_eq_zero_iff.1 h]
    rfl
  | cons v r ih =>
    intro pre cs h
    match cs, h with
    | c :: cs, h =>
      show blit ((pre ++ c :: cs).set pre.length v) (pre.length + 1) r = _
      have e1 : (pre ++ c :: cs).set pre.length v = (pre ++ [v]) ++ cs := by simp
      have e2 : pre.length + 1 = (pre ++ [v]).length := by simp
      rw [e1, e2, ih (pre ++ [v]) cs (by simpa using h)]
      simp
theorem blit_all {cs vs : List Value} (h : cs.length = vs.length) : blit cs 0 vs = vs := blit_to vs [] cs h
theorem cut_all {cs : List Value} {n : Nat} (h : cs.length = n) : cutL cs 0 n = cs := by
  unfold cutL
  rw [← h]
  simp
theorem row_size {P : Program} {T : TypeId} {n : Nat} (h : Row P T n) : (P.info? T).map (·.size) = some n := by
  obtain ⟨_, _, _, hi⟩ := h
  exact hi
def retOps (T1 T2 : TypeId) (tA tB tC tD s s2 : Nat) (p : String) : Array Oper := #[
  { dst := some s, op := .load T1 (.tmp tA), type := T1, pos := p, after := #[], guard := none },
  { dst := some s2, op := .load T2 (.tmp tB), type := T2, pos := p, after := #[{ on := 2, ground := .gcOnly .lateStores }], guard := none },
  { dst := none, op := .store T1 (.tmp tC) (.tmp s), type := 0, pos := p, after := #[{ on := 0, ground := .data }, { on := 0, ground := .phase }, { on := 1, ground := .textOnly .lateStores }], guard := none },
  { dst := none, op := .store T2 (.tmp tD) (.tmp s2), type := 0, pos := p, after := #[{ on := 1, ground := .data }, { on := 2, ground := .chain }, { on := 0, ground := .phase }, { on := 1, ground := .phase }, { on := 2, ground := .phase }], guard := none }]
section
variable {T1 T2 : TypeId} {tA tB tC tD s s2 : Nat} {p : String} {Q : Exit → Act → World → Prop} {id : Nat} {ts : List Value} {bs : List Nat} {w0 w : World} {l e : List (Nat × List Value)} {b1 b2 b3 b4 : Nat} {c1 c2 c3 c4 : List Value} {n1 n2 : Nat}
def retF (ts : List Value) (s s2 : Nat) (v1 v2 : Value) (D : Nat → Bool) : List Value := cond (D 1) ((cond (D 0) (ts.set s v1) ts).set s2 v2) (cond (D 0) (ts.set s v1) ts)
def retB (l : List (Nat × List Value)) (k3 k4 : Nat) (x y : Nat × List Value) (D : Nat → Bool) : List (Nat × List Value) := cond (D 3) ((cond (D 2) (l.set k3 x) l).set k4 y) (cond (D 2) (l.set k3 x) l)
theorem retF_get {v1 v2 : Value} {D : Nat → Bool} {t : Nat} (h1 : t ≠ s) (h2 : t ≠ s2) : (retF ts s s2 v1 v2 D)[t]? = ts[t]? := by
  unfold retF
  cases D 0 <;> cases D 1 <;> simp [List.getElem?_set, h1, h2, Ne.symm h1, Ne.symm h2]
theorem retF_s {v1 v2 : Value} {D : Nat → Bool} (hd : D 0 = true) (hs : s ≠ s2) (hl : s < ts.length) : (retF ts s s2 v1 v2 D)[s]? = some v1 := by
  unfold retF
  rw [hd]
  cases D 1 <;> simp [List.getElem?_set, hs, Ne.symm hs, hl]
theorem retF_s2 {v1 v2 : Value} {D : Nat → Bool} (hd : D 1 = true) (hl : s2 < ts.length) : (retF ts s s2 v1 v2 D)[s2]? = some v2 := by
  unfold retF
  rw [hd]
  cases D 0 <;> simp [hl]
theorem retB_get {k3 k4 k : Nat} {x y : Nat × List Value} {D : Nat → Bool} (h3 : k ≠ k3) (h4 : k ≠ k4) : (retB l k3 k4 x y D)[k]? = l[k]? := by
  unfold retB
  cases D 2 <;> cases D 3 <;> simp [List.getElem?_set, h3, h4, Ne.symm h3, Ne.symm h4]
theorem retB_3 {k3 k4 : Nat} {x y : Nat × List Value} {D : Nat → Bool} (hd : D 2 = false) (h4 : k3 ≠ k4) : (retB l k3 k4 x y D)[k3]? = l[k3]? := by
  unfold retB
  rw [hd]
  cases D 3 <;> simp [List.getElem?_set, Ne.symm h4]
theorem retB_4 {k3 k4 : Nat} {x y : Nat × List Value} {D : Nat → Bool} (hd : D 3 = false) (h4 : k3 ≠ k4) : (retB l k3 k4 x y D)[k4]? = l[k4]? := by
  unfold retB
  rw [hd]
  cases D 2 <;> simp [List.getElem?_set, h4]
theorem eval_at {ts : List Value} {t : Nat} {v : Value} (h : ts[t]? = some v) : Act.eval ⟨ts.toArray, []⟩ (.tmp t) = v := by
  show ts.toArray.getD t undef = v
  simp [h]
theorem wp_ret2 (hS : Sx bs w0 w l e) (k1 k2 k3 k4 : Nat) (h1 : l[k1]? = some (b1, c1) := by rfl) (h2 : l[k2]? = some (b2, c2) := by rfl) (h3 : l[k3]? = some (b3, c3) := by rfl) (h4 : l[k4]? = some (b4, c4) := by rfl)
    (hk : k1 ≠ k3 ∧ k1 ≠ k4 ∧ k2 ≠ k3 ∧ k2 ≠ k4 ∧ k3 ≠ k4 := by decide) (r1 : Row Tryz.prog T1 n1 := by exact row_any2 rfl) (r2 : Row Tryz.prog T2 n2 := by exact row_any2 rfl) (m1 : c1.length = n1 := by rfl) (m2 : c2.length = n2 := by rfl) (m3 : c3.length = n1 := by rfl) (m4 : c4.length = n2 := by rfl) (o1 : c1.all (·.oneCell') = true := by rfl) (o2 : c2.all (·.oneCell') = true := by rfl)
    (a1 : ts[tA]? = some (.pointer (some ⟨b1, 0, none⟩)) := by rfl) (a2 : ts[tB]? = some (.pointer (some ⟨b2, 0, none⟩)) := by rfl) (a3 : ts[tC]? = some (.pointer (some ⟨b3, 0, none⟩)) := by rfl) (a4 : ts[tD]? = some (.pointer (some ⟨b4, 0, none⟩)) := by rfl)
    (q : (tA ≠ s ∧ tA ≠ s2) ∧ (tB ≠ s ∧ tB ≠ s2) ∧ (tC ≠ s ∧ tC ≠ s2) ∧ (tD ≠ s ∧ tD ≠ s2) ∧ s ≠ s2 := by decide) (ls : s < ts.length := by exact Nat.le_of_ble_eq_true rfl) (ls2 : s2 < ts.length := by exact Nat.le_of_ble_eq_true rfl)
    (hQ : ∀ w', Sx bs w0 w' ((l.set k3 (b3, c1)).set k4 (b4, c2)) e → Q .normal ⟨((ts.set s (.agg c1.toArray)).set s2 (.agg c2.toArray)).toArray, []⟩ w') :
    (Code.region id (retOps T1 T2 tA tB tC tD s s2 p) true).wp Tryz.prog Q ⟨ts.toArray, []⟩ w := by
  obtain ⟨⟨qA, qA'⟩, ⟨qB, qB'⟩, ⟨qC, qC'⟩, ⟨qD, qD'⟩, qs⟩ := q
  obtain ⟨k13, k14, k23, k24, k34⟩ := hk
  have i1 := row_size r1
  have i2 := row_size r2
  refine wp_region_ogt (fun ts D ts' w' => ts' = retF ts s s2 (.agg c1.toArray) (.agg c2.toArray) D ∧ Sx bs w0 w' (retB l k3 k4 (b3, c1) (b4, c2) D) e) (by kernel_rfl) (by kernel_rfl) ⟨rfl, hS.drew⟩ ?_ ?_
  · intro i o hi D ts' w' hD hpre hI
    obtain ⟨rfl, hS⟩ := hI
    match i, hi with
    | 0, hi =>
      cases hi
      refine wpOp_step rfl (fun K hK => ?_)
      refine stp_val (d := some s) rfl (yif_load (S := fun q => q = w') rfl T1 (.tmp tA) rfl b1 0 (eval_at ((retF_get qA qA').trans a1)) c1 (fun _ h => h ▸ hS.get k1 ((retB_get k13 k14).trans h1)) n1 r1 (by rw [m1, Nat.zero_add]; exact Nat.ble_self_eq_true n1) c1 (cut_all m1)) rfl ?_
      refine hK _ _ ⟨retF ts s s2 (.agg c1.toArray) (.agg c2.toArray) (fun j => j == 0 || D j), ?_, rfl, hS⟩
      unfold retF Act.put
      simp only [hD]
      cases D 1
      · show Act.mk ((List.toArray ts).setIfInBounds s _) [] = _
        rw [List.setIfInBounds_toArray]
        rfl
      · show Act.mk ((List.toArray ((ts.set s2 _))).setIfInBounds s _) [] = _
        rw [List.setIfInBounds_toArray, List.set_comm _ _ (Ne.symm qs)]
        rfl
    | 1, hi =>
      cases hi
      refine wpOp_step rfl (fun K hK => ?_)
      refine stp_val (d := some s2) rfl (yif_load (S := fun q => q = w') rfl T2 (.tmp tB) rfl b2 0 (eval_at ((retF_get qB qB').trans a2)) c2 (fun _ h => h ▸ hS.get k2 ((retB_get k23 k24).trans h2)) n2 r2 (by rw [m2, Nat.zero_add]; exact Nat.ble_self_eq_true n2) c2 (cut_all m2)) rfl ?_
      refine hK _ _ ⟨retF ts s s2 (.agg c1.toArray) (.agg c2.toArray) (fun j => j == 1 || D j), ?_, rfl, hS⟩
      unfold retF Act.put
      simp only [hD]
      show Act.mk ((List.toArray _).setIfInBounds s2 _) [] = _
      rw [List.setIfInBounds_toArray]
      rfl
    | 2, hi =>
      cases hi
      have g0 : D 0 = true := og_pre hpre (by kernel_rfl)
      refine wpOp_step rfl (fun K hK => ?_)
      refine stx_store hS k3 rfl T1 (.tmp tC) (.tmp s) rfl b3 0 (eval_at ((retF_get qC qC').trans a3)) c3 ((retB_3 hD k34).trans h3) (.agg c1.toArray) (eval_at (retF_s g0 qs ls)) c1 rfl n1 i1 m1 (by rw [m1, m3, Nat.zero_add]; exact Nat.ble_self_eq_true n1) o1 rfl ?_
      intro u hS'
      refine hK _ _ ⟨_, rfl, rfl, ?_⟩
      rw [blit_all (m3.trans m1.symm)] at hS'
      have hE : (retB l k3 k4 (b3, c1) (b4, c2) D).set k3 (b3, c1) = retB l k3 k4 (b3, c1) (b4, c2) (fun j => j == 2 || D j) := by
        unfold retB
        simp only [hD]
        cases D 3 <;> simp [List.set_comm, k34, Ne.symm k34]
      rw [hE] at hS'
      exact hS'
    | 3, hi =>
      cases hi
      have g1 : D 1 = true := og_pre hpre (by kernel_rfl)
      refine wpOp_step rfl (fun K hK => ?_)
      refine stx_store hS k4 rfl T2 (.tmp tD) (.tmp s2) rfl b4 0 (eval_at ((retF_get qD qD').trans a4)) c4 ((retB_4 hD k34).trans h4) (.agg c2.toArray) (eval_at (retF_s2 g1 ls2)) c2 rfl n2 i2 m2 (by rw [m2, m4, Nat.zero_add]; exact Nat.ble_self_eq_true n2) o2 rfl ?_
      intro u hS'
      refine hK _ _ ⟨_, rfl, rfl, ?_⟩
      rw [blit_all (m4.trans m2.symm)] at hS'
      have hE : (retB l k3 k4 (b3, c1) (b4, c2) D).set k4 (b4, c2) = retB l k3 k4 (b3, c1) (b4, c2) (fun j => j == 3 || D j) := by
        unfold retB
        simp [hD]
      rw [hE] at hS'
      exact hS'
    | i + 4, hi => simp [retOps] at hi
  · intro D ts' w' hall hI
    obtain ⟨rfl, hS⟩ := hI
    have g0 : D 0 = true := hall 0 (show 0 < 4 by decide)
    have g1 : D 1 = true := hall 1 (show 1 < 4 by decide)
    have g2 : D 2 = true := hall 2 (show 2 < 4 by decide)
    have g3 : D 3 = true := hall 3 (show 3 < 4 by decide)
    unfold retB at hS
    unfold retF
    rw [g2, g3] at hS
    rw [g0, g1]
    exact hQ _ hS
end
end
end Go.Proofs.YtapgghciieloaaaGreat
