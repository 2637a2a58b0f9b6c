/-
  Texts that the laws stand on, merged (ReadA, ReadB, ReadMath, ReadMath2, ReadMath3, ReadMath4, ReadMath5, ReadMath6, ReadMath7).
-/
import Derived.Test.YtapgghciieloaaaGreatQ10
import Derived.Test.YtapgghciieloaaaGreatQ11
import Derived.Test.YtapgghciieloaaaGreatQ15
import Derived.Test.YtapgghciieloaaaGreatQ16
import Derived.Laws.EntriesVeiled
import Derived.Lib.QuietBelow

namespace Go.Proofs.YtapgghciieloaaaGreat
section
set_option maxRecDepth 100000
open Go.RowKit Go.Sort
set_option linter.unusedVariables false
set_option linter.unusedSimpArgs false
theorem eqRF (f : Fn) (x y : Array Value) (w : World) : (binOp .eql 56 (.func f x y) .nilFunc).run Tryz.prog w = .ok (.bool false) w := by kernel_rfl
theorem eqRN (w : World) : (binOp .eql 56 .nilFunc .nilFunc).run Tryz.prog w = .ok (.bool true) w := by kernel_rfl
theorem egJN12 (args : Array Value) (w : World) : (callFunc 143 args).run Tryz.prog w = .ok (.enter 143 args) w := by go_simp
section
variable {bs : List Nat} {w0 w : World} {l e : List (Nat × List Value)} {B C P L : Nat} {c : Um.Cf} {m : Um.Mm} {sl ky ot ft : Int} {sn s : Nat} {ov pg pj po pl nx : Value}
set_option maxHeartbeats 1000000 in
theorem rSpot_b (hB : BlkAt w P [.int .i64 sl, .int .i64 ky, .int .u64 (sn : Nat), .int .u64 (s : Nat), ov, .int .i64 ot, pg, pj, po, pl, nx, .int .i64 ft]) : Calls Tryz.prog 124 #[.pointer (some ⟨P, 0, none⟩)] w fun r w' => r = .returned (.agg #[.int .i64 8, .int .i64 ky]) ∧ Below w.heap.size w w' := by
  have hS := Sx.read1 hB
  clear hB
  go_enter Tryz.func124, Tryz.ntmps124
  go_wp2_with (first | (first | (refine ybox hS (h := ?_); clear hS; intro _ _ hS) | (refine yall hS (h := ?_); clear hS; intro _ _ hS) | refine yld hS (h := ?_) | (refine yst hS (h := ?_); clear hS; intro _ hS)) | (refine wpx_load1e hS 0 rfl _ _ rfl _ _ rfl _ rfl (one_any2 rfl) _ rfl _ (by simp only [Act.put, List.setIfInBounds_toArray, List.set_cons_zero, List.set_cons_succ]; first | done | exact rfl) ?_))
  have hZ := hS.get 0 rfl
  exact bodyPost_ret (v := (.agg #[.int .i64 8, .int .i64 ky])) (by simp [results, Tryz.results124, go_sem, hZ.cell 0 _ rfl, hZ.cell 1 _ rfl]) rfl ⟨rfl, hS.bel⟩
set_option maxHeartbeats 1000000 in
theorem rDone_f {cs : List Value} (f : Fn) (x y : Array Value) (hB : BlkAt w P cs) (hc : cs[10]? = some (.func f x y)) : Calls Tryz.prog 14 #[.pointer (some ⟨P, 0, none⟩)] w fun r w' => r = .returned (.bool false) ∧ w' = w := by
  have h2 := hB.cell 10 _ hc
  have hE := eqRF
  have hE0 := eqRN
  clear hB hc
  go_enter Tryz.func14, Tryz.ntmps14
  go_wp2
  go_ret
  exact ⟨rfl, rfl⟩
set_option maxHeartbeats 1000000 in
theorem rDone_n {cs : List Value} (hB : BlkAt w P cs) (hc : cs[10]? = some (.nilFunc)) : Calls Tryz.prog 14 #[.pointer (some ⟨P, 0, none⟩)] w fun r w' => r = .returned (.bool true) ∧ w' = w := by
  have h2 := hB.cell 10 _ hc
  have hE := eqRF
  have hE0 := eqRN
  clear hB hc
  go_enter Tryz.func14, Tryz.ntmps14
  go_wp2
  go_ret
  exact ⟨rfl, rfl⟩
set_option maxHeartbeats 1000000 in
theorem rError_f {cs : List Value} (f : Fn) (x y : Array Value) (hB : BlkAt w P cs) (hc : cs[10]? = some (.func f x y)) : Calls Tryz.prog 15 #[.pointer (some ⟨P, 0, none⟩)] w fun r w' => r = .returned (.int .i64 0) ∧ w' = w := by
  have HD := hide (rDone_f f x y hB hc)
  clear hB hc
  go_enter Tryz.func15, Tryz.ntmps15
  go_wp2_with fail
  refine (unhide HD).mono ?_
  rintro r u ⟨rfl, rfl⟩
  clear HD
  go_wp2
  go_ret
  exact ⟨rfl, rfl⟩
set_option maxHeartbeats 1000000 in
theorem rError_n {cs : List Value} (hB : BlkAt w P cs) (hc : cs[10]? = some .nilFunc) (hd : cs[11]? = some (.int .i64 ft)) : Calls Tryz.prog 15 #[.pointer (some ⟨P, 0, none⟩)] w fun r w' => r = .returned (.int .i64 ft) ∧ w' = w := by
  have HD := hide (rDone_n hB hc)
  have h2 := hB.cell 11 _ hd
  clear hB hc hd
  go_enter Tryz.func15, Tryz.ntmps15
  go_wp2_with fail
  refine (unhide HD).mono ?_
  rintro r u ⟨rfl, rfl⟩
  clear HD
  go_wp2
  go_ret
  exact ⟨rfl, rfl⟩
set_option maxHeartbeats 1000000 in
theorem rOne_0 {a : Option Addr} {cap : Nat} (hB : BlkAt w L [.slice a 0 cap]) : Calls Tryz.prog 140 #[.pointer (some ⟨L, 0, none⟩)] w fun r w' => r = .returned (.tuple #[.int .i64 0, .bool false]) ∧ w' = w := by
  have h2 := hB.cell 0 _ rfl
  clear hB
  go_enter Tryz.func140, Tryz.ntmps140
  go_wp2
  go_ret2
  exact ⟨rfl, rfl⟩
set_option maxHeartbeats 2000000 in
theorem rOne_a (hS : Sx bs w0 w l e) (n : Nat) {b off k cap : Nat} {x : Int} (hn : l[n]? = some (L, [.slice (some ⟨b, off, none⟩) (k + 1) cap])) (hcap : k + 1 ≤ cap) (hc1 : cap = 1) (hx : w.cell? ⟨b, off, none⟩ = some (.int .i64 x)) :
    Calls Tryz.prog 140 #[.pointer (some ⟨L, 0, none⟩)] w fun r w' => r = .returned (.tuple #[.int .i64 x, .bool true]) ∧ Sx bs w0 w' (putL l [(n, L, [.slice (some ⟨b, off, none⟩) k (0)])]) e := by
  have HS := hide hS
  have HI := hide hn
  have hL := hS.enter1e n hn
  have HX := hide hx
  clear hS hn hx
  have hS := hL
  clear hL
  have k0 : ¬ (((k + 1 : Nat) : Int) = 0) := by omega
  have k0b : (((k + 1 : Nat) : Int) == 0) = false := by simpa using k0
  have k1 : (1 : Int) ≤ ((k + 1 : Nat) : Int) := by omega
  have k2 : ((k + 1 : Nat) : Int) ≤ ((cap : Nat) : Int) := by omega
  have k3 : (1 : Int) ≤ ((cap : Nat) : Int) := by omega
  have k4 : (0 : Int) < ((k + 1 : Nat) : Int) := by omega
  have h2 := (hS.get 0 rfl).cell 0 _ rfl
  have hx := unhide HX
  go_enter Tryz.func140, Tryz.ntmps140
  go_wp2_with (first | (refine ybox hS (h := ?_); clear hS; intro _ _ hS) | (refine yall hS (h := ?_); clear hS; intro _ _ hS) | refine yld hS (h := ?_) | (refine yst hS (h := ?_); clear hS; intro _ hS))
  go_ret2
  exact ⟨rfl, (unhide HS).back1 n (unhide HI) hS⟩
set_option maxHeartbeats 2000000 in
theorem rOne_b (hS : Sx bs w0 w l e) (n : Nat) {b off k cap : Nat} {x : Int} (hn : l[n]? = some (L, [.slice (some ⟨b, off, none⟩) (k + 1) cap])) (hcap : k + 1 ≤ cap) (hc1 : ¬ cap = 1) (hx : w.cell? ⟨b, off, none⟩ = some (.int .i64 x)) :
    Calls Tryz.prog 140 #[.pointer (some ⟨L, 0, none⟩)] w fun r w' => r = .returned (.tuple #[.int .i64 x, .bool true]) ∧ Sx bs w0 w' (putL l [(n, L, [.slice (some ⟨b, off + 1, none⟩) k (cap - 1)])]) e := by
  have HS := hide hS
  have HI := hide hn
  have hL := hS.enter1e n hn
  have HX := hide hx
  clear hS hn hx
  have hS := hL
  clear hL
  have k0 : ¬ (((k + 1 : Nat) : Int) = 0) := by omega
  have k0b : (((k + 1 : Nat) : Int) == 0) = false := by simpa using k0
  have k1 : (1 : Int) ≤ ((k + 1 : Nat) : Int) := by omega
  have k2 : ((k + 1 : Nat) : Int) ≤ ((cap : Nat) : Int) := by omega
  have k3 : (1 : Int) ≤ ((cap : Nat) : Int) := by omega
  have k4 : (0 : Int) < ((k + 1 : Nat) : Int) := by omega
  have h2 := (hS.get 0 rfl).cell 0 _ rfl
  have hx := unhide HX
  go_enter Tryz.func140, Tryz.ntmps140
  go_wp2_with (first | (refine ybox hS (h := ?_); clear hS; intro _ _ hS) | (refine yall hS (h := ?_); clear hS; intro _ _ hS) | refine yld hS (h := ?_) | (refine yst hS (h := ?_); clear hS; intro _ hS))
  go_ret2
  exact ⟨rfl, (unhide HS).back1 n (unhide HI) hS⟩
set_option maxHeartbeats 1000000 in
theorem rOneByOne_x (hS : Sx bs w0 w l e) (a : Option Addr) (k cap : Nat) : Calls Tryz.prog 134 #[.slice a k cap] w fun r w' => ∃ L, r = .returned (.func (.func 140) #[] #[.pointer (some ⟨L, 0, none⟩)]) ∧ Sx bs w0 w' (l ++ [(L, [.slice a k cap])]) e := by
  go_enter Tryz.func134, Tryz.ntmps134
  go_wp2_with fail
  go_ret
  exact ⟨_, rfl, hS.alloc #[.slice a k cap] _⟩
set_option maxHeartbeats 2000000 in
theorem rGoOut_x (hS : Sx bs w0 w l e) (k : Nat) (hk : l[k]? = some (P, [.int .i64 sl, .int .i64 ky, .int .u64 (sn : Nat), .int .u64 (s : Nat), ov, .int .i64 ot, pg, pj, po, pl, nx, .int .i64 ft])) (st fe : Int) (m : Um.Mm) :
    Calls Tryz.prog 142 #[.pointer (some ⟨P, 0, none⟩), .int .i64 st, .int .i64 fe] w fun r w' => ∃ V, r = .returned (.tuple #[]) ∧ Sx bs w0 w' (putL l [(k, P, [.int .i64 sl, .int .i64 ky, .int .u64 (sn : Nat), .int .u64 (s : Nat), ov, .int .i64 ot, pg, pj, po, .pointer (some ⟨V, 0, none⟩), .func (.func 147) #[.pointer (some ⟨P, 0, none⟩)] #[], .int .i64 fe])] ++ [(V, leaL V sl st (Um.lnew m))]) e := by
  have HS := hide hS
  have HI := hide hk
  have hL := hS.enter1e k hk
  clear hS hk
  have hS := hL
  clear hL
  go_enter Tryz.func142, Tryz.ntmps142
  go_wp2_with (first | (refine ybox hS (h := ?_); clear hS; intro _ _ hS) | (refine yall hS (h := ?_); clear hS; intro _ _ hS) | refine yld hS (h := ?_) | (refine yst hS (h := ?_); clear hS; intro _ hS))
  refine (lnew_any hS sl st m).mono ?_
  rintro r u ⟨V, rfl, hSn⟩
  clear hS
  have hS := hSn
  clear hSn
  dsimp only [putL, List.set, List.cons_append, List.nil_append] at hS
  go_wp2_with (first | (refine ybox hS (h := ?_); clear hS; intro _ _ hS) | (refine yall hS (h := ?_); clear hS; intro _ _ hS) | refine yld hS (h := ?_) | (refine yst hS (h := ?_); clear hS; intro _ hS))
  first | go_end0 | ((try simp only [Exit.inBlock, Exit.then]); refine bodyPost_ret (results_none rfl _ _ _) rfl ?_)
  exact ⟨V, rfl, (unhide HS).back1r k (unhide HI) hS⟩
set_option maxHeartbeats 2000000 in
theorem rAnother_0 (hS : Sx bs w0 w l e) (k n : Nat) {a : Option Addr} {cap : Nat} (hk : l[k]? = some (P, [.int .i64 sl, .int .i64 ky, .int .u64 (sn : Nat), .int .u64 (s : Nat), .func (.func 140) #[] #[.pointer (some ⟨L, 0, none⟩)], .int .i64 ot, pg, pj, po, pl, nx, .int .i64 ft])) (hn : l[n]? = some (L, [.slice a 0 cap])) (hkn : k ≠ n) (m : Um.Mm) :
    Calls Tryz.prog 136 #[.pointer (some ⟨P, 0, none⟩)] w fun r w' => ∃ V, r = .returned (.tuple #[]) ∧ Sx bs w0 w' (putL l [(k, P, [.int .i64 sl, .int .i64 ky, .int .u64 (sn : Nat), .int .u64 (s : Nat), .func (.func 140) #[] #[.pointer (some ⟨L, 0, none⟩)], .int .i64 ot, pg, pj, po, .pointer (some ⟨V, 0, none⟩), .func (.func 147) #[.pointer (some ⟨P, 0, none⟩)] #[], .int .i64 0]), (n, L, [.slice a 0 cap])] ++ [(V, leaL V sl (-1) (Um.lnew m))]) e := by
  have HS := hide hS
  have HI := hide (And.intro hk hn)
  have hL := hS.enter2e k n hk hn hkn
  clear hS hk hn
  have hS := hL
  clear hL
  go_enter Tryz.func136, Tryz.ntmps136
  go_wp2_with (first | (refine ybox hS (h := ?_); clear hS; intro _ _ hS) | (refine yall hS (h := ?_); clear hS; intro _ _ hS) | refine yld hS (h := ?_) | (refine yst hS (h := ?_); clear hS; intro _ hS))
  refine (rOne_0 (hS.get 1 rfl)).mono ?_
  rintro r u ⟨rfl, rfl⟩
  go_wp2_with (first | (refine ybox hS (h := ?_); clear hS; intro _ _ hS) | (refine yall hS (h := ?_); clear hS; intro _ _ hS) | refine yld hS (h := ?_) | (refine yst hS (h := ?_); clear hS; intro _ hS))
  refine (rGoOut_x hS 0 rfl (-1) 0 m).mono ?_
  rintro r u ⟨V, rfl, hSn⟩
  clear hS
  have hS := hSn
  clear hSn
  dsimp only [putL, List.set, List.cons_append, List.nil_append] at hS
  go_wp2_with fail
  first | go_end0 | ((try simp only [Exit.inBlock, Exit.then]); refine bodyPost_ret (results_none rfl _ _ _) rfl ?_)
  exact ⟨V, rfl, (unhide HS).back2r k n (unhide HI).1 (unhide HI).2 hS⟩
set_option maxHeartbeats 4000000 in
theorem rAnother_c (hS : Sx bs w0 w l e) (k n : Nat) {v v' : Value} {x : Int} (hk : l[k]? = some (P, [.int .i64 sl, .int .i64 ky, .int .u64 (sn : Nat), .int .u64 (s : Nat), .func (.func 140) #[] #[.pointer (some ⟨L, 0, none⟩)], .int .i64 ot, pg, pj, po, pl, nx, .int .i64 ft])) (hn : l[n]? = some (L, [v])) (hkn : k ≠ n) (m : Um.Mm)
    (hO : ∀ (u : World), Below w.heap.size w u → ∀ (bs1 : List Nat) (l1 : List (Nat × List Value)), Sx bs1 w u l1 e → l1[1]? = some (L, [v]) → Calls Tryz.prog 140 #[.pointer (some ⟨L, 0, none⟩)] u fun r w' => r = .returned (.tuple #[.int .i64 x, .bool true]) ∧ Sx bs1 w w' (putL l1 [(1, L, [v'])]) e) :
    Calls Tryz.prog 136 #[.pointer (some ⟨P, 0, none⟩)] w fun r w' => ∃ J, r = .returned (.tuple #[]) ∧ Sx bs w0 w' (putL l [(k, P, [.int .i64 sl, .int .i64 ky, .int .u64 (sn : Nat), .int .u64 (s : Nat), .func (.func 140) #[] #[.pointer (some ⟨L, 0, none⟩)], .int .i64 x, pg, .pointer (some ⟨J, 0, none⟩), po, pl, .func (.func 144) #[.pointer (some ⟨P, 0, none⟩)] #[], .int .i64 ft]), (n, L, [v'])] ++ [(J, jnL x 1 sl sn (Um.jnew m))]) e := by
  have HO := hide hO
  clear hO
  have HS := hide hS
  have HI := hide (And.intro hk hn)
  have hL := hS.enter2e k n hk hn hkn
  clear hS hk hn
  have hS := hL
  clear hL
  go_enter Tryz.func136, Tryz.ntmps136
  go_wp2_with (first | (refine ybox hS (h := ?_); clear hS; intro _ _ hS) | (refine yall hS (h := ?_); clear hS; intro _ _ hS) | refine yld hS (h := ?_) | (refine yst hS (h := ?_); clear hS; intro _ hS))
  refine ((unhide HO) _ (Below.refl _ _) _ _ hS rfl).mono ?_
  rintro r u ⟨rfl, hSn⟩
  clear hS
  have hS := hSn
  clear hSn
  dsimp only [putL, List.set, List.cons_append, List.nil_append] at hS
  go_wp2_with (first | (refine ybox hS (h := ?_); clear hS; intro _ _ hS) | (refine yall hS (h := ?_); clear hS; intro _ _ hS) | refine yld hS (h := ?_) | (refine yst hS (h := ?_); clear hS; intro _ hS))
  clear HO
  refine wp_region_ogt (fun ts D ts' w' => ∃ (J : Nat), ts' = putS ts [(20, cond (D 0) (.pointer (some ⟨P, 0, none⟩)) undef), (21, cond (D 1) (.int .i64 x) undef), (22, cond (D 2) (.pointer (some ⟨P, 0, none⟩)) undef), (23, cond (D 3) (.pointer (some ⟨P, 0, none⟩)) undef), (24, cond (D 4) (.pointer (some ⟨P, 0, none⟩)) undef), (25, cond (D 5) (.int .i64 sl) undef), (26, cond (D 6) (.pointer (some ⟨P, 0, none⟩)) undef), (27, cond (D 7) (.pointer (some ⟨P, 0, none⟩)) undef), (28, cond (D 8) (.pointer (some ⟨P, 2, none⟩)) undef), (29, cond (D 9) (.int .u64 (sn : Nat)) undef), (30, cond (D 10) (.pointer (some ⟨J, 0, none⟩)) undef), (31, cond (D 11) (.pointer (some ⟨P, 0, none⟩)) undef), (32, cond (D 12) (.pointer (some ⟨P, 7, none⟩)) undef)] ∧ (D 13 = true → D 10 = true) ∧ Sx [P, L] w w' ([(P, cond (D 13) [.int .i64 sl, .int .i64 ky, .int .u64 (sn : Nat), .int .u64 (s : Nat), .func (.func 140) #[] #[.pointer (some ⟨L, 0, none⟩)], .int .i64 x, pg, .pointer (some ⟨J, 0, none⟩), po, pl, nx, .int .i64 ft] [.int .i64 sl, .int .i64 ky, .int .u64 (sn : Nat), .int .u64 (s : Nat), .func (.func 140) #[] #[.pointer (some ⟨L, 0, none⟩)], .int .i64 x, pg, pj, po, pl, nx, .int .i64 ft]), (L, [v'])] ++ cond (D 10) [(J, jnL x 1 sl sn (Um.jnew m))] []) e) (by kernel_rfl) (by kernel_rfl) ?start ?steps ?ends
  case start => exact ⟨0, rfl, (fun h => by cases h), hS.drew⟩
  case steps =>
    intro i o hi D ts' w' hD hpre hI
    obtain ⟨J, rfl, hz, hS⟩ := hI
    dsimp only [putS, List.set]
    match i, hi with
    | 0, hi =>
      cases hi
      refine wpOp_step rfl (fun K hK => ?_)
      refine stp_val rfl (yif_by rfl _ (fun w => by go_simp; first | done | exact rfl)) rfl ?_
      exact hK _ _ ⟨_, rfl, J, rfl, hz, hS⟩
    | 1, hi =>
      cases hi
      refine wpOp_step rfl (fun K hK => ?_)
      refine stp_val rfl (yif_by rfl _ (fun w => by go_simp; first | done | exact rfl)) rfl ?_
      exact hK _ _ ⟨_, rfl, J, rfl, hz, hS⟩
    | 2, hi =>
      cases hi
      refine wpOp_step rfl (fun K hK => ?_)
      refine stp_val rfl (yif_by rfl _ (fun w => by go_simp; first | done | exact rfl)) rfl ?_
      exact hK _ _ ⟨_, rfl, J, rfl, hz, hS⟩
    | 3, hi =>
      cases hi
      have d2 : D 2 = true := og_pre hpre (by kernel_rfl)
      refine wpOp_step rfl (fun K hK => ?_)
      refine stp_val rfl (yif_by rfl _ (fun w => by simp only [d2, cond_true]; go_simp; first | done | exact rfl)) rfl ?_
      exact hK _ _ ⟨_, rfl, J, rfl, hz, hS⟩
    | 4, hi =>
      cases hi
      have d3 : D 3 = true := og_pre hpre (by kernel_rfl)
      refine wpOp_step rfl (fun K hK => ?_)
      refine stp_val rfl (yif_by rfl _ (fun w => by simp only [d3, cond_true]; go_simp; first | done | exact rfl)) rfl ?_
      exact hK _ _ ⟨_, rfl, J, rfl, hz, hS⟩
    | 5, hi =>
      cases hi
      have d4 : D 4 = true := og_pre hpre (by kernel_rfl)
      refine wpOp_step rfl (fun K hK => ?_)
      refine stp_val rfl (by refine yif_load1 (S := fun q => q = w') rfl _ (.tmp 24) rfl P 0 ?_ _ (fun _ h => h ▸ hS.get 0 rfl) (one_any2 rfl) (.int .i64 sl) (by cases D 13 <;> rfl); exact cond_at d4 rfl) rfl ?_
      exact hK _ _ ⟨_, rfl, J, rfl, hz, hS⟩
    | 6, hi =>
      cases hi
      refine wpOp_step rfl (fun K hK => ?_)
      refine stp_val rfl (yif_by rfl _ (fun w => by go_simp; first | done | exact rfl)) rfl ?_
      exact hK _ _ ⟨_, rfl, J, rfl, hz, hS⟩
    | 7, hi =>
      cases hi
      have d6 : D 6 = true := og_pre hpre (by kernel_rfl)
      refine wpOp_step rfl (fun K hK => ?_)
      refine stp_val rfl (yif_by rfl _ (fun w => by simp only [d6, cond_true]; go_simp; first | done | exact rfl)) rfl ?_
      exact hK _ _ ⟨_, rfl, J, rfl, hz, hS⟩
    | 8, hi =>
      cases hi
      have d7 : D 7 = true := og_pre hpre (by kernel_rfl)
      refine wpOp_step rfl (fun K hK => ?_)
      refine stp_val rfl (yif_by rfl _ (fun w => by simp only [d7, cond_true]; go_simp; first | done | exact rfl)) rfl ?_
      exact hK _ _ ⟨_, rfl, J, rfl, hz, hS⟩
    | 9, hi =>
      cases hi
      have d8 : D 8 = true := og_pre hpre (by kernel_rfl)
      refine wpOp_step rfl (fun K hK => ?_)
      refine stp_val rfl (by refine yif_load1 (S := fun q => q = w') rfl _ (.tmp 28) rfl P 2 ?_ _ (fun _ h => h ▸ hS.get 0 rfl) (one_any2 rfl) (.int .u64 (sn : Nat)) (by cases D 13 <;> rfl); exact cond_at d8 rfl) rfl ?_
      exact hK _ _ ⟨_, rfl, J, rfl, hz, hS⟩
    | 10, hi =>
      cases hi
      have d1 : D 1 = true := og_pre hpre (by kernel_rfl)
      have d5 : D 5 = true := og_pre hpre (by kernel_rfl)
      have d9 : D 9 = true := og_pre hpre (by kernel_rfl)
      refine wpOp_step rfl (fun K hK => ?_)
      refine stp_call rfl _ _ _ rfl egJN12 _ (list4_eq (cond_at d1 rfl) rfl (cond_at d5 rfl) (cond_at d9 rfl)) _ rfl ?_
      have z0 := og_not hz hD
      simp only [z0, hD, cond_false, List.append_nil] at hS
      refine (jnew_any hS x 1 sl sn m).mono ?_
      rintro r u ⟨J, rfl, hS2⟩
      refine ⟨_, rfl, hK _ _ ⟨_, rfl, J, rfl, (fun _ => rfl), ?_⟩⟩
      show Sx _ _ _ ([(P, cond (D 13) _ _), (L, _)] ++ [(J, _)]) _
      rw [z0]
      exact hS2
    | 11, hi =>
      cases hi
      have d0 : D 0 = true := og_pre hpre (by kernel_rfl)
      refine wpOp_step rfl (fun K hK => ?_)
      refine stp_val rfl (yif_by rfl _ (fun w => by simp only [d0, cond_true]; go_simp; first | done | exact rfl)) rfl ?_
      exact hK _ _ ⟨_, rfl, J, rfl, hz, hS⟩
    | 12, hi =>
      cases hi
      have d11 : D 11 = true := og_pre hpre (by kernel_rfl)
      refine wpOp_step rfl (fun K hK => ?_)
      refine stp_val rfl (yif_by rfl _ (fun w => by simp only [d11, cond_true]; go_simp; first | done | exact rfl)) rfl ?_
      exact hK _ _ ⟨_, rfl, J, rfl, hz, hS⟩
    | 13, hi =>
      cases hi
      have d10 : D 10 = true := og_pre hpre (by kernel_rfl)
      have d12 : D 12 = true := og_pre hpre (by kernel_rfl)
      refine wpOp_step rfl (fun K hK => ?_)
      simp only [hD, cond_false] at hS
      refine stx_store hS 0 rfl _ _ _ rfl _ _ (cond_at d12 rfl) _ rfl _ (cond_at d10 rfl) _ rfl _ (siz_any2 rfl) (by exact rfl) (by exact rfl) (by exact rfl) rfl ?_
      intro u hS'
      exact hK _ _ ⟨_, rfl, J, rfl, (fun _ => d10), hS'⟩
    | i + 14, hi => simp at hi
  case ends =>
    intro D ts' w' hall hI
    obtain ⟨J, rfl, hz, hS⟩ := hI
    have d0 : D 0 = true := hall 0 (by decide)
    have d1 : D 1 = true := hall 1 (by decide)
    have d2 : D 2 = true := hall 2 (by decide)
    have d3 : D 3 = true := hall 3 (by decide)
    have d4 : D 4 = true := hall 4 (by decide)
    have d5 : D 5 = true := hall 5 (by decide)
    have d6 : D 6 = true := hall 6 (by decide)
    have d7 : D 7 = true := hall 7 (by decide)
    have d8 : D 8 = true := hall 8 (by decide)
    have d9 : D 9 = true := hall 9 (by decide)
    have d10 : D 10 = true := hall 10 (by decide)
    have d11 : D 11 = true := hall 11 (by decide)
    have d12 : D 12 = true := hall 12 (by decide)
    have d13 : D 13 = true := hall 13 (by decide)
    simp only [d10, d13, cond_true] at hS
    dsimp only [putS, List.set]
    simp only [d0, d1, d2, d3, d4, d5, d6, d7, d8, d9, d10, d11, d12, cond_true]
    clear hall d0 d1 d2 d3 d4 d5 d6 d7 d8 d9 d10 d11 d12 d13 hz
    go_wp2_with (first | (refine ybox hS (h := ?_); clear hS; intro _ _ hS) | (refine yall hS (h := ?_); clear hS; intro _ _ hS) | refine yld hS (h := ?_) | (refine yst hS (h := ?_); clear hS; intro _ hS))
    first | go_end0 | ((try simp only [Exit.inBlock, Exit.then]); refine bodyPost_ret (results_none rfl _ _ _) rfl ?_)
    exact ⟨J, rfl, (unhide HS).back2r k n (unhide HI).1 (unhide HI).2 hS⟩
end
end
section
set_option maxRecDepth 100000
open Go.RowKit Go.Sort
set_option linter.unusedVariables false
set_option linter.unusedSimpArgs false
def AnP (P L : Nat) (sl ky : Int) (sn s : Nat) (m : Um.Mm) (e : List (Nat × List Value)) (xs : List Int) (cs ls : List Value) (X : Nat) (xc : List Value) : Prop :=
  (xs = [] ∧ (∃ ot pg pj po, cs = [.int .i64 sl, .int .i64 ky, .int .u64 (sn : Nat), .int .u64 (s : Nat), .func (.func 140) #[] #[.pointer (some ⟨L, 0, none⟩)], .int .i64 ot, pg, pj, po, .pointer (some ⟨X, 0, none⟩), .func (.func 147) #[.pointer (some ⟨P, 0, none⟩)] #[], .int .i64 0]) ∧ xc = leaL X sl (-1) (Um.lnew m)) ∨
  (∃ (x : Int) (r : List Int) (a : Option Addr) (c' : Nat), xs = x :: r ∧ (∃ pg po pl ft, cs = [.int .i64 sl, .int .i64 ky, .int .u64 (sn : Nat), .int .u64 (s : Nat), .func (.func 140) #[] #[.pointer (some ⟨L, 0, none⟩)], .int .i64 x, pg, .pointer (some ⟨X, 0, none⟩), po, pl, .func (.func 144) #[.pointer (some ⟨P, 0, none⟩)] #[], .int .i64 ft]) ∧ xc = jnL x 1 sl sn (Um.jnew m) ∧ ls = [.slice a r.length c'] ∧ ∀ W', (∀ p ∈ e, BlkAt W' p.1 p.2) → IsRow W' (.slice a r.length c') r)
theorem egOt12 (args : Array Value) (w : World) : (callFunc 135 args).run Tryz.prog w = .ok (.enter 135 args) w := by go_simp
theorem egOb12 (args : Array Value) (w : World) : (callFunc 134 args).run Tryz.prog w = .ok (.enter 134 args) w := by go_simp
theorem egNo12 (args : Array Value) (w : World) : (callFunc 151 args).run Tryz.prog w = .ok (.enter 151 args) w := by go_simp
section
variable {bs : List Nat} {w0 w : World} {l e : List (Nat × List Value)} {B C P L : Nat} {c : Um.Cf} {m : Um.Mm} {sl ky ot ft : Int} {sn s : Nat} {ov pg pj po pl nx : Value}
theorem placesL3 {l : List (Nat × List Value)} {b1 b2 b3 : Nat} {c1 c2 c3 d1 d2 d3 : List Value} {i j k : Nat} (hi : l[i]? = some (b1, c1)) (hj : l[j]? = some (b2, c2)) (hk : l[k]? = some (b3, c3)) : placesL l [(i, b1, d1), (j, b2, d2), (k, b3, d3)] := by
  intro u hu
  rcases (by simpa using hu : u = (i, b1, d1) ∨ u = (j, b2, d2) ∨ u = (k, b3, d3)) with rfl | rfl | rfl
  · exact ⟨_, hi⟩
  · exact ⟨_, hj⟩
  · exact ⟨_, hk⟩
theorem rAnother_any (hS : Sx bs w0 w l e) (k n : Nat) {a : Option Addr} {nn cap : Nat} {xs : List Int} (hk : l[k]? = some (P, [.int .i64 sl, .int .i64 ky, .int .u64 (sn : Nat), .int .u64 (s : Nat), .func (.func 140) #[] #[.pointer (some ⟨L, 0, none⟩)], .int .i64 ot, pg, pj, po, pl, nx, .int .i64 ft])) (hn : l[n]? = some (L, [.slice a nn cap])) (hkn : k ≠ n) (m : Um.Mm) (hI : ∀ W', (∀ p ∈ e, BlkAt W' p.1 p.2) → IsRow W' (.slice a nn cap) xs) :
    Calls Tryz.prog 136 #[.pointer (some ⟨P, 0, none⟩)] w fun r w' => ∃ cs ls X xc, r = .returned (.tuple #[]) ∧ AnP P L sl ky sn s m e xs cs ls X xc ∧ Sx bs w0 w' (putL l [(k, P, cs), (n, L, ls)] ++ [(X, xc)]) e := by
  have h0 := hI w hS.eb
  match xs with
  | [] =>
    obtain rfl : nn = 0 := by
      rcases h0 with ⟨h, _⟩ | ⟨_, _, _, h, _⟩
      · simp only [Value.slice.injEq] at h
        exact h.2.1
      · simp only [Value.slice.injEq, List.length_nil] at h
        exact h.2.1
    refine (rAnother_0 hS k n hk hn hkn m).mono ?_
    rintro r w' ⟨V, rfl, hSn⟩
    exact ⟨_, _, V, _, rfl, .inl ⟨rfl, ⟨_, _, _, _, rfl⟩, rfl⟩, hSn⟩
  | x :: xs =>
    obtain ⟨b, off, rfl, rfl, hcap, hmax, hlt, hc⟩ := isRow_cut h0
    by_cases hc1 : cap = 1
    · refine (rAnother_c hS k n (x := x) (v' := .slice (some ⟨b, off, none⟩) xs.length 0) hk hn hkn m (fun u hb bs1 l1 hS1 h1 => ?_)).mono ?_
      · have h2 := hI u hS1.eb
        obtain ⟨b', off', e1, _, _, _, _, hc2⟩ := isRow_cut h2
        simp only [Option.some.injEq, Addr.mk.injEq] at e1
        obtain ⟨rfl, rfl, _⟩ := e1
        exact rOne_a hS1 1 h1 hcap hc1 hc2
      · rintro r w' ⟨J, rfl, hSn⟩
        exact ⟨_, _, J, _, rfl, .inr ⟨x, xs, _, _, rfl, ⟨_, _, _, _, rfl⟩, rfl, rfl, fun W' hW => (isRow_end (hI W' hW) hc1).2⟩, hSn⟩
    · refine (rAnother_c hS k n (x := x) (v' := .slice (some ⟨b, off + 1, none⟩) xs.length (cap - 1)) hk hn hkn m (fun u hb bs1 l1 hS1 h1 => ?_)).mono ?_
      · have h2 := hI u hS1.eb
        obtain ⟨b', off', e1, _, _, _, _, hc2⟩ := isRow_cut h2
        simp only [Option.some.injEq, Addr.mk.injEq] at e1
        obtain ⟨rfl, rfl, _⟩ := e1
        exact rOne_b hS1 1 h1 hcap hc1 hc2
      · rintro r w' ⟨J, rfl, hSn⟩
        exact ⟨_, _, J, _, rfl, .inr ⟨x, xs, _, _, rfl, ⟨_, _, _, _, rfl⟩, rfl, rfl, fun W' hW => isRow_rest (hI W' hW)⟩, hSn⟩
set_option maxHeartbeats 4000000 in
theorem rFound_x (hS : Sx bs w0 w l e) (k : Nat) (hk : l[k]? = some (P, [.int .i64 sl, .int .i64 ky, .int .u64 (sn : Nat), .int .u64 (s : Nat), ov, .int .i64 ot, pg, pj, po, pl, nx, .int .i64 ft])) (hs : Um.Word s) (m : Um.Mm) :
    Calls Tryz.prog 126 #[.pointer (some ⟨P, 0, none⟩)] w fun r w' => ∃ L cs ls X xc sb, r = .returned (.tuple #[]) ∧ AnP P L sl ky sn s m (e ++ sb) (Um.othersN s 1 sl) cs ls X xc ∧ (∀ p ∈ sb, w.heap.size ≤ p.1) ∧ Sx bs w0 w' (putL l [(k, P, cs)] ++ [(L, ls), (X, xc)]) (e ++ sb) := by
  have HW := hide hs
  clear hs
  have HS := hide hS
  have HI := hide hk
  have hL := hS.enter1e k hk
  clear hS hk
  have hS := hL
  clear hL
  go_enter Tryz.func126, Tryz.ntmps126
  go_wp2_with fail
  refine wp_region_ogt (fun ts D ts' w' => ∃ (a : Option Addr) (nn : Nat) (cap : Nat) (sb : List (Nat × List Value)) (L : Nat), ts' = putS ts [(2, cond (D 0) (.pointer (some ⟨P, 0, none⟩)) undef), (3, cond (D 1) (.pointer (some ⟨P, 0, none⟩)) undef), (4, cond (D 2) (.pointer (some ⟨P, 0, none⟩)) undef), (5, cond (D 3) (.pointer (some ⟨P, 3, none⟩)) undef), (6, cond (D 4) (.int .u64 (s : Nat)) undef), (7, cond (D 5) (.pointer (some ⟨P, 0, none⟩)) undef), (8, cond (D 6) (.pointer (some ⟨P, 0, none⟩)) undef), (9, cond (D 7) (.pointer (some ⟨P, 0, none⟩)) undef), (10, cond (D 8) (.int .i64 sl) undef), (11, cond (D 9) (.slice a nn cap) undef), (12, cond (D 10) (.func (.func 140) #[] #[.pointer (some ⟨L, 0, none⟩)]) undef), (13, cond (D 11) (.pointer (some ⟨P, 0, none⟩)) undef), (14, cond (D 12) (.pointer (some ⟨P, 4, none⟩)) undef)] ∧ (D 13 = true → D 10 = true) ∧ (D 10 = true → D 9 = true) ∧ (D 9 = true → ((∀ p ∈ sb, w.heap.size ≤ p.1) ∧ ∀ W', (∀ p ∈ sb, BlkAt W' p.1 p.2) → IsRow W' (.slice a nn cap) (Um.othersN s 1 sl))) ∧ Sx [P] w w' ([(P, cond (D 13) [.int .i64 sl, .int .i64 ky, .int .u64 (sn : Nat), .int .u64 (s : Nat), .func (.func 140) #[] #[.pointer (some ⟨L, 0, none⟩)], .int .i64 ot, pg, pj, po, pl, nx, .int .i64 ft] [.int .i64 sl, .int .i64 ky, .int .u64 (sn : Nat), .int .u64 (s : Nat), ov, .int .i64 ot, pg, pj, po, pl, nx, .int .i64 ft])] ++ cond (D 10) [(L, [.slice a nn cap])] []) (cond (D 9) (e ++ sb) e)) (by kernel_rfl) (by kernel_rfl) ?start ?steps ?ends
  case start => exact ⟨none, 0, 0, [], 0, rfl, (fun h => by cases h), (fun h => by cases h), (fun h => by cases h), hS.drew⟩
  case steps =>
    intro i o hi D ts' w' hD hpre hI
    obtain ⟨a, nn, cap, sb, L, rfl, hz, hy, hI, hS⟩ := hI
    dsimp only [putS, List.set]
    match i, hi with
    | 0, hi =>
      cases hi
      refine wpOp_step rfl (fun K hK => ?_)
      refine stp_val rfl (yif_by rfl _ (fun w => by go_simp; first | done | exact rfl)) rfl ?_
      exact hK _ _ ⟨_, rfl, a, nn, cap, sb, L, rfl, hz, hy, hI, hS⟩
    | 1, hi =>
      cases hi
      refine wpOp_step rfl (fun K hK => ?_)
      refine stp_val rfl (yif_by rfl _ (fun w => by go_simp; first | done | exact rfl)) rfl ?_
      exact hK _ _ ⟨_, rfl, a, nn, cap, sb, L, rfl, hz, hy, hI, hS⟩
    | 2, hi =>
      cases hi
      have d1 : D 1 = true := og_pre hpre (by kernel_rfl)
      refine wpOp_step rfl (fun K hK => ?_)
      refine stp_val rfl (yif_by rfl _ (fun w => by simp only [d1, cond_true]; go_simp; first | done | exact rfl)) rfl ?_
      exact hK _ _ ⟨_, rfl, a, nn, cap, sb, L, rfl, hz, hy, hI, hS⟩
    | 3, hi =>
      cases hi
      have d2 : D 2 = true := og_pre hpre (by kernel_rfl)
      refine wpOp_step rfl (fun K hK => ?_)
      refine stp_val rfl (yif_by rfl _ (fun w => by simp only [d2, cond_true]; go_simp; first | done | exact rfl)) rfl ?_
      exact hK _ _ ⟨_, rfl, a, nn, cap, sb, L, rfl, hz, hy, hI, hS⟩
    | 4, hi =>
      cases hi
      have d3 : D 3 = true := og_pre hpre (by kernel_rfl)
      refine wpOp_step rfl (fun K hK => ?_)
      refine stp_val rfl (by refine yif_load1 (S := fun q => q = w') rfl _ (.tmp 5) rfl P 3 ?_ _ (fun _ h => h ▸ hS.get 0 rfl) (one_any2 rfl) (.int .u64 (s : Nat)) (by cases D 13 <;> rfl); exact cond_at d3 rfl) rfl ?_
      exact hK _ _ ⟨_, rfl, a, nn, cap, sb, L, rfl, hz, hy, hI, hS⟩
    | 5, hi =>
      cases hi
      refine wpOp_step rfl (fun K hK => ?_)
      refine stp_val rfl (yif_by rfl _ (fun w => by go_simp; first | done | exact rfl)) rfl ?_
      exact hK _ _ ⟨_, rfl, a, nn, cap, sb, L, rfl, hz, hy, hI, hS⟩
    | 6, hi =>
      cases hi
      have d5 : D 5 = true := og_pre hpre (by kernel_rfl)
      refine wpOp_step rfl (fun K hK => ?_)
      refine stp_val rfl (yif_by rfl _ (fun w => by simp only [d5, cond_true]; go_simp; first | done | exact rfl)) rfl ?_
      exact hK _ _ ⟨_, rfl, a, nn, cap, sb, L, rfl, hz, hy, hI, hS⟩
    | 7, hi =>
      cases hi
      have d6 : D 6 = true := og_pre hpre (by kernel_rfl)
      refine wpOp_step rfl (fun K hK => ?_)
      refine stp_val rfl (yif_by rfl _ (fun w => by simp only [d6, cond_true]; go_simp; first | done | exact rfl)) rfl ?_
      exact hK _ _ ⟨_, rfl, a, nn, cap, sb, L, rfl, hz, hy, hI, hS⟩
    | 8, hi =>
      cases hi
      have d7 : D 7 = true := og_pre hpre (by kernel_rfl)
      refine wpOp_step rfl (fun K hK => ?_)
      refine stp_val rfl (by refine yif_load1 (S := fun q => q = w') rfl _ (.tmp 9) rfl P 0 ?_ _ (fun _ h => h ▸ hS.get 0 rfl) (one_any2 rfl) (.int .i64 sl) (by cases D 13 <;> rfl); exact cond_at d7 rfl) rfl ?_
      exact hK _ _ ⟨_, rfl, a, nn, cap, sb, L, rfl, hz, hy, hI, hS⟩
    | 9, hi =>
      cases hi
      have d4 : D 4 = true := og_pre hpre (by kernel_rfl)
      have d8 : D 8 = true := og_pre hpre (by kernel_rfl)
      refine wpOp_step rfl (fun K hK => ?_)
      refine stp_call rfl _ _ _ rfl egOt12 _ (list3_eq (cond_at d4 rfl) rfl (cond_at d8 rfl)) _ rfl ?_
      have y0 := og_not hy hD
      have z0 := og_not hz y0
      simp only [z0, y0, hD, cond_false, List.append_nil] at hS
      have hsz := hS.size
      refine (mOthers_any s 1 sl w' (unhide HW)).mono ?_
      rintro r u ⟨v, rfl, hq, hb⟩
      obtain ⟨a2, n2, cap2, sb2, rfl, hsb, hI2⟩ := row_blk12 hq
      have hS2 := hS.addEs12 hb hsb
      refine ⟨_, rfl, hK _ _ ⟨_, rfl, a2, n2, cap2, sb2, L, rfl, hz, (fun _ => rfl), (fun _ => ⟨fun p hp => Nat.le_trans hsz (hsb p hp).2, hI2⟩), ?_⟩⟩
      show Sx _ _ _ ([(P, cond (D 13) _ _)] ++ cond (D 10) [(L, _)] []) (e ++ sb2)
      rw [z0, y0]
      exact hS2
    | 10, hi =>
      cases hi
      have d9 : D 9 = true := og_pre hpre (by kernel_rfl)
      refine wpOp_step rfl (fun K hK => ?_)
      refine stp_call rfl _ _ _ rfl egOb12 _ (lst1_eq (cond_at d9 rfl)) _ rfl ?_
      have z0 := og_not hz hD
      simp only [z0, hD, d9, cond_false, cond_true, List.append_nil] at hS
      refine (rOneByOne_x hS a nn cap).mono ?_
      rintro r u ⟨L2, rfl, hS2⟩
      refine ⟨_, rfl, hK _ _ ⟨_, rfl, a, nn, cap, sb, L2, rfl, (fun _ => rfl), (fun _ => d9), hI, ?_⟩⟩
      show Sx _ _ _ ([(P, cond (D 13) _ _)] ++ [(L2, _)]) (cond (D 9) _ _)
      rw [z0, d9]
      exact hS2
    | 11, hi =>
      cases hi
      have d0 : D 0 = true := og_pre hpre (by kernel_rfl)
      refine wpOp_step rfl (fun K hK => ?_)
      refine stp_val rfl (yif_by rfl _ (fun w => by simp only [d0, cond_true]; go_simp; first | done | exact rfl)) rfl ?_
      exact hK _ _ ⟨_, rfl, a, nn, cap, sb, L, rfl, hz, hy, hI, hS⟩
    | 12, hi =>
      cases hi
      have d11 : D 11 = true := og_pre hpre (by kernel_rfl)
      refine wpOp_step rfl (fun K hK => ?_)
      refine stp_val rfl (yif_by rfl _ (fun w => by simp only [d11, cond_true]; go_simp; first | done | exact rfl)) rfl ?_
      exact hK _ _ ⟨_, rfl, a, nn, cap, sb, L, rfl, hz, hy, hI, hS⟩
    | 13, hi =>
      cases hi
      have d10 : D 10 = true := og_pre hpre (by kernel_rfl)
      have d12 : D 12 = true := og_pre hpre (by kernel_rfl)
      refine wpOp_step rfl (fun K hK => ?_)
      simp only [hD, cond_false] at hS
      refine stx_store hS 0 rfl _ _ _ rfl _ _ (cond_at d12 rfl) _ rfl _ (cond_at d10 rfl) _ rfl _ (siz_any2 rfl) (by exact rfl) (by exact rfl) (by exact rfl) rfl ?_
      intro u hS'
      exact hK _ _ ⟨_, rfl, a, nn, cap, sb, L, rfl, (fun _ => d10), hy, hI, hS'⟩
    | i + 14, hi => simp at hi
  case ends =>
    intro D ts' w' hall hI
    obtain ⟨a, nn, cap, sb, L, rfl, hz, hy, hI, hS⟩ := hI
    have d0 : D 0 = true := hall 0 (by decide)
    have d1 : D 1 = true := hall 1 (by decide)
    have d2 : D 2 = true := hall 2 (by decide)
    have d3 : D 3 = true := hall 3 (by decide)
    have d4 : D 4 = true := hall 4 (by decide)
    have d5 : D 5 = true := hall 5 (by decide)
    have d6 : D 6 = true := hall 6 (by decide)
    have d7 : D 7 = true := hall 7 (by decide)
    have d8 : D 8 = true := hall 8 (by decide)
    have d9 : D 9 = true := hall 9 (by decide)
    have d10 : D 10 = true := hall 10 (by decide)
    have d11 : D 11 = true := hall 11 (by decide)
    have d12 : D 12 = true := hall 12 (by decide)
    have d13 : D 13 = true := hall 13 (by decide)
    simp only [d9, d10, d13, cond_true] at hS
    dsimp only [putS, List.set]
    simp only [d0, d1, d2, d3, d4, d5, d6, d7, d8, d9, d10, d11, d12, cond_true]
    replace hy := hy d10
    replace hI := hI d9
    clear hall d0 d1 d2 d3 d4 d5 d6 d7 d8 d9 d10 d11 d12 d13 hz
    go_wp2_with fail
    refine (rAnother_any hS 0 1 rfl rfl (by decide) m (fun W' h => hI.2 W' (fun p hp => h p (List.mem_append_right _ hp)))).mono ?_
    rintro r u ⟨cs, ls, X, xc, rfl, hA, hSn⟩
    clear hS
    have hS := hSn
    clear hSn
    dsimp only [putL, List.set, List.cons_append, List.nil_append] at hS
    go_wp2_with fail
    first | go_end0 | ((try simp only [Exit.inBlock, Exit.then]); refine bodyPost_ret (results_none rfl _ _ _) rfl ?_)
    exact ⟨L, cs, ls, X, xc, sb, rfl, hA, hI.1, (unhide HS).back1s k (unhide HI) hS hI.1⟩
set_option maxHeartbeats 4000000 in
theorem rEnter_a {G h nl cl : Nat} {la : Option Addr} {Z : Nat → Int} {g O : Um.Es} (hS : Sx bs w0 w [(P, [.int .i64 sl, .int .i64 ky, .int .u64 (sn : Nat), .int .u64 (s : Nat), ov, .int .i64 ot, .pointer (some ⟨G, 0, none⟩), pj, po, pl, .func (.func 45) #[.pointer (some ⟨P, 0, none⟩)] #[], .int .i64 ft]), (B, memL c C g.m), (C, rowW g.m.ws c.n), (G, entL G h la nl cl g)] e) (hr : c.r = true) (hO : O = Um.estep c h (fun k => inZ Z nl ((k : Nat) : Int)) g) (ho : Um.Eok c g) (hh : Um.Word h) (hnl : nl ≤ 50) (hSt : StB la nl Z e) (hn : Um.ook h c.s = true) (hen : O.en = false) :
    Calls Tryz.prog 45 #[.pointer (some ⟨P, 0, none⟩), .pointer (some ⟨B, 0, none⟩)] w fun r w' => r = .returned (.tuple #[]) ∧ Um.Eok c O ∧ Sx bs w0 w' [(P, [.int .i64 sl, .int .i64 ky, .int .u64 (sn : Nat), .int .u64 (s : Nat), ov, .int .i64 ot, .pointer (some ⟨G, 0, none⟩), pj, po, pl, .func (.func 45) #[.pointer (some ⟨P, 0, none⟩)] #[], .int .i64 ft]), (B, memL c C O.m), (C, rowW O.m.ws c.n), (G, entL G h la nl cl O)] e := by
  have HR := hide hr
  have HO := hide hO
  have HE := hide ho
  have HH := hide hh
  have HST := hide hSt
  have HD := hide (show Um.edn c h O = false by unfold Um.edn; rw [hen, hn]; rfl)
  clear hr hO ho hh hSt hen hn
  go_enter Tryz.func45, Tryz.ntmps45
  go_wp2_with (first | (refine ybox hS (h := ?_); clear hS; intro _ _ hS) | (refine yall hS (h := ?_); clear hS; intro _ _ hS) | refine yld hS (h := ?_) | (refine yst hS (h := ?_); clear hS; intro _ hS))
  refine (gStep_any hS 1 2 3 g O (unhide HO) rfl rfl rfl (by decide) (by decide) (by decide) (unhide HR) (unhide HE) (unhide HH) hnl (unhide HST)).mono ?_
  rintro r u ⟨rfl, hOn, hSn⟩
  clear hS
  have hS := hSn
  clear hSn
  dsimp only [putL, List.set, List.cons_append, List.nil_append] at hS
  have HOK := hide hOn
  clear hOn
  go_wp2_with (first | (refine ybox hS (h := ?_); clear hS; intro _ _ hS) | (refine yall hS (h := ?_); clear hS; intro _ _ hS) | refine yld hS (h := ?_) | (refine yst hS (h := ?_); clear hS; intro _ hS))
  refine (gDone_any hS 1 2 3 rfl rfl rfl (by decide) (unhide HR) (unhide HOK).wd (unhide HH)).mono ?_
  rintro r u ⟨rfl, hb⟩
  replace hS := hS.call hb
  clear hb
  rw [unhide HD]
  go_wp2_with (first | (refine ybox hS (h := ?_); clear hS; intro _ _ hS) | (refine yall hS (h := ?_); clear hS; intro _ _ hS) | refine yld hS (h := ?_) | (refine yst hS (h := ?_); clear hS; intro _ hS))
  first | go_end0 | ((try simp only [Exit.inBlock, Exit.then]); refine bodyPost_ret (results_none rfl _ _ _) rfl ?_)
  exact ⟨rfl, unhide HOK, hS⟩
set_option maxHeartbeats 4000000 in
theorem rEnter_b {G h nl cl : Nat} {la : Option Addr} {Z : Nat → Int} {g O : Um.Es} (hS : Sx bs w0 w [(P, [.int .i64 sl, .int .i64 ky, .int .u64 (sn : Nat), .int .u64 (s : Nat), ov, .int .i64 ot, .pointer (some ⟨G, 0, none⟩), pj, po, pl, .func (.func 45) #[.pointer (some ⟨P, 0, none⟩)] #[], .int .i64 ft]), (B, memL c C g.m), (C, rowW g.m.ws c.n), (G, entL G h la nl cl g)] e) (hr : c.r = true) (hO : O = Um.estep c h (fun k => inZ Z nl ((k : Nat) : Int)) g) (ho : Um.Eok c g) (hh : Um.Word h) (hnl : nl ≤ 50) (hSt : StB la nl Z e) (hn : Um.ook h c.s = true) (hen : O.en = true) (he : O.e ≠ 0) :
    Calls Tryz.prog 45 #[.pointer (some ⟨P, 0, none⟩), .pointer (some ⟨B, 0, none⟩)] w fun r w' => r = .returned (.tuple #[]) ∧ Um.Eok c O ∧ Sx bs w0 w' [(P, [.int .i64 sl, .int .i64 ky, .int .u64 (sn : Nat), .int .u64 (s : Nat), ov, .int .i64 ot, .pointer (some ⟨G, 0, none⟩), pj, po, pl, .nilFunc, .int .i64 O.e]), (B, memL c C O.m), (C, rowW O.m.ws c.n), (G, entL G h la nl cl O)] e := by
  have HR := hide hr
  have HO := hide hO
  have HE := hide ho
  have HH := hide hh
  have HST := hide hSt
  have HD := hide (show Um.edn c h O = true by unfold Um.edn; rw [hen, hn]; rfl)
  have HER := hide (show Um.eer c h O = O.e by unfold Um.eer; rw [hn]; rfl)
  have f1 : ¬ O.e = 0 := he
  have f2 : (O.e != 0) = true := by simpa using f1
  clear he
  clear hr hO ho hh hSt hen hn
  go_enter Tryz.func45, Tryz.ntmps45
  go_wp2_with (first | (refine ybox hS (h := ?_); clear hS; intro _ _ hS) | (refine yall hS (h := ?_); clear hS; intro _ _ hS) | refine yld hS (h := ?_) | (refine yst hS (h := ?_); clear hS; intro _ hS))
  refine (gStep_any hS 1 2 3 g O (unhide HO) rfl rfl rfl (by decide) (by decide) (by decide) (unhide HR) (unhide HE) (unhide HH) hnl (unhide HST)).mono ?_
  rintro r u ⟨rfl, hOn, hSn⟩
  clear hS
  have hS := hSn
  clear hSn
  dsimp only [putL, List.set, List.cons_append, List.nil_append] at hS
  have HOK := hide hOn
  clear hOn
  go_wp2_with (first | (refine ybox hS (h := ?_); clear hS; intro _ _ hS) | (refine yall hS (h := ?_); clear hS; intro _ _ hS) | refine yld hS (h := ?_) | (refine yst hS (h := ?_); clear hS; intro _ hS))
  refine (gDone_any hS 1 2 3 rfl rfl rfl (by decide) (unhide HR) (unhide HOK).wd (unhide HH)).mono ?_
  rintro r u ⟨rfl, hb⟩
  replace hS := hS.call hb
  clear hb
  rw [unhide HD]
  go_wp2_with (first | (refine ybox hS (h := ?_); clear hS; intro _ _ hS) | (refine yall hS (h := ?_); clear hS; intro _ _ hS) | refine yld hS (h := ?_) | (refine yst hS (h := ?_); clear hS; intro _ hS))
  refine (gError_any hS 1 2 3 rfl rfl rfl (by decide) (unhide HR) (unhide HOK).wd (unhide HH)).mono ?_
  rintro r u ⟨rfl, hb⟩
  replace hS := hS.call hb
  clear hb
  rw [unhide HER]
  go_wp2_with (first | (refine ybox hS (h := ?_); clear hS; intro _ _ hS) | (refine yall hS (h := ?_); clear hS; intro _ _ hS) | refine yld hS (h := ?_) | (refine yst hS (h := ?_); clear hS; intro _ hS))
  first | go_end0 | ((try simp only [Exit.inBlock, Exit.then]); refine bodyPost_ret (results_none rfl _ _ _) rfl ?_)
  exact ⟨rfl, unhide HOK, hS⟩
set_option maxHeartbeats 4000000 in
theorem rEnter_c {G h nl cl : Nat} {la : Option Addr} {Z : Nat → Int} {g O : Um.Es} (hS : Sx bs w0 w [(P, [.int .i64 sl, .int .i64 ky, .int .u64 (sn : Nat), .int .u64 (s : Nat), ov, .int .i64 ot, .pointer (some ⟨G, 0, none⟩), pj, po, pl, .func (.func 45) #[.pointer (some ⟨P, 0, none⟩)] #[], .int .i64 ft]), (B, memL c C g.m), (C, rowW g.m.ws c.n), (G, entL G h la nl cl g)] e) (hr : c.r = true) (hO : O = Um.estep c h (fun k => inZ Z nl ((k : Nat) : Int)) g) (ho : Um.Eok c g) (hh : Um.Word h) (hnl : nl ≤ 50) (hSt : StB la nl Z e) (hn : Um.ook h c.s = true) (hen : O.en = true) (he : O.e = 0) :
    Calls Tryz.prog 45 #[.pointer (some ⟨P, 0, none⟩), .pointer (some ⟨B, 0, none⟩)] w fun r w' => r = .returned (.tuple #[]) ∧ Um.Eok c O ∧ Sx bs w0 w' [(P, [.int .i64 sl, .int .i64 ky, .int .u64 (sn : Nat), .int .u64 (s : Nat), ov, .int .i64 ot, .pointer (some ⟨G, 0, none⟩), pj, po, pl, .func (.func 89) #[.pointer (some ⟨P, 0, none⟩)] #[], .int .i64 0]), (B, memL c C O.m), (C, rowW O.m.ws c.n), (G, entL G h la nl cl O)] e := by
  have HR := hide hr
  have HO := hide hO
  have HE := hide ho
  have HH := hide hh
  have HST := hide hSt
  have HD := hide (show Um.edn c h O = true by unfold Um.edn; rw [hen, hn]; rfl)
  have HER := hide (show Um.eer c h O = O.e by unfold Um.eer; rw [hn]; rfl)
  have HE0 := hide he
  clear he
  clear hr hO ho hh hSt hen hn
  go_enter Tryz.func45, Tryz.ntmps45
  go_wp2_with (first | (refine ybox hS (h := ?_); clear hS; intro _ _ hS) | (refine yall hS (h := ?_); clear hS; intro _ _ hS) | refine yld hS (h := ?_) | (refine yst hS (h := ?_); clear hS; intro _ hS))
  refine (gStep_any hS 1 2 3 g O (unhide HO) rfl rfl rfl (by decide) (by decide) (by decide) (unhide HR) (unhide HE) (unhide HH) hnl (unhide HST)).mono ?_
  rintro r u ⟨rfl, hOn, hSn⟩
  clear hS
  have hS := hSn
  clear hSn
  dsimp only [putL, List.set, List.cons_append, List.nil_append] at hS
  have HOK := hide hOn
  clear hOn
  go_wp2_with (first | (refine ybox hS (h := ?_); clear hS; intro _ _ hS) | (refine yall hS (h := ?_); clear hS; intro _ _ hS) | refine yld hS (h := ?_) | (refine yst hS (h := ?_); clear hS; intro _ hS))
  refine (gDone_any hS 1 2 3 rfl rfl rfl (by decide) (unhide HR) (unhide HOK).wd (unhide HH)).mono ?_
  rintro r u ⟨rfl, hb⟩
  replace hS := hS.call hb
  clear hb
  rw [unhide HD]
  go_wp2_with (first | (refine ybox hS (h := ?_); clear hS; intro _ _ hS) | (refine yall hS (h := ?_); clear hS; intro _ _ hS) | refine yld hS (h := ?_) | (refine yst hS (h := ?_); clear hS; intro _ hS))
  refine (gError_any hS 1 2 3 rfl rfl rfl (by decide) (unhide HR) (unhide HOK).wd (unhide HH)).mono ?_
  rintro r u ⟨rfl, hb⟩
  replace hS := hS.call hb
  clear hb
  rw [unhide HER]
  rw [unhide HE0]
  go_wp2_with (first | (refine ybox hS (h := ?_); clear hS; intro _ _ hS) | (refine yall hS (h := ?_); clear hS; intro _ _ hS) | refine yld hS (h := ?_) | (refine yst hS (h := ?_); clear hS; intro _ hS))
  first | go_end0 | ((try simp only [Exit.inBlock, Exit.then]); refine bodyPost_ret (results_none rfl _ _ _) rfl ?_)
  exact ⟨rfl, unhide HOK, hS⟩
set_option maxHeartbeats 4000000 in
theorem rSnap_x (hS : Sx bs w0 w [(P, [.int .i64 sl, .int .i64 ky, .int .u64 (sn : Nat), .int .u64 (s : Nat), ov, .int .i64 ot, pg, pj, po, pl, .func (.func 89) #[.pointer (some ⟨P, 0, none⟩)] #[], .int .i64 ft]), (B, memL c C m), (C, rowW m.ws c.n)] e) (hr : c.r = true) (hw : WordsOk c m) (hb : -9223372036854775808 ≤ sl ∧ sl ≤ 9223372036854775807) (hkb : -9223372036854775808 ≤ ky ∧ ky ≤ 9223372036854775807) (M : Um.Mm) (hM : M = Um.mtouch c m 1 5 sl 0 0) :
    Calls Tryz.prog 89 #[.pointer (some ⟨P, 0, none⟩), .pointer (some ⟨B, 0, none⟩)] w fun r w' => r = .returned (.tuple #[]) ∧ WordsOk c M ∧ Sx bs w0 w' [(P, [.int .i64 sl, .int .i64 ky, .int .u64 (M.l.old : Nat), .int .u64 (s : Nat), ov, .int .i64 ot, pg, pj, po, pl, .func (.func 105) #[.pointer (some ⟨P, 0, none⟩)] #[], .int .i64 ft]), (B, memL c C M), (C, rowW M.ws c.n)] e := by
  have HR := hide hr
  have HW := hide hw
  have HM := hide hM
  have HBD := hide hb
  have HKB := hide hkb
  clear hr hw hM hb hkb
  go_enter Tryz.func89, Tryz.ntmps89
  go_wp2_with (first | (refine ybox hS (h := ?_); clear hS; intro _ _ hS) | (refine yall hS (h := ?_); clear hS; intro _ _ hS) | refine yld hS (h := ?_) | (refine yst hS (h := ?_); clear hS; intro _ hS))
  refine (mLoad_x hS 1 2 rfl rfl (by decide) (unhide HR) (unhide HW) 5 sl (unhide HBD).1 (unhide HBD).2 M (unhide HM)).mono ?_
  rintro r u ⟨rfl, hWn, hSn⟩
  clear hS
  have hS := hSn
  clear hSn
  dsimp only [putL, List.set, List.cons_append, List.nil_append] at hS
  have HW6 := hide hWn
  clear hWn
  go_wp2_with (first | (refine ybox hS (h := ?_); clear hS; intro _ _ hS) | (refine yall hS (h := ?_); clear hS; intro _ _ hS) | refine yld hS (h := ?_) | (refine yst hS (h := ?_); clear hS; intro _ hS))
  first | go_end0 | ((try simp only [Exit.inBlock, Exit.then]); refine bodyPost_ret (results_none rfl _ _ _) rfl ?_)
  exact ⟨rfl, unhide HW6, hS⟩
set_option maxHeartbeats 4000000 in
theorem rLook_n (hS : Sx bs w0 w [(P, [.int .i64 sl, .int .i64 ky, .int .u64 (sn : Nat), .int .u64 (s : Nat), ov, .int .i64 ot, pg, pj, po, pl, .func (.func 105) #[.pointer (some ⟨P, 0, none⟩)] #[], .int .i64 ft]), (B, memL c C m), (C, rowW m.ws c.n)] e) (hr : c.r = true) (hw : WordsOk c m) (hb : -9223372036854775808 ≤ sl ∧ sl ≤ 9223372036854775807) (hkb : -9223372036854775808 ≤ ky ∧ ky ≤ 9223372036854775807) (M : Um.Mm) (hM : M = Um.mtouch c m 1 8 ky 0 0) (hh : Um.hasN M.l.old 0 sl = false) :
    Calls Tryz.prog 105 #[.pointer (some ⟨P, 0, none⟩), .pointer (some ⟨B, 0, none⟩)] w fun r w' => r = .returned (.tuple #[]) ∧ WordsOk c M ∧ Sx bs w0 w' [(P, [.int .i64 sl, .int .i64 ky, .int .u64 (sn : Nat), .int .u64 (M.l.old : Nat), ov, .int .i64 ot, pg, pj, po, pl, .func (.func 127) #[.pointer (some ⟨P, 0, none⟩)] #[], .int .i64 ft]), (B, memL c C M), (C, rowW M.ws c.n)] e := by
  have HO := hide (show Um.Word (Um.mtouch c m 1 8 ky 0 0).l.old from Um.old_word hw)
  rw [← hM] at HO
  have HHH := hide hh
  clear hh
  have HR := hide hr
  have HW := hide hw
  have HM := hide hM
  have HBD := hide hb
  have HKB := hide hkb
  clear hr hw hM hb hkb
  go_enter Tryz.func105, Tryz.ntmps105
  go_wp2_with (first | (refine ybox hS (h := ?_); clear hS; intro _ _ hS) | (refine yall hS (h := ?_); clear hS; intro _ _ hS) | refine yld hS (h := ?_) | (refine yst hS (h := ?_); clear hS; intro _ hS))
  refine (rSpot_b (hS.get 0 rfl)).mono ?_
  rintro r u ⟨rfl, hb⟩
  replace hS := hS.call hb
  clear hb
  go_wp2_with (first | (refine ybox hS (h := ?_); clear hS; intro _ _ hS) | (refine yall hS (h := ?_); clear hS; intro _ _ hS) | refine yld hS (h := ?_) | (refine yst hS (h := ?_); clear hS; intro _ hS))
  refine (mLoad_x hS 1 2 rfl rfl (by decide) (unhide HR) (unhide HW) 8 ky (unhide HKB).1 (unhide HKB).2 M (unhide HM)).mono ?_
  rintro r u ⟨rfl, hWn, hSn⟩
  clear hS
  have hS := hSn
  clear hSn
  dsimp only [putL, List.set, List.cons_append, List.nil_append] at hS
  have HW6 := hide hWn
  clear hWn
  go_wp2_with (first | (refine ybox hS (h := ?_); clear hS; intro _ _ hS) | (refine yall hS (h := ?_); clear hS; intro _ _ hS) | refine yld hS (h := ?_) | (refine yst hS (h := ?_); clear hS; intro _ hS))
  have HHS := hide (fun u => same_below (mHas_any M.l.old 0 sl u (unhide HO)))
  rw [unhide HHH] at HHS
  obtain ⟨u, rfl⟩ := nameW hS
  have k3 := cell_regrown ((hS.get 0 rfl).cell 3 _ rfl)
  have k0 := cell_regrown ((hS.get 0 rfl).cell 0 _ rfl)
  have HSQ := hide hS
  clear hS
  refine wp_region_quiet_below (by kernel_rfl) (by kernel_rfl) ?_
  repeat (go_big_quiet_step (first | (go_at_call 125; exact Calls.regrown_of ((unhide HHS) _))))
  refine wpQuiet_nil ?_
  intro _ hw'
  obtain ⟨⟨dq, osq⟩, hw''⟩ := hw'
  subst hw''
  have hS := (unhide HSQ).call (below_regrown u dq osq)
  clear HSQ k3 k0
  generalize grow (redrawn u dq) osq = u9 at *
  clear HHS
  go_wp2_with (first | (refine ybox hS (h := ?_); clear hS; intro _ _ hS) | (refine yall hS (h := ?_); clear hS; intro _ _ hS) | refine yld hS (h := ?_) | (refine yst hS (h := ?_); clear hS; intro _ hS))
  first | go_end0 | ((try simp only [Exit.inBlock, Exit.then]); refine bodyPost_ret (results_none rfl _ _ _) rfl ?_)
  exact ⟨rfl, unhide HW6, hS⟩
set_option maxHeartbeats 4000000 in
theorem rLook_t (hS : Sx bs w0 w [(P, [.int .i64 sl, .int .i64 ky, .int .u64 (sn : Nat), .int .u64 (s : Nat), ov, .int .i64 ot, pg, pj, po, pl, .func (.func 105) #[.pointer (some ⟨P, 0, none⟩)] #[], .int .i64 ft]), (B, memL c C m), (C, rowW m.ws c.n)] e) (hr : c.r = true) (hw : WordsOk c m) (hb : -9223372036854775808 ≤ sl ∧ sl ≤ 9223372036854775807) (hkb : -9223372036854775808 ≤ ky ∧ ky ≤ 9223372036854775807) (M : Um.Mm) (hM : M = Um.mtouch c m 1 8 ky 0 0) (hh : Um.hasN M.l.old 0 sl = true) :
    Calls Tryz.prog 105 #[.pointer (some ⟨P, 0, none⟩), .pointer (some ⟨B, 0, none⟩)] w fun r w' => ∃ L cs ls X xc sb, r = .returned (.tuple #[]) ∧ AnP P L sl ky sn M.l.old M (e ++ sb) (Um.othersN M.l.old 1 sl) cs ls X xc ∧ (∀ p ∈ sb, w.heap.size ≤ p.1) ∧ WordsOk c M ∧ Sx bs w0 w' [(P, cs), (B, memL c C M), (C, rowW M.ws c.n), (L, ls), (X, xc)] (e ++ sb) := by
  have HO := hide (show Um.Word (Um.mtouch c m 1 8 ky 0 0).l.old from Um.old_word hw)
  rw [← hM] at HO
  have HHH := hide hh
  clear hh
  have HS := hide hS
  have hS0 := hS.enter3e 0 1 2 rfl rfl rfl (by decide) (by decide) (by decide)
  clear hS
  have hS := hS0
  clear hS0
  have HR := hide hr
  have HW := hide hw
  have HM := hide hM
  have HBD := hide hb
  have HKB := hide hkb
  clear hr hw hM hb hkb
  go_enter Tryz.func105, Tryz.ntmps105
  go_wp2_with (first | (refine ybox hS (h := ?_); clear hS; intro _ _ hS) | (refine yall hS (h := ?_); clear hS; intro _ _ hS) | refine yld hS (h := ?_) | (refine yst hS (h := ?_); clear hS; intro _ hS))
  refine (rSpot_b (hS.get 0 rfl)).mono ?_
  rintro r u ⟨rfl, hb⟩
  replace hS := hS.call hb
  clear hb
  go_wp2_with (first | (refine ybox hS (h := ?_); clear hS; intro _ _ hS) | (refine yall hS (h := ?_); clear hS; intro _ _ hS) | refine yld hS (h := ?_) | (refine yst hS (h := ?_); clear hS; intro _ hS))
  refine (mLoad_x hS 1 2 rfl rfl (by decide) (unhide HR) (unhide HW) 8 ky (unhide HKB).1 (unhide HKB).2 M (unhide HM)).mono ?_
  rintro r u ⟨rfl, hWn, hSn⟩
  clear hS
  have hS := hSn
  clear hSn
  dsimp only [putL, List.set, List.cons_append, List.nil_append] at hS
  have HW6 := hide hWn
  clear hWn
  go_wp2_with (first | (refine ybox hS (h := ?_); clear hS; intro _ _ hS) | (refine yall hS (h := ?_); clear hS; intro _ _ hS) | refine yld hS (h := ?_) | (refine yst hS (h := ?_); clear hS; intro _ hS))
  have HHS := hide (fun u => same_below (mHas_any M.l.old 0 sl u (unhide HO)))
  rw [unhide HHH] at HHS
  obtain ⟨u, rfl⟩ := nameW hS
  have k3 := cell_regrown ((hS.get 0 rfl).cell 3 _ rfl)
  have k0 := cell_regrown ((hS.get 0 rfl).cell 0 _ rfl)
  have HSQ := hide hS
  clear hS
  refine wp_region_quiet_below (by kernel_rfl) (by kernel_rfl) ?_
  repeat (go_big_quiet_step (first | (go_at_call 125; exact Calls.regrown_of ((unhide HHS) _))))
  refine wpQuiet_nil ?_
  intro _ hw'
  obtain ⟨⟨dq, osq⟩, hw''⟩ := hw'
  subst hw''
  have hS := (unhide HSQ).call (below_regrown u dq osq)
  clear HSQ k3 k0
  generalize grow (redrawn u dq) osq = u9 at *
  clear HHS
  go_wp2_with (first | (refine ybox hS (h := ?_); clear hS; intro _ _ hS) | (refine yall hS (h := ?_); clear hS; intro _ _ hS) | refine yld hS (h := ?_) | (refine yst hS (h := ?_); clear hS; intro _ hS))
  have hsz := hS.size
  refine (rFound_x hS 0 rfl (unhide HO) M).mono ?_
  rintro r u2 ⟨L, cs, ls, X, xc, sb, rfl, hA, hsb, hSn⟩
  clear hS
  have hS := hSn
  clear hSn
  dsimp only [putL, List.set, List.cons_append, List.nil_append] at hS
  have HA := hide (And.intro hA (fun p (hp : p ∈ sb) => Nat.le_trans hsz (hsb p hp)))
  clear hA hsb hsz
  go_wp2_with fail
  first | go_end0 | ((try simp only [Exit.inBlock, Exit.then]); refine bodyPost_ret (results_none rfl _ _ _) rfl ?_)
  refine ⟨L, cs, ls, X, xc, sb, rfl, (unhide HA).1, (unhide HA).2, unhide HW6, ?_⟩
  have h9 := (unhide HS).backG (us := [(0, P, cs), (1, B, memL c C M), (2, C, rowW M.ws c.n)]) (r := [(L, ls), (X, xc)]) (sb := sb) (placesL3 rfl rfl rfl) hS (unhide HA).2
  exact h9
set_option maxHeartbeats 4000000 in
theorem rMark_f (hS : Sx bs w0 w [(P, [.int .i64 sl, .int .i64 ky, .int .u64 (sn : Nat), .int .u64 (s : Nat), ov, .int .i64 ot, pg, pj, po, pl, .func (.func 127) #[.pointer (some ⟨P, 0, none⟩)] #[], .int .i64 ft]), (B, memL c C m), (C, rowW m.ws c.n)] e) (hr : c.r = true) (hw : WordsOk c m) (hb : -9223372036854775808 ≤ sl ∧ sl ≤ 9223372036854775807) (hkb : -9223372036854775808 ≤ ky ∧ ky ≤ 9223372036854775807) (M : Um.Mm) (hM : M = Um.mtouch c m 3 8 ky s (Um.withN s 0 sl)) (hs : Um.Word s) (hd : M.l.done = false) :
    Calls Tryz.prog 127 #[.pointer (some ⟨P, 0, none⟩), .pointer (some ⟨B, 0, none⟩)] w fun r w' => r = .returned (.tuple #[]) ∧ WordsOk c M ∧ Sx bs w0 w' [(P, [.int .i64 sl, .int .i64 ky, .int .u64 (sn : Nat), .int .u64 (s : Nat), ov, .int .i64 ot, pg, pj, po, pl, .func (.func 105) #[.pointer (some ⟨P, 0, none⟩)] #[], .int .i64 ft]), (B, memL c C M), (C, rowW M.ws c.n)] e := by
  have HV := hide hs
  have HD := hide hd
  clear hs hd
  have HR := hide hr
  have HW := hide hw
  have HM := hide hM
  have HBD := hide hb
  have HKB := hide hkb
  clear hr hw hM hb hkb
  have k0 := fun w' (hq : BlkAt w' P [.int .i64 sl, .int .i64 ky, .int .u64 (sn : Nat), .int .u64 (s : Nat), ov, .int .i64 ot, pg, pj, po, pl, .func (.func 127) #[.pointer (some ⟨P, 0, none⟩)] #[], .int .i64 ft]) => hq.cell 0 _ rfl
  have k3 := fun w' (hq : BlkAt w' P [.int .i64 sl, .int .i64 ky, .int .u64 (sn : Nat), .int .u64 (s : Nat), ov, .int .i64 ot, pg, pj, po, pl, .func (.func 127) #[.pointer (some ⟨P, 0, none⟩)] #[], .int .i64 ft]) => hq.cell 3 _ rfl
  have HP := hide (hS.get 0 rfl)
  go_enter Tryz.func127, Tryz.ntmps127
  go_wp2_with fail
  have HS3 := hide hS
  clear hS
  go_region_held3 (fun w' => BlkAt w' P [.int .i64 sl, .int .i64 ky, .int .u64 (sn : Nat), .int .u64 (s : Nat), ov, .int .i64 ot, pg, pj, po, pl, .func (.func 127) #[.pointer (some ⟨P, 0, none⟩)] #[], .int .i64 ft]) (first | exact (unhide HP).drew | exact BlkAt.below (by assumption) (by assumption) | assumption) (first | (go_at_call 124; refine (rSpot_b (by assumption)).mono ?_; rintro e u5 ⟨rfl, hb5⟩) | (go_at_call 137; refine (mWith_any s 0 sl _ (unhide HV)).mono ?_; rintro e u6 ⟨rfl, rfl⟩) | (go_at_call 132; refine (mSwap_x ((unhide HS3).undrew hb5) 1 2 rfl rfl (by decide) (unhide HR) (unhide HW) 8 ky s (Um.withN s 0 sl) (Um.with_word (unhide HV) _ _) (unhide HKB).1 (unhide HKB).2 M (unhide HM)).mono ?_; rintro e u7 ⟨rfl, hW6, hS6⟩; have hP6 := hS6.get 0 rfl))
  have hS := hS6
  have HW6 := hide hW6
  clear hS6 hP6 hW6 k0 k3 HS3 HP
  dsimp only [putL, List.set] at hS
  simp only [unhide HD]
  go_wp2_with (first | (refine ybox hS (h := ?_); clear hS; intro _ _ hS) | (refine yall hS (h := ?_); clear hS; intro _ _ hS) | refine yld hS (h := ?_) | (refine yst hS (h := ?_); clear hS; intro _ hS))
  first | go_end0 | ((try simp only [Exit.inBlock, Exit.then]); refine bodyPost_ret (results_none rfl _ _ _) rfl ?_)
  exact ⟨rfl, unhide HW6, hS⟩
set_option maxHeartbeats 4000000 in
theorem rMark_t (hS : Sx bs w0 w [(P, [.int .i64 sl, .int .i64 ky, .int .u64 (sn : Nat), .int .u64 (s : Nat), ov, .int .i64 ot, pg, pj, po, pl, .func (.func 127) #[.pointer (some ⟨P, 0, none⟩)] #[], .int .i64 ft]), (B, memL c C m), (C, rowW m.ws c.n)] e) (hr : c.r = true) (hw : WordsOk c m) (hb : -9223372036854775808 ≤ sl ∧ sl ≤ 9223372036854775807) (hkb : -9223372036854775808 ≤ ky ∧ ky ≤ 9223372036854775807) (M : Um.Mm) (hM : M = Um.mtouch c m 3 8 ky s (Um.withN s 0 sl)) (hs : Um.Word s) (hd : M.l.done = true) :
    Calls Tryz.prog 127 #[.pointer (some ⟨P, 0, none⟩), .pointer (some ⟨B, 0, none⟩)] w fun r w' => ∃ L cs ls X xc sb, r = .returned (.tuple #[]) ∧ AnP P L sl ky sn s M (e ++ sb) (Um.othersN s 1 sl) cs ls X xc ∧ (∀ p ∈ sb, w.heap.size ≤ p.1) ∧ WordsOk c M ∧ Sx bs w0 w' [(P, cs), (B, memL c C M), (C, rowW M.ws c.n), (L, ls), (X, xc)] (e ++ sb) := by
  have HV := hide hs
  have HD := hide hd
  clear hs hd
  have HS := hide hS
  have hS0 := hS.enter3e 0 1 2 rfl rfl rfl (by decide) (by decide) (by decide)
  clear hS
  have hS := hS0
  clear hS0
  have HR := hide hr
  have HW := hide hw
  have HM := hide hM
  have HBD := hide hb
  have HKB := hide hkb
  clear hr hw hM hb hkb
  have k0 := fun w' (hq : BlkAt w' P [.int .i64 sl, .int .i64 ky, .int .u64 (sn : Nat), .int .u64 (s : Nat), ov, .int .i64 ot, pg, pj, po, pl, .func (.func 127) #[.pointer (some ⟨P, 0, none⟩)] #[], .int .i64 ft]) => hq.cell 0 _ rfl
  have k3 := fun w' (hq : BlkAt w' P [.int .i64 sl, .int .i64 ky, .int .u64 (sn : Nat), .int .u64 (s : Nat), ov, .int .i64 ot, pg, pj, po, pl, .func (.func 127) #[.pointer (some ⟨P, 0, none⟩)] #[], .int .i64 ft]) => hq.cell 3 _ rfl
  have HP := hide (hS.get 0 rfl)
  go_enter Tryz.func127, Tryz.ntmps127
  go_wp2_with fail
  have HS3 := hide hS
  clear hS
  go_region_held3 (fun w' => BlkAt w' P [.int .i64 sl, .int .i64 ky, .int .u64 (sn : Nat), .int .u64 (s : Nat), ov, .int .i64 ot, pg, pj, po, pl, .func (.func 127) #[.pointer (some ⟨P, 0, none⟩)] #[], .int .i64 ft]) (first | exact (unhide HP).drew | exact BlkAt.below (by assumption) (by assumption) | assumption) (first | (go_at_call 124; refine (rSpot_b (by assumption)).mono ?_; rintro e u5 ⟨rfl, hb5⟩) | (go_at_call 137; refine (mWith_any s 0 sl _ (unhide HV)).mono ?_; rintro e u6 ⟨rfl, rfl⟩) | (go_at_call 132; refine (mSwap_x ((unhide HS3).undrew hb5) 1 2 rfl rfl (by decide) (unhide HR) (unhide HW) 8 ky s (Um.withN s 0 sl) (Um.with_word (unhide HV) _ _) (unhide HKB).1 (unhide HKB).2 M (unhide HM)).mono ?_; rintro e u7 ⟨rfl, hW6, hS6⟩; have hP6 := hS6.get 0 rfl))
  have hS := hS6
  have HW6 := hide hW6
  clear hS6 hP6 hW6 k0 k3 HS3 HP
  dsimp only [putL, List.set] at hS
  simp only [unhide HD]
  go_wp2_with (first | (refine ybox hS (h := ?_); clear hS; intro _ _ hS) | (refine yall hS (h := ?_); clear hS; intro _ _ hS) | refine yld hS (h := ?_) | (refine yst hS (h := ?_); clear hS; intro _ hS))
  have hsz := hS.size
  refine (rFound_x hS 0 rfl (unhide HV) M).mono ?_
  rintro r u2 ⟨L, cs, ls, X, xc, sb, rfl, hA, hsb, hSn⟩
  clear hS
  have hS := hSn
  clear hSn
  dsimp only [putL, List.set, List.cons_append, List.nil_append] at hS
  have HA := hide (And.intro hA (fun p (hp : p ∈ sb) => Nat.le_trans hsz (hsb p hp)))
  clear hA hsb hsz
  go_wp2_with fail
  first | go_end0 | ((try simp only [Exit.inBlock, Exit.then]); refine bodyPost_ret (results_none rfl _ _ _) rfl ?_)
  refine ⟨L, cs, ls, X, xc, sb, rfl, (unhide HA).1, (unhide HA).2, unhide HW6, ?_⟩
  exact (unhide HS).backG (us := [(0, P, cs), (1, B, memL c C M), (2, C, rowW M.ws c.n)]) (r := [(L, ls), (X, xc)]) (sb := sb) (placesL3 rfl rfl rfl) hS (unhide HA).2
set_option maxHeartbeats 4000000 in
theorem rJoin_0 {J : Nat} {x : Int} {j O : Um.Js} {lv : Value} (hS : Sx bs w0 w [(P, [.int .i64 sl, .int .i64 ky, .int .u64 (sn : Nat), .int .u64 (s : Nat), ov, .int .i64 ot, pg, .pointer (some ⟨J, 0, none⟩), po, pl, .func (.func 144) #[.pointer (some ⟨P, 0, none⟩)] #[], .int .i64 ft]), (B, memL c C j.m), (C, rowW j.m.ws c.n), (L, [lv]), (J, jnL x 1 sl sn j)] e) (hr : c.r = true) (hO : O = Um.jstep c x 1 sl sn j) (ho : Um.Jok c j) (hx : -9223372036854775808 ≤ x ∧ x ≤ 9223372036854775807) (h : O.r = 0) :
    Calls Tryz.prog 144 #[.pointer (some ⟨P, 0, none⟩), .pointer (some ⟨B, 0, none⟩)] w fun r w' => r = .returned (.tuple #[]) ∧ Um.Jok c O ∧ Sx bs w0 w' [(P, [.int .i64 sl, .int .i64 ky, .int .u64 (sn : Nat), .int .u64 (s : Nat), ov, .int .i64 ot, pg, .pointer (some ⟨J, 0, none⟩), po, pl, .func (.func 144) #[.pointer (some ⟨P, 0, none⟩)] #[], .int .i64 ft]), (B, memL c C O.m), (C, rowW O.m.ws c.n), (L, [lv]), (J, jnL x 1 sl sn O)] e := by
  have HR := hide hr
  have HO := hide hO
  have HJ := hide ho
  have HX := hide hx
  have HRR := hide h
  clear hr hO ho hx h
  go_enter Tryz.func144, Tryz.ntmps144
  go_wp2_with (first | (refine ybox hS (h := ?_); clear hS; intro _ _ hS) | (refine yall hS (h := ?_); clear hS; intro _ _ hS) | refine yld hS (h := ?_) | (refine yst hS (h := ?_); clear hS; intro _ hS))
  refine (jStep_any (sl := x) (sd := 1) (b := sl) (sn := sn) hS 1 2 4 j O (unhide HO) rfl rfl rfl (by decide) (by decide) (by decide) (unhide HR) (unhide HJ) (unhide HX).1 (unhide HX).2 (by decide) (by decide)).mono ?_
  rintro r u ⟨rfl, hOn, hSn⟩
  clear hS
  have hS := hSn
  clear hSn
  dsimp only [putL, List.set, List.cons_append, List.nil_append] at hS
  have HOK := hide hOn
  clear hOn
  go_wp2_with (first | (refine ybox hS (h := ?_); clear hS; intro _ _ hS) | (refine yall hS (h := ?_); clear hS; intro _ _ hS) | refine yld hS (h := ?_) | (refine yst hS (h := ?_); clear hS; intro _ hS))
  refine (jRes_any (o := O) (hS.get 4 rfl)).mono ?_
  rintro r u ⟨rfl, rfl⟩
  rw [show ((O.r : Nat) : Int) = 0 by rw [unhide HRR]; rfl]
  go_wp2_with (first | (refine ybox hS (h := ?_); clear hS; intro _ _ hS) | (refine yall hS (h := ?_); clear hS; intro _ _ hS) | refine yld hS (h := ?_) | (refine yst hS (h := ?_); clear hS; intro _ hS))
  first | go_end0 | ((try simp only [Exit.inBlock, Exit.then]); refine bodyPost_ret (results_none rfl _ _ _) rfl ?_)
  exact ⟨rfl, unhide HOK, hS⟩
set_option maxHeartbeats 4000000 in
theorem rJoin_3 {J : Nat} {x : Int} {j O : Um.Js} {lv : Value} (hS : Sx bs w0 w [(P, [.int .i64 sl, .int .i64 ky, .int .u64 (sn : Nat), .int .u64 (s : Nat), ov, .int .i64 ot, pg, .pointer (some ⟨J, 0, none⟩), po, pl, .func (.func 144) #[.pointer (some ⟨P, 0, none⟩)] #[], .int .i64 ft]), (B, memL c C j.m), (C, rowW j.m.ws c.n), (L, [lv]), (J, jnL x 1 sl sn j)] e) (hr : c.r = true) (hO : O = Um.jstep c x 1 sl sn j) (ho : Um.Jok c j) (hx : -9223372036854775808 ≤ x ∧ x ≤ 9223372036854775807) (h : O.r = 3) :
    Calls Tryz.prog 144 #[.pointer (some ⟨P, 0, none⟩), .pointer (some ⟨B, 0, none⟩)] w fun r w' => ∃ V, r = .returned (.tuple #[]) ∧ Um.Jok c O ∧ Sx bs w0 w' [(P, [.int .i64 sl, .int .i64 ky, .int .u64 (sn : Nat), .int .u64 (s : Nat), ov, .int .i64 ot, pg, .pointer (some ⟨J, 0, none⟩), po, .pointer (some ⟨V, 0, none⟩), .func (.func 147) #[.pointer (some ⟨P, 0, none⟩)] #[], .int .i64 7]), (B, memL c C O.m), (C, rowW O.m.ws c.n), (L, [lv]), (J, jnL x 1 sl sn O), (V, leaL V sl 5 (Um.lnew O.m))] e := by
  have HR := hide hr
  have HO := hide hO
  have HJ := hide ho
  have HX := hide hx
  have HRR := hide h
  clear hr hO ho hx h
  go_enter Tryz.func144, Tryz.ntmps144
  go_wp2_with (first | (refine ybox hS (h := ?_); clear hS; intro _ _ hS) | (refine yall hS (h := ?_); clear hS; intro _ _ hS) | refine yld hS (h := ?_) | (refine yst hS (h := ?_); clear hS; intro _ hS))
  refine (jStep_any (sl := x) (sd := 1) (b := sl) (sn := sn) hS 1 2 4 j O (unhide HO) rfl rfl rfl (by decide) (by decide) (by decide) (unhide HR) (unhide HJ) (unhide HX).1 (unhide HX).2 (by decide) (by decide)).mono ?_
  rintro r u ⟨rfl, hOn, hSn⟩
  clear hS
  have hS := hSn
  clear hSn
  dsimp only [putL, List.set, List.cons_append, List.nil_append] at hS
  have HOK := hide hOn
  clear hOn
  go_wp2_with (first | (refine ybox hS (h := ?_); clear hS; intro _ _ hS) | (refine yall hS (h := ?_); clear hS; intro _ _ hS) | refine yld hS (h := ?_) | (refine yst hS (h := ?_); clear hS; intro _ hS))
  refine (jRes_any (o := O) (hS.get 4 rfl)).mono ?_
  rintro r u ⟨rfl, rfl⟩
  rw [show ((O.r : Nat) : Int) = 3 by rw [unhide HRR]; rfl]
  go_wp2_with (first | (refine ybox hS (h := ?_); clear hS; intro _ _ hS) | (refine yall hS (h := ?_); clear hS; intro _ _ hS) | refine yld hS (h := ?_) | (refine yst hS (h := ?_); clear hS; intro _ hS))
  refine (rGoOut_x hS 0 rfl 5 7 O.m).mono ?_
  rintro r u ⟨V, rfl, hSn⟩
  clear hS
  have hS := hSn
  clear hSn
  dsimp only [putL, List.set, List.cons_append, List.nil_append] at hS
  go_wp2_with fail
  first | go_end0 | ((try simp only [Exit.inBlock, Exit.then]); refine bodyPost_ret (results_none rfl _ _ _) rfl ?_)
  exact ⟨V, rfl, unhide HOK, hS⟩
set_option maxHeartbeats 4000000 in
theorem rJoin_2 {J : Nat} {x : Int} {j O : Um.Js} {lv : Value} (hS : Sx bs w0 w [(P, [.int .i64 sl, .int .i64 ky, .int .u64 (sn : Nat), .int .u64 (s : Nat), ov, .int .i64 ot, pg, .pointer (some ⟨J, 0, none⟩), po, pl, .func (.func 144) #[.pointer (some ⟨P, 0, none⟩)] #[], .int .i64 ft]), (B, memL c C j.m), (C, rowW j.m.ws c.n), (L, [lv]), (J, jnL x 1 sl sn j)] e) (hr : c.r = true) (hO : O = Um.jstep c x 1 sl sn j) (ho : Um.Jok c j) (hx : -9223372036854775808 ≤ x ∧ x ≤ 9223372036854775807) (h : O.r = 2) :
    Calls Tryz.prog 144 #[.pointer (some ⟨P, 0, none⟩), .pointer (some ⟨B, 0, none⟩)] w fun r w' => ∃ OW, r = .returned (.tuple #[]) ∧ Um.Jok c O ∧ Sx bs w0 w' [(P, [.int .i64 sl, .int .i64 ky, .int .u64 (sn : Nat), .int .u64 (s : Nat), ov, .int .i64 ot, pg, .pointer (some ⟨J, 0, none⟩), .pointer (some ⟨OW, 0, none⟩), pl, .func (.func 152) #[.pointer (some ⟨P, 0, none⟩)] #[], .int .i64 ft]), (B, memL c C O.m), (C, rowW O.m.ws c.n), (L, [lv]), (J, jnL x 1 sl sn O), (OW, owL sl 0 ot (Um.lnew O.m))] e := by
  have HR := hide hr
  have HO := hide hO
  have HJ := hide ho
  have HX := hide hx
  have HRR := hide h
  clear hr hO ho hx h
  go_enter Tryz.func144, Tryz.ntmps144
  go_wp2_with (first | (refine ybox hS (h := ?_); clear hS; intro _ _ hS) | (refine yall hS (h := ?_); clear hS; intro _ _ hS) | refine yld hS (h := ?_) | (refine yst hS (h := ?_); clear hS; intro _ hS))
  refine (jStep_any (sl := x) (sd := 1) (b := sl) (sn := sn) hS 1 2 4 j O (unhide HO) rfl rfl rfl (by decide) (by decide) (by decide) (unhide HR) (unhide HJ) (unhide HX).1 (unhide HX).2 (by decide) (by decide)).mono ?_
  rintro r u ⟨rfl, hOn, hSn⟩
  clear hS
  have hS := hSn
  clear hSn
  dsimp only [putL, List.set, List.cons_append, List.nil_append] at hS
  have HOK := hide hOn
  clear hOn
  go_wp2_with (first | (refine ybox hS (h := ?_); clear hS; intro _ _ hS) | (refine yall hS (h := ?_); clear hS; intro _ _ hS) | refine yld hS (h := ?_) | (refine yst hS (h := ?_); clear hS; intro _ hS))
  refine (jRes_any (o := O) (hS.get 4 rfl)).mono ?_
  rintro r u ⟨rfl, rfl⟩
  rw [show ((O.r : Nat) : Int) = 2 by rw [unhide HRR]; rfl]
  go_wp2_with (first | (refine ybox hS (h := ?_); clear hS; intro _ _ hS) | (refine yall hS (h := ?_); clear hS; intro _ _ hS) | refine yld hS (h := ?_) | (refine yst hS (h := ?_); clear hS; intro _ hS))
  refine wp_region_ogt (fun ts D ts' w' => ∃ (OW : Nat), ts' = putS ts [(17, cond (D 0) (.pointer (some ⟨P, 0, none⟩)) undef), (18, cond (D 1) (.pointer (some ⟨P, 0, none⟩)) undef), (19, cond (D 2) (.pointer (some ⟨P, 0, none⟩)) undef), (20, cond (D 3) (.pointer (some ⟨P, 0, none⟩)) undef), (21, cond (D 4) (.int .i64 sl) undef), (22, cond (D 5) (.pointer (some ⟨P, 0, none⟩)) undef), (23, cond (D 6) (.pointer (some ⟨P, 0, none⟩)) undef), (24, cond (D 7) (.pointer (some ⟨P, 5, none⟩)) undef), (25, cond (D 8) (.int .i64 ot) undef), (26, cond (D 9) (.pointer (some ⟨OW, 0, none⟩)) undef), (27, cond (D 10) (.pointer (some ⟨P, 0, none⟩)) undef), (28, cond (D 11) (.pointer (some ⟨P, 8, none⟩)) undef)] ∧ (D 12 = true → D 9 = true) ∧ Sx bs w0 w' ([(P, cond (D 12) [.int .i64 sl, .int .i64 ky, .int .u64 (sn : Nat), .int .u64 (s : Nat), ov, .int .i64 ot, pg, .pointer (some ⟨J, 0, none⟩), .pointer (some ⟨OW, 0, none⟩), pl, .func (.func 144) #[.pointer (some ⟨P, 0, none⟩)] #[], .int .i64 ft] [.int .i64 sl, .int .i64 ky, .int .u64 (sn : Nat), .int .u64 (s : Nat), ov, .int .i64 ot, pg, .pointer (some ⟨J, 0, none⟩), po, pl, .func (.func 144) #[.pointer (some ⟨P, 0, none⟩)] #[], .int .i64 ft]), (B, memL c C O.m), (C, rowW O.m.ws c.n), (L, [lv]), (J, jnL x 1 sl sn O)] ++ cond (D 9) [(OW, owL sl 0 ot (Um.lnew O.m))] []) e) (by kernel_rfl) (by kernel_rfl) ?start ?steps ?ends
  case start => exact ⟨0, rfl, (fun h => by cases h), hS.drew⟩
  case steps =>
    intro i o hi D ts' w' hD hpre hI
    obtain ⟨OW, rfl, hz, hS⟩ := hI
    dsimp only [putS, List.set]
    match i, hi with
    | 0, hi =>
      cases hi
      refine wpOp_step rfl (fun K hK => ?_)
      refine stp_val rfl (yif_by rfl _ (fun w => by go_simp; first | done | exact rfl)) rfl ?_
      exact hK _ _ ⟨_, rfl, OW, rfl, hz, hS⟩
    | 1, hi =>
      cases hi
      refine wpOp_step rfl (fun K hK => ?_)
      refine stp_val rfl (yif_by rfl _ (fun w => by go_simp; first | done | exact rfl)) rfl ?_
      exact hK _ _ ⟨_, rfl, OW, rfl, hz, hS⟩
    | 2, hi =>
      cases hi
      have d1 : D 1 = true := og_pre hpre (by kernel_rfl)
      refine wpOp_step rfl (fun K hK => ?_)
      refine stp_val rfl (yif_by rfl _ (fun w => by simp only [d1, cond_true]; go_simp; first | done | exact rfl)) rfl ?_
      exact hK _ _ ⟨_, rfl, OW, rfl, hz, hS⟩
    | 3, hi =>
      cases hi
      have d2 : D 2 = true := og_pre hpre (by kernel_rfl)
      refine wpOp_step rfl (fun K hK => ?_)
      refine stp_val rfl (yif_by rfl _ (fun w => by simp only [d2, cond_true]; go_simp; first | done | exact rfl)) rfl ?_
      exact hK _ _ ⟨_, rfl, OW, rfl, hz, hS⟩
    | 4, hi =>
      cases hi
      have d3 : D 3 = true := og_pre hpre (by kernel_rfl)
      refine wpOp_step rfl (fun K hK => ?_)
      refine stp_val rfl (by refine yif_load1 (S := fun q => q = w') rfl _ (.tmp 20) rfl P 0 ?_ _ (fun _ h => h ▸ hS.get 0 rfl) (one_any2 rfl) (.int .i64 sl) (by cases D 12 <;> rfl); exact cond_at d3 rfl) rfl ?_
      exact hK _ _ ⟨_, rfl, OW, rfl, hz, hS⟩
    | 5, hi =>
      cases hi
      refine wpOp_step rfl (fun K hK => ?_)
      refine stp_val rfl (yif_by rfl _ (fun w => by go_simp; first | done | exact rfl)) rfl ?_
      exact hK _ _ ⟨_, rfl, OW, rfl, hz, hS⟩
    | 6, hi =>
      cases hi
      have d5 : D 5 = true := og_pre hpre (by kernel_rfl)
      refine wpOp_step rfl (fun K hK => ?_)
      refine stp_val rfl (yif_by rfl _ (fun w => by simp only [d5, cond_true]; go_simp; first | done | exact rfl)) rfl ?_
      exact hK _ _ ⟨_, rfl, OW, rfl, hz, hS⟩
    | 7, hi =>
      cases hi
      have d6 : D 6 = true := og_pre hpre (by kernel_rfl)
      refine wpOp_step rfl (fun K hK => ?_)
      refine stp_val rfl (yif_by rfl _ (fun w => by simp only [d6, cond_true]; go_simp; first | done | exact rfl)) rfl ?_
      exact hK _ _ ⟨_, rfl, OW, rfl, hz, hS⟩
    | 8, hi =>
      cases hi
      have d7 : D 7 = true := og_pre hpre (by kernel_rfl)
      refine wpOp_step rfl (fun K hK => ?_)
      refine stp_val rfl (by refine yif_load1 (S := fun q => q = w') rfl _ (.tmp 24) rfl P 5 ?_ _ (fun _ h => h ▸ hS.get 0 rfl) (one_any2 rfl) (.int .i64 ot) (by cases D 12 <;> rfl); exact cond_at d7 rfl) rfl ?_
      exact hK _ _ ⟨_, rfl, OW, rfl, hz, hS⟩
    | 9, hi =>
      cases hi
      have d4 : D 4 = true := og_pre hpre (by kernel_rfl)
      have d8 : D 8 = true := og_pre hpre (by kernel_rfl)
      refine wpOp_step rfl (fun K hK => ?_)
      refine stp_call rfl _ _ _ rfl egNo12 _ (list3_eq (cond_at d4 rfl) rfl (cond_at d8 rfl)) _ rfl ?_
      have z0 := og_not hz hD
      simp only [z0, hD, cond_false, List.append_nil] at hS
      refine (onew_any hS sl 0 ot O.m).mono ?_
      rintro r u ⟨OW, rfl, hS2⟩
      refine ⟨_, rfl, hK _ _ ⟨_, rfl, OW, rfl, (fun _ => rfl), ?_⟩⟩
      show Sx _ _ _ ([(P, cond (D 12) _ _), _, _, _, _] ++ [(OW, _)]) _
      rw [z0]
      exact hS2
    | 10, hi =>
      cases hi
      have d0 : D 0 = true := og_pre hpre (by kernel_rfl)
      refine wpOp_step rfl (fun K hK => ?_)
      refine stp_val rfl (yif_by rfl _ (fun w => by simp only [d0, cond_true]; go_simp; first | done | exact rfl)) rfl ?_
      exact hK _ _ ⟨_, rfl, OW, rfl, hz, hS⟩
    | 11, hi =>
      cases hi
      have d10 : D 10 = true := og_pre hpre (by kernel_rfl)
      refine wpOp_step rfl (fun K hK => ?_)
      refine stp_val rfl (yif_by rfl _ (fun w => by simp only [d10, cond_true]; go_simp; first | done | exact rfl)) rfl ?_
      exact hK _ _ ⟨_, rfl, OW, rfl, hz, hS⟩
    | 12, hi =>
      cases hi
      have d9 : D 9 = true := og_pre hpre (by kernel_rfl)
      have d11 : D 11 = true := og_pre hpre (by kernel_rfl)
      refine wpOp_step rfl (fun K hK => ?_)
      simp only [hD, cond_false] at hS
      refine stx_store hS 0 rfl _ _ _ rfl _ _ (cond_at d11 rfl) _ rfl _ (cond_at d9 rfl) _ rfl _ (siz_any2 rfl) (by exact rfl) (by exact rfl) (by exact rfl) rfl ?_
      intro u hS'
      exact hK _ _ ⟨_, rfl, OW, rfl, (fun _ => d9), hS'⟩
    | i + 13, hi => simp at hi
  case ends =>
    intro D ts' w' hall hI
    obtain ⟨OW, rfl, hz, hS⟩ := hI
    have d0 : D 0 = true := hall 0 (by decide)
    have d1 : D 1 = true := hall 1 (by decide)
    have d2 : D 2 = true := hall 2 (by decide)
    have d3 : D 3 = true := hall 3 (by decide)
    have d4 : D 4 = true := hall 4 (by decide)
    have d5 : D 5 = true := hall 5 (by decide)
    have d6 : D 6 = true := hall 6 (by decide)
    have d7 : D 7 = true := hall 7 (by decide)
    have d8 : D 8 = true := hall 8 (by decide)
    have d9 : D 9 = true := hall 9 (by decide)
    have d10 : D 10 = true := hall 10 (by decide)
    have d11 : D 11 = true := hall 11 (by decide)
    have d12 : D 12 = true := hall 12 (by decide)
    simp only [d9, d12, cond_true] at hS
    dsimp only [putS, List.set]
    simp only [d0, d1, d2, d3, d4, d5, d6, d7, d8, d9, d10, d11, cond_true]
    clear hall d0 d1 d2 d3 d4 d5 d6 d7 d8 d9 d10 d11 d12 hz
    go_wp2_with (first | (refine ybox hS (h := ?_); clear hS; intro _ _ hS) | (refine yall hS (h := ?_); clear hS; intro _ _ hS) | refine yld hS (h := ?_) | (refine yst hS (h := ?_); clear hS; intro _ hS))
    first | go_end0 | ((try simp only [Exit.inBlock, Exit.then]); refine bodyPost_ret (results_none rfl _ _ _) rfl ?_)
    exact ⟨OW, rfl, unhide HOK, hS⟩
set_option maxHeartbeats 4000000 in
theorem rJoin_1 {J : Nat} {x : Int} {j O : Um.Js} {a : Option Addr} {nn cap : Nat} {xs : List Int} (hS : Sx bs w0 w [(P, [.int .i64 sl, .int .i64 ky, .int .u64 (sn : Nat), .int .u64 (s : Nat), .func (.func 140) #[] #[.pointer (some ⟨L, 0, none⟩)], .int .i64 ot, pg, .pointer (some ⟨J, 0, none⟩), po, pl, .func (.func 144) #[.pointer (some ⟨P, 0, none⟩)] #[], .int .i64 ft]), (B, memL c C j.m), (C, rowW j.m.ws c.n), (L, [.slice a nn cap]), (J, jnL x 1 sl sn j)] e) (hr : c.r = true) (hO : O = Um.jstep c x 1 sl sn j) (ho : Um.Jok c j) (hx : -9223372036854775808 ≤ x ∧ x ≤ 9223372036854775807) (hI : ∀ W', (∀ p ∈ e, BlkAt W' p.1 p.2) → IsRow W' (.slice a nn cap) xs) (h : O.r = 1) :
    Calls Tryz.prog 144 #[.pointer (some ⟨P, 0, none⟩), .pointer (some ⟨B, 0, none⟩)] w fun r w' => ∃ cs ls X xc, r = .returned (.tuple #[]) ∧ AnP P L sl ky sn s O.m e xs cs ls X xc ∧ Um.Jok c O ∧ Sx bs w0 w' [(P, cs), (B, memL c C O.m), (C, rowW O.m.ws c.n), (L, ls), (J, jnL x 1 sl sn O), (X, xc)] e := by
  have HIR := hide hI
  clear hI
  have HR := hide hr
  have HO := hide hO
  have HJ := hide ho
  have HX := hide hx
  have HRR := hide h
  clear hr hO ho hx h
  go_enter Tryz.func144, Tryz.ntmps144
  go_wp2_with (first | (refine ybox hS (h := ?_); clear hS; intro _ _ hS) | (refine yall hS (h := ?_); clear hS; intro _ _ hS) | refine yld hS (h := ?_) | (refine yst hS (h := ?_); clear hS; intro _ hS))
  refine (jStep_any (sl := x) (sd := 1) (b := sl) (sn := sn) hS 1 2 4 j O (unhide HO) rfl rfl rfl (by decide) (by decide) (by decide) (unhide HR) (unhide HJ) (unhide HX).1 (unhide HX).2 (by decide) (by decide)).mono ?_
  rintro r u ⟨rfl, hOn, hSn⟩
  clear hS
  have hS := hSn
  clear hSn
  dsimp only [putL, List.set, List.cons_append, List.nil_append] at hS
  have HOK := hide hOn
  clear hOn
  go_wp2_with (first | (refine ybox hS (h := ?_); clear hS; intro _ _ hS) | (refine yall hS (h := ?_); clear hS; intro _ _ hS) | refine yld hS (h := ?_) | (refine yst hS (h := ?_); clear hS; intro _ hS))
  refine (jRes_any (o := O) (hS.get 4 rfl)).mono ?_
  rintro r u ⟨rfl, rfl⟩
  rw [show ((O.r : Nat) : Int) = 1 by rw [unhide HRR]; rfl]
  go_wp2_with (first | (refine ybox hS (h := ?_); clear hS; intro _ _ hS) | (refine yall hS (h := ?_); clear hS; intro _ _ hS) | refine yld hS (h := ?_) | (refine yst hS (h := ?_); clear hS; intro _ hS))
  refine (rAnother_any hS 0 3 rfl rfl (by decide) O.m (unhide HIR)).mono ?_
  rintro r u ⟨cs, ls, X, xc, rfl, hA, hSn⟩
  clear hS
  have hS := hSn
  clear hSn
  dsimp only [putL, List.set, List.cons_append, List.nil_append] at hS
  go_wp2_with fail
  first | go_end0 | ((try simp only [Exit.inBlock, Exit.then]); refine bodyPost_ret (results_none rfl _ _ _) rfl ?_)
  exact ⟨cs, ls, X, xc, rfl, hA, unhide HOK, hS⟩
set_option maxHeartbeats 4000000 in
theorem rOwn_0 {OW : Nat} {x : Int} {v O : Um.Ls} {a : Option Addr} {nn cap : Nat} {xs : List Int} (hS : Sx bs w0 w [(P, [.int .i64 sl, .int .i64 ky, .int .u64 (sn : Nat), .int .u64 (s : Nat), .func (.func 140) #[] #[.pointer (some ⟨L, 0, none⟩)], .int .i64 ot, pg, pj, .pointer (some ⟨OW, 0, none⟩), pl, .func (.func 152) #[.pointer (some ⟨P, 0, none⟩)] #[], .int .i64 ft]), (B, memL c C v.m), (C, rowW v.m.ws c.n), (L, [.slice a nn cap]), (OW, owL sl 0 x v)] e) (hr : c.r = true) (hO : O = Um.wstep c sl 0 x v) (ho : Um.Lok c v) (hb : -9223372036854775808 ≤ sl ∧ sl ≤ 9223372036854775807) (h : O.dn = false) :
    Calls Tryz.prog 152 #[.pointer (some ⟨P, 0, none⟩), .pointer (some ⟨B, 0, none⟩)] w fun r w' => r = .returned (.tuple #[]) ∧ Um.Lok c O ∧ Sx bs w0 w' [(P, [.int .i64 sl, .int .i64 ky, .int .u64 (sn : Nat), .int .u64 (s : Nat), .func (.func 140) #[] #[.pointer (some ⟨L, 0, none⟩)], .int .i64 ot, pg, pj, .pointer (some ⟨OW, 0, none⟩), pl, .func (.func 152) #[.pointer (some ⟨P, 0, none⟩)] #[], .int .i64 ft]), (B, memL c C O.m), (C, rowW O.m.ws c.n), (L, [.slice a nn cap]), (OW, owL sl 0 x O)] e := by
  have HR := hide hr
  have HO := hide hO
  have HL := hide ho
  have HBD := hide hb
  have HDD := hide h
  clear hr hO ho hb h
  go_enter Tryz.func152, Tryz.ntmps152
  go_wp2_with (first | (refine ybox hS (h := ?_); clear hS; intro _ _ hS) | (refine yall hS (h := ?_); clear hS; intro _ _ hS) | refine yld hS (h := ?_) | (refine yst hS (h := ?_); clear hS; intro _ hS))
  refine (oStep_any (sl := sl) (sd := 0) (b := x) hS 1 2 4 v O (unhide HO) rfl rfl rfl (by decide) (by decide) (by decide) (unhide HR) (unhide HL) (unhide HBD).1 (unhide HBD).2).mono ?_
  rintro r u ⟨rfl, hOn, hSn⟩
  clear hS
  have hS := hSn
  clear hSn
  dsimp only [putL, List.set, List.cons_append, List.nil_append] at hS
  have HOK := hide hOn
  clear hOn
  go_wp2_with (first | (refine ybox hS (h := ?_); clear hS; intro _ _ hS) | (refine yall hS (h := ?_); clear hS; intro _ _ hS) | refine yld hS (h := ?_) | (refine yst hS (h := ?_); clear hS; intro _ hS))
  refine (oDone_any (o := O) (hS.get 4 rfl)).mono ?_
  rintro r u ⟨rfl, rfl⟩
  rw [unhide HDD]
  go_wp2_with (first | (refine ybox hS (h := ?_); clear hS; intro _ _ hS) | (refine yall hS (h := ?_); clear hS; intro _ _ hS) | refine yld hS (h := ?_) | (refine yst hS (h := ?_); clear hS; intro _ hS))
  first | go_end0 | ((try simp only [Exit.inBlock, Exit.then]); refine bodyPost_ret (results_none rfl _ _ _) rfl ?_)
  exact ⟨rfl, unhide HOK, hS⟩
set_option maxHeartbeats 4000000 in
theorem rOwn_1 {OW : Nat} {x : Int} {v O : Um.Ls} {a : Option Addr} {nn cap : Nat} {xs : List Int} (hS : Sx bs w0 w [(P, [.int .i64 sl, .int .i64 ky, .int .u64 (sn : Nat), .int .u64 (s : Nat), .func (.func 140) #[] #[.pointer (some ⟨L, 0, none⟩)], .int .i64 ot, pg, pj, .pointer (some ⟨OW, 0, none⟩), pl, .func (.func 152) #[.pointer (some ⟨P, 0, none⟩)] #[], .int .i64 ft]), (B, memL c C v.m), (C, rowW v.m.ws c.n), (L, [.slice a nn cap]), (OW, owL sl 0 x v)] e) (hr : c.r = true) (hO : O = Um.wstep c sl 0 x v) (ho : Um.Lok c v) (hb : -9223372036854775808 ≤ sl ∧ sl ≤ 9223372036854775807) (hI : ∀ W', (∀ p ∈ e, BlkAt W' p.1 p.2) → IsRow W' (.slice a nn cap) xs) (h : O.dn = true) :
    Calls Tryz.prog 152 #[.pointer (some ⟨P, 0, none⟩), .pointer (some ⟨B, 0, none⟩)] w fun r w' => ∃ cs ls X xc, r = .returned (.tuple #[]) ∧ AnP P L sl ky sn s O.m e xs cs ls X xc ∧ Um.Lok c O ∧ Sx bs w0 w' [(P, cs), (B, memL c C O.m), (C, rowW O.m.ws c.n), (L, ls), (OW, owL sl 0 x O), (X, xc)] e := by
  have HIR := hide hI
  clear hI
  have HR := hide hr
  have HO := hide hO
  have HL := hide ho
  have HBD := hide hb
  have HDD := hide h
  clear hr hO ho hb h
  go_enter Tryz.func152, Tryz.ntmps152
  go_wp2_with (first | (refine ybox hS (h := ?_); clear hS; intro _ _ hS) | (refine yall hS (h := ?_); clear hS; intro _ _ hS) | refine yld hS (h := ?_) | (refine yst hS (h := ?_); clear hS; intro _ hS))
  refine (oStep_any (sl := sl) (sd := 0) (b := x) hS 1 2 4 v O (unhide HO) rfl rfl rfl (by decide) (by decide) (by decide) (unhide HR) (unhide HL) (unhide HBD).1 (unhide HBD).2).mono ?_
  rintro r u ⟨rfl, hOn, hSn⟩
  clear hS
  have hS := hSn
  clear hSn
  dsimp only [putL, List.set, List.cons_append, List.nil_append] at hS
  have HOK := hide hOn
  clear hOn
  go_wp2_with (first | (refine ybox hS (h := ?_); clear hS; intro _ _ hS) | (refine yall hS (h := ?_); clear hS; intro _ _ hS) | refine yld hS (h := ?_) | (refine yst hS (h := ?_); clear hS; intro _ hS))
  refine (oDone_any (o := O) (hS.get 4 rfl)).mono ?_
  rintro r u ⟨rfl, rfl⟩
  rw [unhide HDD]
  go_wp2_with (first | (refine ybox hS (h := ?_); clear hS; intro _ _ hS) | (refine yall hS (h := ?_); clear hS; intro _ _ hS) | refine yld hS (h := ?_) | (refine yst hS (h := ?_); clear hS; intro _ hS))
  refine (rAnother_any hS 0 3 rfl rfl (by decide) O.m (unhide HIR)).mono ?_
  rintro r u ⟨cs, ls, X, xc, rfl, hA, hSn⟩
  clear hS
  have hS := hSn
  clear hSn
  dsimp only [putL, List.set, List.cons_append, List.nil_append] at hS
  go_wp2_with fail
  first | go_end0 | ((try simp only [Exit.inBlock, Exit.then]); refine bodyPost_ret (results_none rfl _ _ _) rfl ?_)
  exact ⟨cs, ls, X, xc, rfl, hA, unhide HOK, hS⟩
set_option maxHeartbeats 4000000 in
theorem rLeave_0 {V : Nat} {st : Int} {v O : Um.Ls} (hS : Sx bs w0 w [(P, [.int .i64 sl, .int .i64 ky, .int .u64 (sn : Nat), .int .u64 (s : Nat), ov, .int .i64 ot, pg, pj, po, .pointer (some ⟨V, 0, none⟩), .func (.func 147) #[.pointer (some ⟨P, 0, none⟩)] #[], .int .i64 ft]), (B, memL c C v.m), (C, rowW v.m.ws c.n), (V, leaL V sl st v)] e) (hr : c.r = true) (hO : O = Um.lstep c sl st v) (ho : Um.Lok c v) (hb : -9223372036854775808 ≤ sl ∧ sl ≤ 9223372036854775807) (h : O.dn = false) :
    Calls Tryz.prog 147 #[.pointer (some ⟨P, 0, none⟩), .pointer (some ⟨B, 0, none⟩)] w fun r w' => r = .returned (.tuple #[]) ∧ Um.Lok c O ∧ Sx bs w0 w' [(P, [.int .i64 sl, .int .i64 ky, .int .u64 (sn : Nat), .int .u64 (s : Nat), ov, .int .i64 ot, pg, pj, po, .pointer (some ⟨V, 0, none⟩), .func (.func 147) #[.pointer (some ⟨P, 0, none⟩)] #[], .int .i64 ft]), (B, memL c C O.m), (C, rowW O.m.ws c.n), (V, leaL V sl st O)] e := by
  have HR := hide hr
  have HO := hide hO
  have HL := hide ho
  have HBD := hide hb
  have HDD := hide h
  clear hr hO ho hb h
  go_enter Tryz.func147, Tryz.ntmps147
  go_wp2_with (first | (refine ybox hS (h := ?_); clear hS; intro _ _ hS) | (refine yall hS (h := ?_); clear hS; intro _ _ hS) | refine yld hS (h := ?_) | (refine yst hS (h := ?_); clear hS; intro _ hS))
  refine (lStep_any (sl := sl) (st := st) hS 1 2 3 v O (unhide HO) rfl rfl rfl (by decide) (by decide) (by decide) (unhide HR) (unhide HL) (unhide HBD).1 (unhide HBD).2).mono ?_
  rintro r u ⟨rfl, hOn, hSn⟩
  clear hS
  have hS := hSn
  clear hSn
  dsimp only [putL, List.set, List.cons_append, List.nil_append] at hS
  have HOK := hide hOn
  clear hOn
  go_wp2_with (first | (refine ybox hS (h := ?_); clear hS; intro _ _ hS) | (refine yall hS (h := ?_); clear hS; intro _ _ hS) | refine yld hS (h := ?_) | (refine yst hS (h := ?_); clear hS; intro _ hS))
  refine (lDone_any (o := O) (hS.get 3 rfl)).mono ?_
  rintro r u ⟨rfl, rfl⟩
  rw [unhide HDD]
  go_wp2_with (first | (refine ybox hS (h := ?_); clear hS; intro _ _ hS) | (refine yall hS (h := ?_); clear hS; intro _ _ hS) | refine yld hS (h := ?_) | (refine yst hS (h := ?_); clear hS; intro _ hS))
  first | go_end0 | ((try simp only [Exit.inBlock, Exit.then]); refine bodyPost_ret (results_none rfl _ _ _) rfl ?_)
  exact ⟨rfl, unhide HOK, hS⟩
set_option maxHeartbeats 4000000 in
theorem rLeave_1 {V : Nat} {st : Int} {v O : Um.Ls} (hS : Sx bs w0 w [(P, [.int .i64 sl, .int .i64 ky, .int .u64 (sn : Nat), .int .u64 (s : Nat), ov, .int .i64 ot, pg, pj, po, .pointer (some ⟨V, 0, none⟩), .func (.func 147) #[.pointer (some ⟨P, 0, none⟩)] #[], .int .i64 ft]), (B, memL c C v.m), (C, rowW v.m.ws c.n), (V, leaL V sl st v)] e) (hr : c.r = true) (hO : O = Um.lstep c sl st v) (ho : Um.Lok c v) (hb : -9223372036854775808 ≤ sl ∧ sl ≤ 9223372036854775807) (h : O.dn = true) :
    Calls Tryz.prog 147 #[.pointer (some ⟨P, 0, none⟩), .pointer (some ⟨B, 0, none⟩)] w fun r w' => r = .returned (.tuple #[]) ∧ Um.Lok c O ∧ Sx bs w0 w' [(P, [.int .i64 sl, .int .i64 ky, .int .u64 (sn : Nat), .int .u64 (s : Nat), ov, .int .i64 ot, pg, pj, po, .pointer (some ⟨V, 0, none⟩), .nilFunc, .int .i64 ft]), (B, memL c C O.m), (C, rowW O.m.ws c.n), (V, leaL V sl st O)] e := by
  have HR := hide hr
  have HO := hide hO
  have HL := hide ho
  have HBD := hide hb
  have HDD := hide h
  clear hr hO ho hb h
  go_enter Tryz.func147, Tryz.ntmps147
  go_wp2_with (first | (refine ybox hS (h := ?_); clear hS; intro _ _ hS) | (refine yall hS (h := ?_); clear hS; intro _ _ hS) | refine yld hS (h := ?_) | (refine yst hS (h := ?_); clear hS; intro _ hS))
  refine (lStep_any (sl := sl) (st := st) hS 1 2 3 v O (unhide HO) rfl rfl rfl (by decide) (by decide) (by decide) (unhide HR) (unhide HL) (unhide HBD).1 (unhide HBD).2).mono ?_
  rintro r u ⟨rfl, hOn, hSn⟩
  clear hS
  have hS := hSn
  clear hSn
  dsimp only [putL, List.set, List.cons_append, List.nil_append] at hS
  have HOK := hide hOn
  clear hOn
  go_wp2_with (first | (refine ybox hS (h := ?_); clear hS; intro _ _ hS) | (refine yall hS (h := ?_); clear hS; intro _ _ hS) | refine yld hS (h := ?_) | (refine yst hS (h := ?_); clear hS; intro _ hS))
  refine (lDone_any (o := O) (hS.get 3 rfl)).mono ?_
  rintro r u ⟨rfl, rfl⟩
  rw [unhide HDD]
  go_wp2_with (first | (refine ybox hS (h := ?_); clear hS; intro _ _ hS) | (refine yall hS (h := ?_); clear hS; intro _ _ hS) | refine yld hS (h := ?_) | (refine yst hS (h := ?_); clear hS; intro _ hS))
  first | go_end0 | ((try simp only [Exit.inBlock, Exit.then]); refine bodyPost_ret (results_none rfl _ _ _) rfl ?_)
  exact ⟨rfl, unhide HOK, hS⟩
set_option maxHeartbeats 2000000 in
theorem rStep_enter {Q : World → Prop} (hB : BlkAt w P [.int .i64 sl, .int .i64 ky, .int .u64 (sn : Nat), .int .u64 (s : Nat), ov, .int .i64 ot, pg, pj, po, pl, .func (.func 45) #[.pointer (some ⟨P, 0, none⟩)] #[], .int .i64 ft]) (hC : Calls Tryz.prog 45 #[.pointer (some ⟨P, 0, none⟩), .pointer (some ⟨B, 0, none⟩)] w fun r w' => r = .returned (.tuple #[]) ∧ Q w') :
    Calls Tryz.prog 17 #[.pointer (some ⟨P, 0, none⟩), .pointer (some ⟨B, 0, none⟩)] w fun r w' => r = .returned (.tuple #[]) ∧ Q w' := by
  have h2 := hB.cell 10 _ rfl
  have HD := hide (rDone_f _ _ _ hB rfl)
  have HC := hide hC
  clear hB hC
  go_enter Tryz.func17, Tryz.ntmps17
  go_wp2_with fail
  refine (unhide HD).mono ?_
  rintro r u ⟨rfl, rfl⟩
  go_wp2_with fail
  refine (unhide HC).mono ?_
  rintro r u ⟨rfl, hQ⟩
  have H2 := hide hQ
  clear hQ h2 HC HD
  go_wp2
  go_end0
  exact ⟨rfl, unhide H2⟩
set_option maxHeartbeats 2000000 in
theorem rStep_snapshot {Q : World → Prop} (hB : BlkAt w P [.int .i64 sl, .int .i64 ky, .int .u64 (sn : Nat), .int .u64 (s : Nat), ov, .int .i64 ot, pg, pj, po, pl, .func (.func 89) #[.pointer (some ⟨P, 0, none⟩)] #[], .int .i64 ft]) (hC : Calls Tryz.prog 89 #[.pointer (some ⟨P, 0, none⟩), .pointer (some ⟨B, 0, none⟩)] w fun r w' => r = .returned (.tuple #[]) ∧ Q w') :
    Calls Tryz.prog 17 #[.pointer (some ⟨P, 0, none⟩), .pointer (some ⟨B, 0, none⟩)] w fun r w' => r = .returned (.tuple #[]) ∧ Q w' := by
  have h2 := hB.cell 10 _ rfl
  have HD := hide (rDone_f _ _ _ hB rfl)
  have HC := hide hC
  clear hB hC
  go_enter Tryz.func17, Tryz.ntmps17
  go_wp2_with fail
  refine (unhide HD).mono ?_
  rintro r u ⟨rfl, rfl⟩
  go_wp2_with fail
  refine (unhide HC).mono ?_
  rintro r u ⟨rfl, hQ⟩
  have H2 := hide hQ
  clear hQ h2 HC HD
  go_wp2
  go_end0
  exact ⟨rfl, unhide H2⟩
set_option maxHeartbeats 2000000 in
theorem rStep_look {Q : World → Prop} (hB : BlkAt w P [.int .i64 sl, .int .i64 ky, .int .u64 (sn : Nat), .int .u64 (s : Nat), ov, .int .i64 ot, pg, pj, po, pl, .func (.func 105) #[.pointer (some ⟨P, 0, none⟩)] #[], .int .i64 ft]) (hC : Calls Tryz.prog 105 #[.pointer (some ⟨P, 0, none⟩), .pointer (some ⟨B, 0, none⟩)] w fun r w' => r = .returned (.tuple #[]) ∧ Q w') :
    Calls Tryz.prog 17 #[.pointer (some ⟨P, 0, none⟩), .pointer (some ⟨B, 0, none⟩)] w fun r w' => r = .returned (.tuple #[]) ∧ Q w' := by
  have h2 := hB.cell 10 _ rfl
  have HD := hide (rDone_f _ _ _ hB rfl)
  have HC := hide hC
  clear hB hC
  go_enter Tryz.func17, Tryz.ntmps17
  go_wp2_with fail
  refine (unhide HD).mono ?_
  rintro r u ⟨rfl, rfl⟩
  go_wp2_with fail
  refine (unhide HC).mono ?_
  rintro r u ⟨rfl, hQ⟩
  have H2 := hide hQ
  clear hQ h2 HC HD
  go_wp2
  go_end0
  exact ⟨rfl, unhide H2⟩
set_option maxHeartbeats 2000000 in
theorem rStep_mark {Q : World → Prop} (hB : BlkAt w P [.int .i64 sl, .int .i64 ky, .int .u64 (sn : Nat), .int .u64 (s : Nat), ov, .int .i64 ot, pg, pj, po, pl, .func (.func 127) #[.pointer (some ⟨P, 0, none⟩)] #[], .int .i64 ft]) (hC : Calls Tryz.prog 127 #[.pointer (some ⟨P, 0, none⟩), .pointer (some ⟨B, 0, none⟩)] w fun r w' => r = .returned (.tuple #[]) ∧ Q w') :
    Calls Tryz.prog 17 #[.pointer (some ⟨P, 0, none⟩), .pointer (some ⟨B, 0, none⟩)] w fun r w' => r = .returned (.tuple #[]) ∧ Q w' := by
  have h2 := hB.cell 10 _ rfl
  have HD := hide (rDone_f _ _ _ hB rfl)
  have HC := hide hC
  clear hB hC
  go_enter Tryz.func17, Tryz.ntmps17
  go_wp2_with fail
  refine (unhide HD).mono ?_
  rintro r u ⟨rfl, rfl⟩
  go_wp2_with fail
  refine (unhide HC).mono ?_
  rintro r u ⟨rfl, hQ⟩
  have H2 := hide hQ
  clear hQ h2 HC HD
  go_wp2
  go_end0
  exact ⟨rfl, unhide H2⟩
set_option maxHeartbeats 2000000 in
theorem rStep_join {Q : World → Prop} (hB : BlkAt w P [.int .i64 sl, .int .i64 ky, .int .u64 (sn : Nat), .int .u64 (s : Nat), ov, .int .i64 ot, pg, pj, po, pl, .func (.func 144) #[.pointer (some ⟨P, 0, none⟩)] #[], .int .i64 ft]) (hC : Calls Tryz.prog 144 #[.pointer (some ⟨P, 0, none⟩), .pointer (some ⟨B, 0, none⟩)] w fun r w' => r = .returned (.tuple #[]) ∧ Q w') :
    Calls Tryz.prog 17 #[.pointer (some ⟨P, 0, none⟩), .pointer (some ⟨B, 0, none⟩)] w fun r w' => r = .returned (.tuple #[]) ∧ Q w' := by
  have h2 := hB.cell 10 _ rfl
  have HD := hide (rDone_f _ _ _ hB rfl)
  have HC := hide hC
  clear hB hC
  go_enter Tryz.func17, Tryz.ntmps17
  go_wp2_with fail
  refine (unhide HD).mono ?_
  rintro r u ⟨rfl, rfl⟩
  go_wp2_with fail
  refine (unhide HC).mono ?_
  rintro r u ⟨rfl, hQ⟩
  have H2 := hide hQ
  clear hQ h2 HC HD
  go_wp2
  go_end0
  exact ⟨rfl, unhide H2⟩
set_option maxHeartbeats 2000000 in
theorem rStep_own {Q : World → Prop} (hB : BlkAt w P [.int .i64 sl, .int .i64 ky, .int .u64 (sn : Nat), .int .u64 (s : Nat), ov, .int .i64 ot, pg, pj, po, pl, .func (.func 152) #[.pointer (some ⟨P, 0, none⟩)] #[], .int .i64 ft]) (hC : Calls Tryz.prog 152 #[.pointer (some ⟨P, 0, none⟩), .pointer (some ⟨B, 0, none⟩)] w fun r w' => r = .returned (.tuple #[]) ∧ Q w') :
    Calls Tryz.prog 17 #[.pointer (some ⟨P, 0, none⟩), .pointer (some ⟨B, 0, none⟩)] w fun r w' => r = .returned (.tuple #[]) ∧ Q w' := by
  have h2 := hB.cell 10 _ rfl
  have HD := hide (rDone_f _ _ _ hB rfl)
  have HC := hide hC
  clear hB hC
  go_enter Tryz.func17, Tryz.ntmps17
  go_wp2_with fail
  refine (unhide HD).mono ?_
  rintro r u ⟨rfl, rfl⟩
  go_wp2_with fail
  refine (unhide HC).mono ?_
  rintro r u ⟨rfl, hQ⟩
  have H2 := hide hQ
  clear hQ h2 HC HD
  go_wp2
  go_end0
  exact ⟨rfl, unhide H2⟩
set_option maxHeartbeats 2000000 in
theorem rStep_leave {Q : World → Prop} (hB : BlkAt w P [.int .i64 sl, .int .i64 ky, .int .u64 (sn : Nat), .int .u64 (s : Nat), ov, .int .i64 ot, pg, pj, po, pl, .func (.func 147) #[.pointer (some ⟨P, 0, none⟩)] #[], .int .i64 ft]) (hC : Calls Tryz.prog 147 #[.pointer (some ⟨P, 0, none⟩), .pointer (some ⟨B, 0, none⟩)] w fun r w' => r = .returned (.tuple #[]) ∧ Q w') :
    Calls Tryz.prog 17 #[.pointer (some ⟨P, 0, none⟩), .pointer (some ⟨B, 0, none⟩)] w fun r w' => r = .returned (.tuple #[]) ∧ Q w' := by
  have h2 := hB.cell 10 _ rfl
  have HD := hide (rDone_f _ _ _ hB rfl)
  have HC := hide hC
  clear hB hC
  go_enter Tryz.func17, Tryz.ntmps17
  go_wp2_with fail
  refine (unhide HD).mono ?_
  rintro r u ⟨rfl, rfl⟩
  go_wp2_with fail
  refine (unhide HC).mono ?_
  rintro r u ⟨rfl, hQ⟩
  have H2 := hide hQ
  clear hQ h2 HC HD
  go_wp2
  go_end0
  exact ⟨rfl, unhide H2⟩
set_option maxHeartbeats 1000000 in
theorem rStep_done {cs : List Value} (hB : BlkAt w P cs) (hc : cs[10]? = some .nilFunc) (b : Value) : Calls Tryz.prog 17 #[.pointer (some ⟨P, 0, none⟩), b] w fun r w' => r = .returned (.tuple #[]) ∧ w' = w := by
  have HD := hide (rDone_n hB hc)
  clear hB hc
  go_enter Tryz.func17, Tryz.ntmps17
  go_wp2_with fail
  refine (unhide HD).mono ?_
  rintro r u ⟨rfl, rfl⟩
  clear HD
  go_wp2
  go_end0
  exact ⟨rfl, rfl⟩
end
end
end Go.Proofs.YtapgghciieloaaaGreat
namespace Um
set_option maxRecDepth 100000
structure Rd where
  m : Mm
  nx : Nat
  n : Nat
  w : Nat
  ot : List Int
  g : Es
  j : Js
  jp : Int
  ja : Bool
  o : Ls
  op : Int
  oa : Bool
  l : Ls
  lp : Int
  la : Bool
  td : Int
  e : Int
  dn : Bool
def rdlv (o : Rd) (st td : Int) : Rd := { o with l := lnew o.m, lp := st, la := true, td := td, nx := 6 }
def rdgo (o : Rd) : Rd := match o.ot with
  | [] => rdlv o (-1) 0
  | x :: _ => { o with j := jnew o.m, jp := x, ja := true, nx := 4 }
def rdfd (slot : Int) (o : Rd) : Rd := rdgo { o with ot := othersN o.w 1 slot }
def rd0 (o : Rd) (g : Es) : Rd := if g.en = true then { o with m := g.m, g := g, nx := 1, e := g.e, dn := decide (g.e ≠ 0) } else { o with m := g.m, g := g }
def rd1 (o : Rd) (M : Mm) : Rd := { o with m := M, n := M.l.old, nx := 2 }
def rd2 (slot : Int) (o : Rd) (M : Mm) : Rd := if hasN M.l.old 0 slot = true then rdfd slot { o with m := M, w := M.l.old, nx := 3 } else { o with m := M, w := M.l.old, nx := 3 }
def rd3 (slot : Int) (o : Rd) (M : Mm) : Rd := if M.l.done = true then rdfd slot { o with m := M, nx := 2 } else { o with m := M, nx := 2 }
def rd4 (o : Rd) (j : Js) : Rd :=
  if j.r = 1 then rdgo { o with m := j.m, j := j, ot := o.ot.tail }
  else if j.r = 2 then { o with m := j.m, j := j, o := lnew j.m, op := o.jp, oa := true, nx := 5 }
  else if j.r = 3 then rdlv { o with m := j.m, j := j } 5 7
  else { o with m := j.m, j := j }
def rd5 (o : Rd) (w : Ls) : Rd := if w.dn = true then rdgo { o with m := w.m, o := w, ot := o.ot.tail } else { o with m := w.m, o := w }
def rd6 (o : Rd) (l : Ls) : Rd := if l.dn = true then { o with m := l.m, l := l, dn := true, e := o.td } else { o with m := l.m, l := l }
def rdstep (c : Cf) (h : Nat) (inn : Nat → Bool) (key slot : Int) (o : Rd) : Rd :=
  if o.dn = true then o
  else if o.nx = 0 then rd0 o (estep c h inn (setE o.m o.g))
  else if o.nx = 1 then rd1 o (mtouch c o.m 1 5 slot 0 0)
  else if o.nx = 2 then rd2 slot o (mtouch c o.m 1 8 key 0 0)
  else if o.nx = 3 then rd3 slot o (mtouch c o.m 3 8 key o.w (withN o.w 0 slot))
  else if o.nx = 4 then rd4 o (jstep c o.jp 1 slot o.n (setJ o.m o.j))
  else if o.nx = 5 then rd5 o (wstep c slot 0 o.op (setLs o.m o.o))
  else rd6 o (lstep c slot o.lp (setLs o.m o.l))
def rdit (c : Cf) (h : Nat) (inn : Nat → Bool) (key slot : Int) (o : Rd) : Nat → Rd
  | 0 => o
  | k + 1 => rdstep c h inn key slot (rdit c h inn key slot o k)
section
variable {c : Cf} {h : Nat} {inn : Nat → Bool} {key slot : Int}
theorem rdit_add (o : Rd) (a b : Nat) : rdit c h inn key slot o (a + b) = rdit c h inn key slot (rdit c h inn key slot o a) b := by
  induction b with
  | zero => rfl
  | succ b ih => show rdstep c h inn key slot (rdit c h inn key slot o (a + b)) = _; rw [ih]; rfl
theorem rdstep_done {o : Rd} (hd : o.dn = true) : rdstep c h inn key slot o = o := by
  unfold rdstep
  rw [if_pos hd]
theorem rdit_done {o : Rd} {q : Nat} (hd : (rdit c h inn key slot o q).dn = true) {k : Nat} (hk : q ≤ k) : rdit c h inn key slot o k = rdit c h inn key slot o q := by
  obtain ⟨d, rfl⟩ : ∃ d, k = q + d := ⟨k - q, by omega⟩
  clear hk
  induction d with
  | zero => rfl
  | succ d ih =>
    show rdstep c h inn key slot (rdit c h inn key slot o (q + d)) = _
    rw [ih]
    exact rdstep_done hd
def Rch (c : Cf) (h : Nat) (inn : Nat → Bool) (key slot : Int) (o o' : Rd) (B : Nat) : Prop := ∃ k, k ≤ B ∧ rdit c h inn key slot o k = o'
theorem Rch.refl (o : Rd) : Rch c h inn key slot o o 0 := ⟨0, Nat.le_refl _, rfl⟩
theorem Rch.trans {o o' o2 : Rd} {a b : Nat} (h1 : Rch c h inn key slot o o' a) (h2 : Rch c h inn key slot o' o2 b) : Rch c h inn key slot o o2 (a + b) := by
  obtain ⟨k, hk, e1⟩ := h1
  obtain ⟨q, hq, e2⟩ := h2
  exact ⟨k + q, by omega, by rw [rdit_add, e1, e2]⟩
theorem Rch.mono {o o' : Rd} {a b : Nat} (h1 : Rch c h inn key slot o o' a) (hab : a ≤ b) : Rch c h inn key slot o o' b := by
  obtain ⟨k, hk, e1⟩ := h1
  exact ⟨k, by omega, e1⟩
theorem step6 {o : Rd} (hd : o.dn = false) (hn : o.nx = 6) : rdstep c h inn key slot o = rd6 o (lstep c slot o.lp (setLs o.m o.l)) := by
  unfold rdstep
  rw [if_neg (by rw [hd]; decide), if_neg (by omega), if_neg (by omega), if_neg (by omega), if_neg (by omega), if_neg (by omega), if_neg (by omega)]
theorem step5 {o : Rd} (hd : o.dn = false) (hn : o.nx = 5) : rdstep c h inn key slot o = rd5 o (wstep c slot 0 o.op (setLs o.m o.o)) := by
  unfold rdstep
  rw [if_neg (by rw [hd]; decide), if_neg (by omega), if_neg (by omega), if_neg (by omega), if_neg (by omega), if_neg (by omega), if_pos hn]
theorem step4 {o : Rd} (hd : o.dn = false) (hn : o.nx = 4) : rdstep c h inn key slot o = rd4 o (jstep c o.jp 1 slot o.n (setJ o.m o.j)) := by
  unfold rdstep
  rw [if_neg (by rw [hd]; decide), if_neg (by omega), if_neg (by omega), if_neg (by omega), if_neg (by omega), if_pos hn]
theorem step3 {o : Rd} (hd : o.dn = false) (hn : o.nx = 3) : rdstep c h inn key slot o = rd3 slot o (mtouch c o.m 3 8 key o.w (withN o.w 0 slot)) := by
  unfold rdstep
  rw [if_neg (by rw [hd]; decide), if_neg (by omega), if_neg (by omega), if_neg (by omega), if_pos hn]
theorem step2 {o : Rd} (hd : o.dn = false) (hn : o.nx = 2) : rdstep c h inn key slot o = rd2 slot o (mtouch c o.m 1 8 key 0 0) := by
  unfold rdstep
  rw [if_neg (by rw [hd]; decide), if_neg (by omega), if_neg (by omega), if_pos hn]
theorem step1 {o : Rd} (hd : o.dn = false) (hn : o.nx = 1) : rdstep c h inn key slot o = rd1 o (mtouch c o.m 1 5 slot 0 0) := by
  unfold rdstep
  rw [if_neg (by rw [hd]; decide), if_neg (by omega), if_pos hn]
theorem step0 {o : Rd} (hd : o.dn = false) (hn : o.nx = 0) : rdstep c h inn key slot o = rd0 o (estep c h inn (setE o.m o.g)) := by
  unfold rdstep
  rw [if_neg (by rw [hd]; decide), if_pos hn]
def lvw (c : Cf) (slot st : Int) (ws : Nat → Nat) (i : Nat) : Nat := if (i : Int) = c.cl 4 slot then moveN (ws i) (lst st (ws i)) false else ws i
def ownw (c : Cf) (sw slot x : Int) (ws : Nat → Nat) (i : Nat) : Nat := if (i : Int) = c.cl 4 slot then withN (ws i) sw x else ws i
end
end Um
namespace Um
set_option maxRecDepth 100000
def cfl (c : Cf) (so slot : Int) (n : Nat) (ws : Nat → Nat) (x : Int) : Nat := if x < c.s then jtg so slot n (ws (c.cl 4 x).toNat) (ws (c.cl 6 x).toNat) else 1
def othw (c : Cf) (so slot x : Int) (ws : Nat → Nat) (i : Nat) : Nat := if (i : Int) = c.cl 4 x then withN (ws i) so slot else ws i
section
variable {c : Cf} {h : Nat} {inn : Nat → Bool} {key slot : Int}
def rdnew (m : Mm) : Rd := ⟨m, 0, 0, 0, [], enew m, jnew m, 0, false, lnew m, 0, false, lnew m, 0, false, 0, 0, false⟩
def bsw (c : Cf) (slot : Int) (ws : Nat → Nat) (i : Nat) : Nat := if (i : Int) = c.cl 4 slot then bzN (ws i) else ws i
def mkw (c : Cf) (sd key slot : Int) (ws : Nat → Nat) (i : Nat) : Nat := if (i : Int) = c.cl 8 key then withN (ws i) sd slot else ws i
theorem slotsTo_mem {x : Nat} {a : Int} {k : Nat} {y : Int} (hy : y ∈ slotsTo x a k) : 0 ≤ y ∧ y < k := by
  unfold slotsTo at hy
  obtain ⟨j, hj, rfl⟩ := List.mem_map.1 hy
  have := (List.mem_filter.1 hj).1
  have := List.mem_range.1 this
  omega
theorem others_mem {x : Nat} {a s y : Int} (hy : y ∈ othersN x a s) : 0 ≤ y ∧ y ≤ 11 ∧ y ≠ s := by
  unfold othersN at hy
  obtain ⟨h1, h2⟩ := List.mem_filter.1 hy
  have := slotsTo_mem h1
  exact ⟨this.1, by omega, by simpa using h2⟩
end
end Um
namespace Um
set_option maxRecDepth 100000
def layw (c : Cf) (so sw slot x : Int) (ws : Nat → Nat) : Nat → Nat := ownw c sw slot x (othw c so slot x ws)
def layL (c : Cf) (so sw slot : Int) (P : Int → Bool) : (Nat → Nat) → List Int → Nat → Nat
  | ws, [] => ws
  | ws, x :: r => layL c so sw slot P (if P x = true then layw c so sw slot x ws else ws) r
section
variable {c : Cf} {so sw slot : Int} {n : Nat}
end
end Um
namespace Um
set_option maxRecDepth 100000
set_option linter.unusedVariables false
section
variable {c : Cf} {so sw sd slot key : Int} {n : Nat}
end
def Pc (c : Cf) (slot : Int) (n : Nat) (ws : Nat → Nat) (x : Int) : Bool := decide (cfl c 1 slot n ws x = 2)
structure Rsum (c : Cf) (key slot : Int) (ws : Nat → Nat) (ws' : Nat → Nat) (e : Int) : Prop where
  ok : (∀ x ∈ othersN (ws (c.cl 8 key).toNat) 1 slot, cfl c 1 slot (ws (c.cl 5 slot).toNat) ws x ≠ 3) → e = 0 ∧ ws' = layL c 1 0 slot (Pc c slot (ws (c.cl 5 slot).toNat) ws) (mkw c 0 key slot ws) (othersN (ws (c.cl 8 key).toNat) 1 slot)
  no : (¬ ∀ x ∈ othersN (ws (c.cl 8 key).toNat) 1 slot, cfl c 1 slot (ws (c.cl 5 slot).toNat) ws x ≠ 3) → e = 7 ∧ ∃ L', (∀ x ∈ L', x ∈ othersN (ws (c.cl 8 key).toNat) 1 slot) ∧ ws' = lvw c slot 5 (layL c 1 0 slot (Pc c slot (ws (c.cl 5 slot).toNat) ws) (mkw c 0 key slot (bsw c slot ws)) L')
section
variable {c : Cf} {h : Nat} {inn : Nat → Bool} {key slot : Int}
end
end Um
namespace Um
set_option maxRecDepth 100000
section
variable {c : Cf} {h : Nat} {inn : Nat → Bool} {key slot : Int}
structure Aft (c : Cf) (slot : Int) (ws ws' : Nat → Nat) : Prop where
  gn : gnN (ws' (c.cl 4 slot).toNat) = gnN (ws (c.cl 4 slot).toNat)
  st : stN (ws' (c.cl 4 slot).toNat) = stN (ws (c.cl 4 slot).toNat)
  bz : (ws' (c.cl 4 slot).toNat).testBit 26 = (ws (c.cl 4 slot).toNat).testBit 26
  n : ws' (c.cl 5 slot).toNat = ws (c.cl 5 slot).toNat
  ot : ∀ k, 0 ≤ k → k < c.k → othersN (ws' (c.cl 8 k).toNat) 1 slot = othersN (ws (c.cl 8 k).toNat) 1 slot
  cf : ∀ n x, 0 ≤ x → x ≠ slot → cfl c 1 slot n ws' x = cfl c 1 slot n ws x
end
end Um
namespace Um
set_option maxRecDepth 100000
set_option linter.unusedVariables false
def setR (m : Mm) (o : Rd) : Rd := { o with m := m }
structure Sr (i : Int) (K S : Nat) (o : Rd) : Prop where
  nx : o.nx = 0 ∨ o.nx = 1 ∨ o.nx = 2 ∨ o.nx = 3 ∨ o.nx = 6
  a0 : o.nx = 0 → o.dn = false ∧ S = actW ∧ o.g.en = false ∧ o.g.e = 0 ∧ (o.g.tk = true → o.g.s = actW)
  a1 : o.nx = 1 ∨ o.nx = 2 ∨ o.nx = 3 → o.dn = false ∧ S = busW ∧ o.e = 0
  a3 : o.nx = 3 → o.w < 4 ∧ hasN o.w 0 i = false
  a6 : o.nx = 6 → o.dn = false → S = busW ∧ o.lp = -1 ∧ o.td = 0 ∧ o.l.dn = false ∧ (o.l.lk = true → o.l.s = busW)
  ad : o.dn = true → S = actW ∧ o.e = 0
  k6 : o.nx = 6 → hasN K 0 i = true
theorem Sr.at {i : Int} {K S : Nat} {o : Rd} (h : Sr i K S o) (m : Mm) : Sr i K S (setR m o) := ⟨h.nx, h.a0, h.a1, h.a3, h.a6, h.ad, h.k6⟩
theorem Sr.key {i : Int} {K K' S : Nat} {o : Rd} (h : Sr i K S o) (hk : hasN K 0 i = true → hasN K' 0 i = true) : Sr i K' S o := ⟨h.nx, h.a0, h.a1, h.a3, h.a6, h.ad, fun q => hk (h.k6 q)⟩
section
variable {c : Cf} {h : Nat} {inn : Nat → Bool} {i : Int}
structure Moved (c : Cf) (i : Int) (m M : Mm) : Prop where
  k : M.ws (c.cl 8 0).toNat < 4
  kk : ∀ j : Int, j = 0 ∨ j = 1 → hasN (m.ws (c.cl 8 0).toNat) 0 j = true → hasN (M.ws (c.cl 8 0).toNat) 0 j = true
  st : ∀ j : Int, 0 ≤ j → j < c.s → j ≠ i → M.ws (c.cl 4 j).toNat = m.ws (c.cl 4 j).toNat
end
end Um
namespace Um
set_option maxRecDepth 100000
structure RokW (c : Cf) (o : Rd) : Prop where
  g : EokW c o.g
  j : JokW c o.j
  v : LokW c o.o
  l : LokW c o.l
  w : Word o.w
  jp : 0 ≤ o.jp ∧ o.jp ≤ 11
  op : 0 ≤ o.op ∧ o.op ≤ 11
  ot : ∀ x ∈ o.ot, 0 ≤ x ∧ x ≤ 11
  nx : o.nx ≤ 6
  ne : o.nx = 4 ∨ o.nx = 5 → o.ot ≠ []
  hd : o.nx = 4 → o.ot.head? = some o.jp
  he : o.nx = 5 → o.ot.head? = some o.op
  jr : o.nx = 4 → o.dn = false → o.j.r = 0
  e0 : o.dn = false → o.e = 0
structure Rok (c : Cf) (o : Rd) : Prop where
  wd : ∀ i, i < c.n → Word (o.m.ws i)
  k : RokW c o
section
variable {c : Cf} {h : Nat} {inn : Nat → Bool} {key slot : Int}
theorem RokW.at {o : Rd} (k : RokW c o) (m : Mm) : RokW c (setR m o) := ⟨k.g, k.j, k.v, k.l, k.w, k.jp, k.op, k.ot, k.nx, k.ne, k.hd, k.he, k.jr, k.e0⟩
theorem Rok.of {o : Rd} (k : RokW c o) {m : Mm} (hm : ∀ i, i < c.n → Word (m.ws i)) : Rok c (setR m o) := ⟨hm, k.at m⟩
structure RokL (c : Cf) (o : Rd) : Prop where
  g : EokW c o.g
  j : JokW c o.j
  v : LokW c o.o
  l : LokW c o.l
  w : Word o.w
  jp : 0 ≤ o.jp ∧ o.jp ≤ 11
  op : 0 ≤ o.op ∧ o.op ≤ 11
  ot : ∀ x ∈ o.ot, 0 ≤ x ∧ x ≤ 11
  e : o.e = 0
theorem rok_lv {o : Rd} (k : RokL c o) (hm : ∀ i, i < c.n → Word (o.m.ws i)) (st td : Int) : Rok c (rdlv o st td) :=
  ⟨hm, ⟨k.g, k.j, k.v, (lnew_ok hm).okw, k.w, k.jp, k.op, k.ot, (show 6 ≤ 6 by decide), (fun q => by rcases q with q | q <;> cases q), (fun q => by cases q), (fun q => by cases q), (fun q => by cases q), fun _ => k.e⟩⟩
theorem rok_go {o : Rd} (k : RokL c o) (hm : ∀ i, i < c.n → Word (o.m.ws i)) : Rok c (rdgo o) := by
  unfold rdgo
  match ho : o.ot with
  | [] => exact ⟨hm, ⟨k.g, k.j, k.v, (lnew_ok hm).okw, k.w, k.jp, k.op, k.ot, (show 6 ≤ 6 by decide), (fun q => by rcases q with q | q <;> cases q), (fun q => by cases q), (fun q => by cases q), (fun q => by cases q), fun _ => k.e⟩⟩
  | x :: r =>
    have hx := k.ot x (by rw [ho]; exact List.mem_cons_self)
    have hot := k.ot
    exact ⟨hm, ⟨k.g, (jnew_ok hm).okw, k.v, k.l, k.w, hx, k.op, (by rw [ho] at hot; exact hot), (show 4 ≤ 6 by decide), (fun _ => List.cons_ne_nil _ _), (fun _ => rfl), (fun q => by cases q), (fun _ _ => rfl), fun _ => k.e⟩⟩
theorem tail_mem {L : List Int} {P : Int → Prop} (h : ∀ x ∈ L, P x) : ∀ x ∈ L.tail, P x := fun x hx => h x (List.mem_of_mem_tail hx)
theorem rok_step {o : Rd} (ho : Rok c o) : Rok c (rdstep c h inn key slot o) := by
  obtain ⟨hm, k⟩ := ho
  cases hd : o.dn with
  | true => rw [rdstep_done hd]; exact ⟨hm, k⟩
  | false =>
    have e0 := k.e0 hd
    have hn := k.nx
    have kl : RokL c o := ⟨k.g, k.j, k.v, k.l, k.w, k.jp, k.op, k.ot, e0⟩
    rcases (by omega : o.nx = 0 ∨ o.nx = 1 ∨ o.nx = 2 ∨ o.nx = 3 ∨ o.nx = 4 ∨ o.nx = 5 ∨ o.nx = 6) with q | q | q | q | q | q | q
    · rw [step0 hd q]
      have hG := estep_ok (h := h) (inn := inn) (k.g o.m hm)
      generalize estep c h inn (setE o.m o.g) = G at hG
      unfold rd0
      split
      · exact ⟨hG.wd, ⟨hG.okw, k.j, k.v, k.l, k.w, k.jp, k.op, k.ot, (show 1 ≤ 6 by decide), (fun q => by rcases q with q | q <;> cases q), (fun q => by cases q), (fun q => by cases q), (fun q => by cases q), fun q => by simpa using of_decide_eq_false q⟩⟩
      · exact ⟨hG.wd, ⟨hG.okw, k.j, k.v, k.l, k.w, k.jp, k.op, k.ot, k.nx, k.ne, k.hd, k.he, k.jr, k.e0⟩⟩
    · rw [step1 hd q]
      exact ⟨word_touch hm zero_word, ⟨k.g, k.j, k.v, k.l, k.w, k.jp, k.op, k.ot, (show 2 ≤ 6 by decide), (fun q => by rcases q with q | q <;> cases q), (fun q => by cases q), (fun q => by cases q), (fun q => by cases q), k.e0⟩⟩
    · rw [step2 hd q]
      have hM : ∀ i, i < c.n → Word ((mtouch c o.m 1 8 key 0 0).ws i) := word_touch hm zero_word
      have hW : Word (mtouch c o.m 1 8 key 0 0).l.old := old_word hm
      generalize mtouch c o.m 1 8 key 0 0 = M at hM hW
      unfold rd2
      split
      · exact rok_go ⟨k.g, k.j, k.v, k.l, hW, k.jp, k.op, (fun x hx => ⟨(others_mem hx).1, (others_mem hx).2.1⟩), e0⟩ hM
      · exact ⟨hM, ⟨k.g, k.j, k.v, k.l, hW, k.jp, k.op, k.ot, (show 3 ≤ 6 by decide), (fun q => by rcases q with q | q <;> cases q), (fun q => by cases q), (fun q => by cases q), (fun q => by cases q), k.e0⟩⟩
    · rw [step3 hd q]
      have hM : ∀ i, i < c.n → Word ((mtouch c o.m 3 8 key o.w (withN o.w 0 slot)).ws i) := word_touch hm (with_word k.w _ _)
      generalize mtouch c o.m 3 8 key o.w (withN o.w 0 slot) = M at hM
      unfold rd3
      split
      · exact rok_go ⟨k.g, k.j, k.v, k.l, k.w, k.jp, k.op, (fun x hx => ⟨(others_mem hx).1, (others_mem hx).2.1⟩), e0⟩ hM
      · exact ⟨hM, ⟨k.g, k.j, k.v, k.l, k.w, k.jp, k.op, k.ot, (show 2 ≤ 6 by decide), (fun q => by rcases q with q | q <;> cases q), (fun q => by cases q), (fun q => by cases q), (fun q => by cases q), k.e0⟩⟩
    · rw [step4 hd q]
      have hJ := jstep_ok (sl := o.jp) (sd := 1) (b := slot) (sn := o.n) (k.j o.m hm)
      generalize jstep c o.jp 1 slot o.n (setJ o.m o.j) = J at hJ
      unfold rd4
      have hJr := hJ.r
      split
      · exact rok_go ⟨k.g, hJ.okw, k.v, k.l, k.w, k.jp, k.op, tail_mem k.ot, e0⟩ hJ.wd
      · split
        · exact ⟨hJ.wd, ⟨k.g, hJ.okw, (lnew_ok hJ.wd).okw, k.l, k.w, k.jp, k.jp, k.ot, (show 5 ≤ 6 by decide), (fun _ => k.ne (.inl q)), (fun q => by cases q), (fun _ => k.hd q), (fun q => by cases q), k.e0⟩⟩
        · split
          · exact rok_lv (o := { o with m := J.m, j := J }) ⟨k.g, hJ.okw, k.v, k.l, k.w, k.jp, k.op, k.ot, e0⟩ hJ.wd 5 7
          · exact ⟨hJ.wd, ⟨k.g, hJ.okw, k.v, k.l, k.w, k.jp, k.op, k.ot, k.nx, k.ne, k.hd, k.he, (fun _ _ => by show J.r = 0; omega), k.e0⟩⟩
    · rw [step5 hd q]
      have hL := wstep_ok (sl := slot) (sd := 0) (b := o.op) (k.v o.m hm)
      generalize wstep c slot 0 o.op (setLs o.m o.o) = V at hL
      unfold rd5
      split
      · exact rok_go ⟨k.g, k.j, hL.okw, k.l, k.w, k.jp, k.op, tail_mem k.ot, e0⟩ hL.wd
      · exact ⟨hL.wd, ⟨k.g, k.j, hL.okw, k.l, k.w, k.jp, k.op, k.ot, k.nx, k.ne, k.hd, k.he, k.jr, k.e0⟩⟩
    · rw [step6 hd q]
      have hL := lstep_ok (sl := slot) (st := o.lp) (k.l o.m hm)
      generalize lstep c slot o.lp (setLs o.m o.l) = V at hL
      unfold rd6
      split
      · exact ⟨hL.wd, ⟨k.g, k.j, k.v, hL.okw, k.w, k.jp, k.op, k.ot, k.nx, k.ne, k.hd, k.he, (fun _ q => by cases q), fun q => by cases q⟩⟩
      · exact ⟨hL.wd, ⟨k.g, k.j, k.v, hL.okw, k.w, k.jp, k.op, k.ot, k.nx, k.ne, k.hd, k.he, k.jr, k.e0⟩⟩
theorem rok_it {o : Rd} (ho : Rok c o) (k : Nat) : Rok c (rdit c h inn key slot o k) := by
  induction k with
  | zero => exact ho
  | succ k ih => exact rok_step ih
theorem rok_new {m : Mm} (hm : ∀ i, i < c.n → Word (m.ws i)) : Rok c (rdnew m) :=
  ⟨hm, ⟨(enew_ok hm).okw, (jnew_ok hm).okw, (lnew_ok hm).okw, (lnew_ok hm).okw, zero_word, (show (0 : Int) ≤ 0 ∧ (0 : Int) ≤ 11 by decide), (show (0 : Int) ≤ 0 ∧ (0 : Int) ≤ 11 by decide), (fun x hx => by cases hx), (show 0 ≤ 6 by decide), (fun q => by rcases q with q | q <;> cases q), (fun q => by cases q), (fun q => by cases q), (fun q => by cases q), fun _ => rfl⟩⟩
end
def rdbeg (c : Cf) (h : Nat) (key : Int) (m : Mm) : Rd := if key < 0 ∨ c.k ≤ key then { rdnew m with dn := true, e := 5 } else if ook h c.s = true then rdnew m else { rdnew m with dn := true, e := 2 }
theorem rdbeg_m (c : Cf) (h : Nat) (key : Int) (m : Mm) : (rdbeg c h key m).m = m := by
  unfold rdbeg
  split
  · rfl
  · split <;> rfl
theorem rdbeg_key {c : Cf} {h : Nat} {key : Int} {m : Mm} (hk : key < 0 ∨ c.k ≤ key) : rdbeg c h key m = { rdnew m with dn := true, e := 5 } := if_pos hk
theorem rdbeg_no {c : Cf} {h : Nat} {key : Int} {m : Mm} (hk : ¬ (key < 0 ∨ c.k ≤ key)) (hn : ook h c.s = false) : rdbeg c h key m = { rdnew m with dn := true, e := 2 } := by
  unfold rdbeg
  rw [if_neg hk, if_neg (by rw [hn]; decide)]
theorem rdbeg_yes {c : Cf} {h : Nat} {key : Int} {m : Mm} (hk : ¬ (key < 0 ∨ c.k ≤ key)) (hn : ook h c.s = true) : rdbeg c h key m = rdnew m := by
  unfold rdbeg
  rw [if_neg hk, if_pos hn]
theorem rok_beg {c : Cf} {h : Nat} {key : Int} {m : Mm} (hm : ∀ i, i < c.n → Word (m.ws i)) : Rok c (rdbeg c h key m) := by
  have k := (rok_new (c := c) hm).k
  unfold rdbeg
  split
  · exact ⟨hm, ⟨k.g, k.j, k.v, k.l, k.w, k.jp, k.op, k.ot, k.nx, k.ne, k.hd, k.he, (fun q => by cases q), fun q => by cases q⟩⟩
  · split
    · exact ⟨hm, k⟩
    · exact ⟨hm, ⟨k.g, k.j, k.v, k.l, k.w, k.jp, k.op, k.ot, k.nx, k.ne, k.hd, k.he, (fun q => by cases q), fun q => by cases q⟩⟩
end Um
