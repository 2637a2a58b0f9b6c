/-
  Texts that the laws stand on, merged (OpenX, OpenAlive, OpenCfg, OpenMath3, OpenMath4, OpenMath5, OpenMath6, OpenWords, OpenMath7, OpenPlay, OpenHelp, OpenP9).
-/
import Derived.Test.YtkiaogbddfjkkaaM1
import Derived.Test.YtkiaogbddfjkkaaM16
import Derived.Test.YtkiaogbddfjkkaaM2
import Derived.Test.YtkiaogbddfjkkaaM5
import Derived.Deep.Slices
import Derived.LoopTactic
import Derived.OpenShut
import Derived.ProofKit
import Derived.ShutString
import Derived.SizedLaws
import Derived.WalkKit

/-
  A beginning's step, of whatever step; a beginning to its end.
-/
namespace Go.Proofs.Ytkiaogbddfjkkaa
set_option maxRecDepth 100000
open Go.RowKit Go.Sort

/-- what comes next -/
def onF (P nx : Nat) : Value := if nx = 0 then .func (.func 37) #[.pointer (some ⟨P, 0, none⟩)] #[] else if nx = 1 then .func (.func 65) #[.pointer (some ⟨P, 0, none⟩)] #[] else if nx = 2 then .func (.func 78) #[.pointer (some ⟨P, 0, none⟩)] #[] else if nx = 3 then .func (.func 86) #[.pointer (some ⟨P, 0, none⟩)] #[] else if nx = 4 then .func (.func 87) #[.pointer (some ⟨P, 0, none⟩)] #[] else if nx = 5 then .func (.func 92) #[.pointer (some ⟨P, 0, none⟩)] #[] else .nilFunc

/-- a beginning's cells: of box K, of block P; its help, and what it counted -/
def opnL (K P : Nat) (nt : Option Addr) (q : Nat) (o : Um.Os) : List Value := [.func (.func 61) #[] #[.pointer (some ⟨K, 0, none⟩)], .int .i64 o.sl, .int .u64 (o.s : Nat), .int .u64 (q : Nat), .pointer nt, onF P o.nx, .int .i64 o.te, .int .u64 (o.th : Nat), .int .u64 (o.tn : Nat)]

/-- the block of its help, while it helps -/
def HB (o : Um.Os) (nt : Option Addr) (hb : List (Nat × List Value)) : Prop :=
  (o.nx = 3 ∧ ∃ A, nt = some ⟨A, 0, none⟩ ∧ hb = [(A, hlpL o.w o.hs o.hn)]) ∨ (o.nx ≠ 3 ∧ hb = [])

/-- what it counted, from its note on -/
def QB (o : Um.Os) (q : Nat) : Prop := Um.Word q ∧ (o.nx = 4 ∨ o.nx = 5 → q = o.q)

theorem put_same4 {l : List (Nat × List Value)} {i j k n : Nat} {a b d z : Nat × List Value} (hn : l[n]? = some z) (hin : i ≠ n) (hjn : j ≠ n) (hkn : k ≠ n) : putL l [(i, a), (j, b), (k, d), (n, z)] = putL l [(i, a), (j, b), (k, d)] := by
  show (((l.set i a).set j b).set k d).set n z = ((l.set i a).set j b).set k d
  refine set_same ?_
  rw [List.getElem?_set_ne hkn, List.getElem?_set_ne hjn, List.getElem?_set_ne hin]
  exact hn

theorem get_lt {l : List (Nat × List Value)} {i : Nat} {a : Nat × List Value} (h : l[i]? = some a) : i < l.length := by
  rcases Nat.lt_or_ge i l.length with q | q
  · exact q
  · rw [List.getElem?_eq_none q] at h; cases h

theorem put_tail {l : List (Nat × List Value)} {i j k : Nat} {a b d x y : Nat × List Value} (hi : i < l.length) (hj : j < l.length) (hk : k < l.length) : putL (l ++ [x]) [(i, a), (j, b), (k, d), (l.length, y)] = putL l [(i, a), (j, b), (k, d)] ++ [y] := by
  show ((((l ++ [x]).set i a).set j b).set k d).set l.length y = ((l.set i a).set j b).set k d ++ [y]
  rw [List.set_append_left _ _ hi, List.set_append_left _ _ (by simpa using hj), List.set_append_left _ _ (by simpa using hk), List.set_append_right _ _ (by simp)]
  simp

theorem get_app {l hb : List (Nat × List Value)} {i : Nat} {a : Nat × List Value} (h : l[i]? = some a) : (l ++ hb)[i]? = some a := by
  rw [List.getElem?_append_left (get_lt h)]
  exact h

section
variable {bs : List Nat} {w0 w : World} {l e : List (Nat × List Value)} {B C P K : Nat} {c : Um.Cf} {m : Um.Mm} {sl te : Int} {s q th tn : Nat} {nt : Option Addr} {nx : Value}

set_option maxHeartbeats 2000000 in
theorem oStep_look {Q : World → Prop} (hB : BlkAt w P [.func (.func 61) #[] #[.pointer (some ⟨K, 0, none⟩)], .int .i64 sl, .int .u64 (s : Nat), .int .u64 (q : Nat), .pointer nt, .func (.func 37) #[.pointer (some ⟨P, 0, none⟩)] #[], .int .i64 te, .int .u64 (th : Nat), .int .u64 (tn : Nat)]) (hC : Calls Try.prog 37 #[.pointer (some ⟨P, 0, none⟩), .pointer (some ⟨B, 0, none⟩)] w fun r w' => r = .returned (.tuple #[]) ∧ Q w') :
    Calls Try.prog 14 #[.pointer (some ⟨P, 0, none⟩), .pointer (some ⟨B, 0, none⟩)] w fun r w' => r = .returned (.tuple #[]) ∧ Q w' := by
  have HD := hide (oDone_f _ _ _ hB)
  have HC := hide hC
  have h2 := hB.cell 5 _ rfl
  clear hB hC
  go_enter Try.func14, Try.ntmps14
  go_wp2_with fail
  refine (unhide HD).mono ?_
  rintro r u ⟨rfl, rfl⟩
  go_wp2_with fail
  refine (unhide HC).mono ?_
  rintro r u2 ⟨rfl, hQ⟩
  have H2 := hide hQ
  clear hQ h2
  go_wp2
  go_end0
  exact ⟨rfl, unhide H2⟩

set_option maxHeartbeats 2000000 in
theorem oStep_take {Q : World → Prop} (hB : BlkAt w P [.func (.func 61) #[] #[.pointer (some ⟨K, 0, none⟩)], .int .i64 sl, .int .u64 (s : Nat), .int .u64 (q : Nat), .pointer nt, .func (.func 65) #[.pointer (some ⟨P, 0, none⟩)] #[], .int .i64 te, .int .u64 (th : Nat), .int .u64 (tn : Nat)]) (hC : Calls Try.prog 65 #[.pointer (some ⟨P, 0, none⟩), .pointer (some ⟨B, 0, none⟩)] w fun r w' => r = .returned (.tuple #[]) ∧ Q w') :
    Calls Try.prog 14 #[.pointer (some ⟨P, 0, none⟩), .pointer (some ⟨B, 0, none⟩)] w fun r w' => r = .returned (.tuple #[]) ∧ Q w' := by
  have HD := hide (oDone_f _ _ _ hB)
  have HC := hide hC
  have h2 := hB.cell 5 _ rfl
  clear hB hC
  go_enter Try.func14, Try.ntmps14
  go_wp2_with fail
  refine (unhide HD).mono ?_
  rintro r u ⟨rfl, rfl⟩
  go_wp2_with fail
  refine (unhide HC).mono ?_
  rintro r u2 ⟨rfl, hQ⟩
  have H2 := hide hQ
  clear hQ h2
  go_wp2
  go_end0
  exact ⟨rfl, unhide H2⟩

set_option maxHeartbeats 2000000 in
theorem oStep_tally {Q : World → Prop} (hB : BlkAt w P [.func (.func 61) #[] #[.pointer (some ⟨K, 0, none⟩)], .int .i64 sl, .int .u64 (s : Nat), .int .u64 (q : Nat), .pointer nt, .func (.func 78) #[.pointer (some ⟨P, 0, none⟩)] #[], .int .i64 te, .int .u64 (th : Nat), .int .u64 (tn : Nat)]) (hC : Calls Try.prog 78 #[.pointer (some ⟨P, 0, none⟩), .pointer (some ⟨B, 0, none⟩)] w fun r w' => r = .returned (.tuple #[]) ∧ Q w') :
    Calls Try.prog 14 #[.pointer (some ⟨P, 0, none⟩), .pointer (some ⟨B, 0, none⟩)] w fun r w' => r = .returned (.tuple #[]) ∧ Q w' := by
  have HD := hide (oDone_f _ _ _ hB)
  have HC := hide hC
  have h2 := hB.cell 5 _ rfl
  clear hB hC
  go_enter Try.func14, Try.ntmps14
  go_wp2_with fail
  refine (unhide HD).mono ?_
  rintro r u ⟨rfl, rfl⟩
  go_wp2_with fail
  refine (unhide HC).mono ?_
  rintro r u2 ⟨rfl, hQ⟩
  have H2 := hide hQ
  clear hQ h2
  go_wp2
  go_end0
  exact ⟨rfl, unhide H2⟩

set_option maxHeartbeats 2000000 in
theorem oStep_help {Q : World → Prop} (hB : BlkAt w P [.func (.func 61) #[] #[.pointer (some ⟨K, 0, none⟩)], .int .i64 sl, .int .u64 (s : Nat), .int .u64 (q : Nat), .pointer nt, .func (.func 86) #[.pointer (some ⟨P, 0, none⟩)] #[], .int .i64 te, .int .u64 (th : Nat), .int .u64 (tn : Nat)]) (hC : Calls Try.prog 86 #[.pointer (some ⟨P, 0, none⟩), .pointer (some ⟨B, 0, none⟩)] w fun r w' => r = .returned (.tuple #[]) ∧ Q w') :
    Calls Try.prog 14 #[.pointer (some ⟨P, 0, none⟩), .pointer (some ⟨B, 0, none⟩)] w fun r w' => r = .returned (.tuple #[]) ∧ Q w' := by
  have HD := hide (oDone_f _ _ _ hB)
  have HC := hide hC
  have h2 := hB.cell 5 _ rfl
  clear hB hC
  go_enter Try.func14, Try.ntmps14
  go_wp2_with fail
  refine (unhide HD).mono ?_
  rintro r u ⟨rfl, rfl⟩
  go_wp2_with fail
  refine (unhide HC).mono ?_
  rintro r u2 ⟨rfl, hQ⟩
  have H2 := hide hQ
  clear hQ h2
  go_wp2
  go_end0
  exact ⟨rfl, unhide H2⟩

set_option maxHeartbeats 2000000 in
theorem oStep_note {Q : World → Prop} (hB : BlkAt w P [.func (.func 61) #[] #[.pointer (some ⟨K, 0, none⟩)], .int .i64 sl, .int .u64 (s : Nat), .int .u64 (q : Nat), .pointer nt, .func (.func 87) #[.pointer (some ⟨P, 0, none⟩)] #[], .int .i64 te, .int .u64 (th : Nat), .int .u64 (tn : Nat)]) (hC : Calls Try.prog 87 #[.pointer (some ⟨P, 0, none⟩), .pointer (some ⟨B, 0, none⟩)] w fun r w' => r = .returned (.tuple #[]) ∧ Q w') :
    Calls Try.prog 14 #[.pointer (some ⟨P, 0, none⟩), .pointer (some ⟨B, 0, none⟩)] w fun r w' => r = .returned (.tuple #[]) ∧ Q w' := by
  have HD := hide (oDone_f _ _ _ hB)
  have HC := hide hC
  have h2 := hB.cell 5 _ rfl
  clear hB hC
  go_enter Try.func14, Try.ntmps14
  go_wp2_with fail
  refine (unhide HD).mono ?_
  rintro r u ⟨rfl, rfl⟩
  go_wp2_with fail
  refine (unhide HC).mono ?_
  rintro r u2 ⟨rfl, hQ⟩
  have H2 := hide hQ
  clear hQ h2
  go_wp2
  go_end0
  exact ⟨rfl, unhide H2⟩

set_option maxHeartbeats 2000000 in
theorem oStep_start {Q : World → Prop} (hB : BlkAt w P [.func (.func 61) #[] #[.pointer (some ⟨K, 0, none⟩)], .int .i64 sl, .int .u64 (s : Nat), .int .u64 (q : Nat), .pointer nt, .func (.func 92) #[.pointer (some ⟨P, 0, none⟩)] #[], .int .i64 te, .int .u64 (th : Nat), .int .u64 (tn : Nat)]) (hC : Calls Try.prog 92 #[.pointer (some ⟨P, 0, none⟩), .pointer (some ⟨B, 0, none⟩)] w fun r w' => r = .returned (.tuple #[]) ∧ Q w') :
    Calls Try.prog 14 #[.pointer (some ⟨P, 0, none⟩), .pointer (some ⟨B, 0, none⟩)] w fun r w' => r = .returned (.tuple #[]) ∧ Q w' := by
  have HD := hide (oDone_f _ _ _ hB)
  have HC := hide hC
  have h2 := hB.cell 5 _ rfl
  clear hB hC
  go_enter Try.func14, Try.ntmps14
  go_wp2_with fail
  refine (unhide HD).mono ?_
  rintro r u ⟨rfl, rfl⟩
  go_wp2_with fail
  refine (unhide HC).mono ?_
  rintro r u2 ⟨rfl, hQ⟩
  have H2 := hide hQ
  clear hQ h2
  go_wp2
  go_end0
  exact ⟨rfl, unhide H2⟩

set_option maxHeartbeats 2000000 in
theorem oStep_none (hB : BlkAt w P [.func (.func 61) #[] #[.pointer (some ⟨K, 0, none⟩)], .int .i64 sl, .int .u64 (s : Nat), .int .u64 (q : Nat), .pointer nt, .nilFunc, .int .i64 te, .int .u64 (th : Nat), .int .u64 (tn : Nat)]) (q0 : Option Addr) :
    Calls Try.prog 14 #[.pointer (some ⟨P, 0, none⟩), .pointer q0] w fun r w' => r = .returned (.tuple #[]) ∧ w' = w := by
  have HD := hide (oDone_n hB)
  clear hB
  go_enter Try.func14, Try.ntmps14
  go_wp2_with fail
  refine (unhide HD).mono ?_
  rintro r u ⟨rfl, rfl⟩
  go_wp2
  go_end0
  exact ⟨rfl, rfl⟩

set_option maxHeartbeats 2000000 in
theorem oStep_any {hb : List (Nat × List Value)} {q0 : Nat} (hS : Sx bs w0 w (l ++ hb) e) (i j k n : Nat) (o O : Um.Os) (hO : O = Um.ostep c o) (hh : HB o nt hb) (hq : QB o q0) (hi : l[i]? = some (B, memL c C o.m)) (hj : l[j]? = some (C, rowW o.m.ws c.n)) (hk : l[k]? = some (P, opnL K P nt q0 o)) (hn : l[n]? = some (K, [.int .i64 o.sl])) (hij : i ≠ j) (hik : i ≠ k) (hjk : j ≠ k) (hin : i ≠ n) (hjn : j ≠ n) (hkn : k ≠ n) (hr : c.r = true) (ho : Um.Ook c o) :
    Calls Try.prog 14 #[.pointer (some ⟨P, 0, none⟩), .pointer (some ⟨B, 0, none⟩)] w fun r w' => r = .returned (.tuple #[]) ∧ Um.Ook c O ∧ ∃ nt' q' hb', HB O nt' hb' ∧ QB O q' ∧ Sx bs w0 w' (putL l [(i, B, memL c C O.m), (j, C, rowW O.m.ws c.n), (k, P, opnL K P nt' q' O), (n, K, [.int .i64 O.sl])] ++ hb') e := by
  have hO' : Um.Ook c O := by rw [hO]; exact Um.ostep_ok ho
  have hb9 := c.rb hr
  obtain ⟨m, sl, nx, s, q, w1, hn1, hs1, te, th, tn⟩ := o
  obtain ⟨i1, i2, i3, i4, i5, i6, i7, i8, i9, i10, i11, i12⟩ := ho
  dsimp only at *
  have h1 : sl ≤ 20 := by omega
  by_cases e3 : nx = 3
  · subst e3
    obtain ⟨_, A, rfl, rfl⟩ := hh.resolve_right (fun h => h.1 rfl)
    dsimp only at *
    have eO : O = ⟨(Um.hstep c w1 ⟨m, hn1, hs1⟩).m, sl, if (Um.hstep c w1 ⟨m, hn1, hs1⟩).nx = 4 then 2 else 3, s, q, w1, (Um.hstep c w1 ⟨m, hn1, hs1⟩).nx, (Um.hstep c w1 ⟨m, hn1, hs1⟩).s, te, th, tn⟩ := hO
    obtain ⟨H, hH⟩ : ∃ H, H = Um.hstep c w1 ⟨m, hn1, hs1⟩ := ⟨_, rfl⟩
    rw [← hH] at eO
    have li := get_lt hi
    have lj := get_lt hj
    have lk := get_lt hk
    have hA : (l ++ [(A, hlpL w1 hs1 hn1)])[l.length]? = some (A, hlpL w1 hs1 hn1) := by simp
    have hin' : i ≠ l.length := by omega
    have hjn' : j ≠ l.length := by omega
    have hkn' : k ≠ l.length := by omega
    by_cases h4 : H.nx = 4
    · rw [if_pos h4] at eO
      refine (oStep_help (hS.get k (get_app hk)) (oHelp_t hS i j k l.length ⟨m, hn1, hs1⟩ H hH (get_app hi) (get_app hj) (get_app hk) hA hij hik hjk hin' hjn' hkn' hr ⟨i1, i5, i6⟩ i4 h4)).mono ?_
      rintro r w' ⟨rfl, _, hSn⟩
      rw [put_tail li lj lk] at hSn
      have hS2 := hSn.take (putL l [(i, B, memL c C H.m), (j, C, rowW H.m.ws c.n), (k, P, [.func (.func 61) #[] #[.pointer (some ⟨K, 0, none⟩)], .int .i64 sl, .int .u64 (s : Nat), .int .u64 (q0 : Nat), .pointer (some ⟨A, 0, none⟩), .func (.func 78) #[.pointer (some ⟨P, 0, none⟩)] #[], .int .i64 te, .int .u64 (th : Nat), .int .u64 (tn : Nat)])]).length
      rw [List.take_left] at hS2
      subst eO
      refine ⟨rfl, hO', some ⟨A, 0, none⟩, q0, [], .inr ⟨(show 2 ≠ 3 by decide), rfl⟩, ⟨hq.1, fun h => (by rcases h with h | h <;> cases h)⟩, ?_⟩
      rw [List.append_nil, put_same4 (z := (K, [.int .i64 sl])) hn hin hjn hkn]
      exact hS2
    · rw [if_neg h4] at eO
      refine (oStep_help (hS.get k (get_app hk)) (oHelp_n hS i j k l.length ⟨m, hn1, hs1⟩ H hH (get_app hi) (get_app hj) (get_app hk) hA hij hik hjk hin' hjn' hkn' hr ⟨i1, i5, i6⟩ i4 h4)).mono ?_
      rintro r w' ⟨rfl, _, hSn⟩
      rw [put_tail li lj lk] at hSn
      subst eO
      refine ⟨rfl, hO', some ⟨A, 0, none⟩, q0, [(A, hlpL w1 H.s H.nx)], .inl ⟨rfl, A, rfl, rfl⟩, ⟨hq.1, fun h => (by rcases h with h | h <;> cases h)⟩, ?_⟩
      rw [put_same4 (z := (K, [.int .i64 sl])) hn hin hjn hkn]
      exact hSn
  · obtain ⟨_, rfl⟩ := hh.resolve_left (fun h => e3 h.1)
    rw [List.append_nil] at hS
    have hgo : ∀ M s', nx < 6 → Gof c.s sl te th tn (decide ((Um.ogo c ⟨m, sl, nx, s, q, w1, hn1, hs1, te, th, tn⟩ M s').nx = 6)) (Um.ogo c ⟨m, sl, nx, s, q, w1, hn1, hs1, te, th, tn⟩ M s').te (Um.ogo c ⟨m, sl, nx, s, q, w1, hn1, hs1, te, th, tn⟩ M s').th (Um.ogo c ⟨m, sl, nx, s, q, w1, hn1, hs1, te, th, tn⟩ M s').tn := by
      intro M s' _
      unfold Gof Um.ogo
      by_cases h : c.s ≤ sl + 1
      · rw [if_pos h]
        exact ⟨fun _ => ⟨rfl, rfl, rfl, rfl⟩, fun q => absurd h q⟩
      · rw [if_neg h]
        exact ⟨fun q => absurd q h, fun _ => ⟨rfl, rfl, rfl, rfl⟩⟩
    have hop : ∀ M s', opnL K P nt q0 (Um.ogo c ⟨m, sl, nx, s, q, w1, hn1, hs1, te, th, tn⟩ M s') = [.func (.func 61) #[] #[.pointer (some ⟨K, 0, none⟩)], .int .i64 (sl + 1), .int .u64 (s' : Nat), .int .u64 (q0 : Nat), .pointer nt, cond (decide ((Um.ogo c ⟨m, sl, nx, s, q, w1, hn1, hs1, te, th, tn⟩ M s').nx = 6)) .nilFunc (.func (.func 37) #[.pointer (some ⟨P, 0, none⟩)] #[]), .int .i64 (Um.ogo c ⟨m, sl, nx, s, q, w1, hn1, hs1, te, th, tn⟩ M s').te, .int .u64 ((Um.ogo c ⟨m, sl, nx, s, q, w1, hn1, hs1, te, th, tn⟩ M s').th : Nat), .int .u64 ((Um.ogo c ⟨m, sl, nx, s, q, w1, hn1, hs1, te, th, tn⟩ M s').tn : Nat)] := by
      intro M s'
      unfold Um.ogo
      by_cases h : c.s ≤ sl + 1
      · rw [if_pos h]; rfl
      · rw [if_neg h]; rfl
    have hom : ∀ M s', (Um.ogo c ⟨m, sl, nx, s, q, w1, hn1, hs1, te, th, tn⟩ M s').m = M ∧ (Um.ogo c ⟨m, sl, nx, s, q, w1, hn1, hs1, te, th, tn⟩ M s').sl = sl + 1 ∧ ((Um.ogo c ⟨m, sl, nx, s, q, w1, hn1, hs1, te, th, tn⟩ M s').nx = 0 ∨ (Um.ogo c ⟨m, sl, nx, s, q, w1, hn1, hs1, te, th, tn⟩ M s').nx = 6) := by
      intro M s'
      unfold Um.ogo
      by_cases h : c.s ≤ sl + 1
      · rw [if_pos h]; exact ⟨rfl, rfl, .inr rfl⟩
      · rw [if_neg h]; exact ⟨rfl, rfl, .inl rfl⟩
    match nx, i7 with
    | 0, _ =>
      have eO : O = (if Um.frN c (Um.mtouch c m 1 4 sl 0 0).l.old then ⟨Um.mtouch c m 1 4 sl 0 0, sl, 1, (Um.mtouch c m 1 4 sl 0 0).l.old, q, w1, hn1, hs1, te, th, tn⟩ else Um.ogo c ⟨m, sl, 0, s, q, w1, hn1, hs1, te, th, tn⟩ (Um.mtouch c m 1 4 sl 0 0) (Um.mtouch c m 1 4 sl 0 0).l.old) := hO
      cases hfr : Um.frN c (Um.mtouch c m 1 4 sl 0 0).l.old with
      | true =>
        rw [if_pos hfr] at eO
        have hf := of_decide_eq_true hfr
        refine (oStep_look (hS.get k hk) (oLook_t hS i j k hi hj hk hij hik hjk hr i1 i8 h1 _ rfl hf.1 hf.2)).mono ?_
        rintro r w' ⟨rfl, _, hSn⟩
        subst eO
        refine ⟨rfl, hO', nt, q0, [], .inr ⟨(show 1 ≠ 3 by decide), rfl⟩, ⟨hq.1, fun h => (by rcases h with h | h <;> cases h)⟩, ?_⟩
        rw [List.append_nil, put_same4 (z := (K, [.int .i64 sl])) hn hin hjn hkn]
        exact hSn
      | false =>
        rw [if_neg (by rw [hfr]; decide)] at eO
        have hf := of_decide_eq_false hfr
        have hg := hgo (Um.mtouch c m 1 4 sl 0 0) (Um.mtouch c m 1 4 sl 0 0).l.old (by decide)
        have hp := hop (Um.mtouch c m 1 4 sl 0 0) (Um.mtouch c m 1 4 sl 0 0).l.old
        obtain ⟨u1, u2, u3⟩ := hom (Um.mtouch c m 1 4 sl 0 0) (Um.mtouch c m 1 4 sl 0 0).l.old
        rw [← eO] at hg hp u1 u2 u3
        have hne : O.nx ≠ 3 := by omega
        by_cases h3 : Um.stN (Um.mtouch c m 1 4 sl 0 0).l.old = 0
        · refine (oStep_look (hS.get k hk) (oLook_c hS i j k n hi hj hk hn hij hik hjk hin hjn hkn hr i1 i8 h1 _ rfl h3 (fun q => hf ⟨h3, q⟩) hg)).mono ?_
          rintro r w' ⟨rfl, _, hSn⟩
          refine ⟨rfl, hO', nt, q0, [], .inr ⟨hne, rfl⟩, ⟨hq.1, fun h => by omega⟩, ?_⟩
          rw [List.append_nil, hp, u1, u2]
          exact hSn
        · refine (oStep_look (hS.get k hk) (oLook_b hS i j k n hi hj hk hn hij hik hjk hin hjn hkn hr i1 i8 h1 _ rfl h3 hg)).mono ?_
          rintro r w' ⟨rfl, _, hSn⟩
          refine ⟨rfl, hO', nt, q0, [], .inr ⟨hne, rfl⟩, ⟨hq.1, fun h => by omega⟩, ?_⟩
          rw [List.append_nil, hp, u1, u2]
          exact hSn
    | 1, _ =>
      have eO : O = (if (Um.mtouch c m 3 4 sl s (Um.moveN s 1 false)).l.done then ⟨Um.mtouch c m 3 4 sl s (Um.moveN s 1 false), sl, 2, s, q, w1, hn1, hs1, te, th, tn⟩ else Um.ogo c ⟨m, sl, 1, s, q, w1, hn1, hs1, te, th, tn⟩ (Um.mtouch c m 3 4 sl s (Um.moveN s 1 false)) s) := hO
      cases hd : (Um.mtouch c m 3 4 sl s (Um.moveN s 1 false)).l.done with
      | true =>
        rw [if_pos hd] at eO
        refine (oStep_take (hS.get k hk) (oTake_t hS i j k hi hj hk hij hik hjk hr i1 i8 h1 _ rfl i2 hd)).mono ?_
        rintro r w' ⟨rfl, _, hSn⟩
        subst eO
        refine ⟨rfl, hO', nt, q0, [], .inr ⟨(show 2 ≠ 3 by decide), rfl⟩, ⟨hq.1, fun h => (by rcases h with h | h <;> cases h)⟩, ?_⟩
        rw [List.append_nil, put_same4 (z := (K, [.int .i64 sl])) hn hin hjn hkn]
        exact hSn
      | false =>
        rw [if_neg (by rw [hd]; decide)] at eO
        have hg := hgo (Um.mtouch c m 3 4 sl s (Um.moveN s 1 false)) s (by decide)
        have hp := hop (Um.mtouch c m 3 4 sl s (Um.moveN s 1 false)) s
        obtain ⟨u1, u2, u3⟩ := hom (Um.mtouch c m 3 4 sl s (Um.moveN s 1 false)) s
        rw [← eO] at hg hp u1 u2 u3
        have hne : O.nx ≠ 3 := by omega
        refine (oStep_take (hS.get k hk) (oTake_f hS i j k n hi hj hk hn hij hik hjk hin hjn hkn hr i1 i8 h1 _ rfl i2 hd hg)).mono ?_
        rintro r w' ⟨rfl, _, hSn⟩
        refine ⟨rfl, hO', nt, q0, [], .inr ⟨hne, rfl⟩, ⟨hq.1, fun h => by omega⟩, ?_⟩
        rw [List.append_nil, hp, u1, u2]
        exact hSn
    | 2, _ =>
      have eO : O = (if 0 ≤ Um.penN (Um.mtouch c m 1 1 0 0 0).l.old then ⟨Um.mtouch c m 1 1 0 0 0, sl, 3, s, Um.seqN (Um.mtouch c m 1 1 0 0 0).l.old, (Um.mtouch c m 1 1 0 0 0).l.old, 0, 0, te, th, tn⟩ else ⟨Um.mtouch c m 1 1 0 0 0, sl, 4, s, Um.seqN (Um.mtouch c m 1 1 0 0 0).l.old, w1, hn1, hs1, te, th, tn⟩) := hO
      by_cases hp : 0 ≤ Um.penN (Um.mtouch c m 1 1 0 0 0).l.old
      · rw [if_pos hp] at eO
        refine (oStep_tally (Q := fun w' => ∃ H, WordsOk c (Um.mtouch c m 1 1 0 0 0) ∧ Sx bs w0 w' (putL l [(i, B, memL c C (Um.mtouch c m 1 1 0 0 0)), (j, C, rowW (Um.mtouch c m 1 1 0 0 0).ws c.n), (k, P, [.func (.func 61) #[] #[.pointer (some ⟨K, 0, none⟩)], .int .i64 sl, .int .u64 (s : Nat), .int .u64 (q0 : Nat), .pointer (some ⟨H, 0, none⟩), .func (.func 86) #[.pointer (some ⟨P, 0, none⟩)] #[], .int .i64 te, .int .u64 (th : Nat), .int .u64 (tn : Nat)])] ++ [(H, hlpL (Um.mtouch c m 1 1 0 0 0).l.old 0 0)]) e) (hS.get k hk) ((oTally_h hS i j k hi hj hk hij hik hjk hr i1 i8 h1 _ rfl hp).mono ?_)).mono ?_
        · rintro r w' ⟨H, e1, e2, e4⟩
          exact ⟨e1, H, e2, e4⟩
        rintro r w' ⟨rfl, H, _, hSn⟩
        subst eO
        refine ⟨rfl, hO', some ⟨H, 0, none⟩, q0, [(H, hlpL (Um.mtouch c m 1 1 0 0 0).l.old 0 0)], .inl ⟨rfl, H, rfl, rfl⟩, ⟨hq.1, fun h => (by rcases h with h | h <;> cases h)⟩, ?_⟩
        rw [put_same4 (z := (K, [.int .i64 sl])) hn hin hjn hkn]
        exact hSn
      · rw [if_neg hp] at eO
        have hwq : Um.Word (Um.seqN (Um.mtouch c m 1 1 0 0 0).l.old) := Um.seq_isword (Um.old_word i1)
        refine (oStep_tally (hS.get k hk) (oTally_n hS i j k hi hj hk hij hik hjk hr i1 i8 h1 _ rfl hp)).mono ?_
        rintro r w' ⟨rfl, _, hSn⟩
        subst eO
        refine ⟨rfl, hO', nt, Um.seqN (Um.mtouch c m 1 1 0 0 0).l.old, [], .inr ⟨(show 4 ≠ 3 by decide), rfl⟩, ⟨hwq, fun _ => rfl⟩, ?_⟩
        rw [List.append_nil, put_same4 (z := (K, [.int .i64 sl])) hn hin hjn hkn]
        exact hSn
    | 4, _ =>
      have eO : O = ⟨Um.mtouch c m 2 5 sl 0 q, sl, 5, s, q, w1, hn1, hs1, te, th, tn⟩ := hO
      obtain rfl : q0 = q := hq.2 (.inl rfl)
      refine (oStep_note (hS.get k hk) (oNote_x hS i j k hi hj hk hij hik hjk hr i1 i8 h1 _ rfl i3)).mono ?_
      rintro r w' ⟨rfl, _, hSn⟩
      subst eO
      refine ⟨rfl, hO', nt, q0, [], .inr ⟨(show 5 ≠ 3 by decide), rfl⟩, ⟨i3, fun _ => rfl⟩, ?_⟩
      rw [List.append_nil, put_same4 (z := (K, [.int .i64 sl])) hn hin hjn hkn]
      exact hSn
    | 5, _ =>
      have eO : O = ⟨Um.mtouch c m 2 4 sl 0 (Um.moveN s 2 false), sl, 6, s, q, w1, hn1, hs1, 0, Um.mkN sl (Um.gnN s), q⟩ := hO
      obtain rfl : q0 = q := hq.2 (.inr rfl)
      refine (oStep_start (hS.get k hk) (oStart_x hS i j k hi hj hk hij hik hjk hr i1 i8 h1 _ rfl i2)).mono ?_
      rintro r w' ⟨rfl, _, hSn⟩
      subst eO
      refine ⟨rfl, hO', nt, q0, [], .inr ⟨(show 6 ≠ 3 by decide), rfl⟩, ⟨i3, fun h => (by rcases h with h | h <;> cases h)⟩, ?_⟩
      rw [List.append_nil, put_same4 (z := (K, [.int .i64 sl])) hn hin hjn hkn]
      exact hSn
    | 6, _ =>
      have eO : O = ⟨m, sl, 6, s, q, w1, hn1, hs1, te, th, tn⟩ := hO
      refine (oStep_none (hS.get k hk) _).mono ?_
      rintro r w' ⟨rfl, rfl⟩
      subst eO
      refine ⟨rfl, hO', nt, q0, [], .inr ⟨(show 6 ≠ 3 by decide), rfl⟩, hq, ?_⟩
      rw [List.append_nil, put_same4 (z := (K, [.int .i64 sl])) hn hin hjn hkn]
      unfold putL putL putL putL
      dsimp only
      rw [set_same hi, set_same hj, set_same hk]
      exact hS

theorem oDone_any {o : Um.Os} {q0 : Nat} (hB : BlkAt w P (opnL K P nt q0 o)) (h6 : o.nx ≤ 6) : Calls Try.prog 17 #[.pointer (some ⟨P, 0, none⟩)] w fun r w' => r = .returned (.bool (decide (o.nx = 6))) ∧ w' = w := by
  obtain ⟨m, sl, nx, s, q, w1, hn1, hs1, te, th, tn⟩ := o
  dsimp only at *
  match nx, h6 with
  | 0, _ => exact oDone_f _ _ _ hB
  | 1, _ => exact oDone_f _ _ _ hB
  | 2, _ => exact oDone_f _ _ _ hB
  | 3, _ => exact oDone_f _ _ _ hB
  | 4, _ => exact oDone_f _ _ _ hB
  | 5, _ => exact oDone_f _ _ _ hB
  | 6, _ => exact oDone_n hB

theorem oAnswer_any {o : Um.Os} {q0 : Nat} (hB : BlkAt w P (opnL K P nt q0 o)) : Calls Try.prog 18 #[.pointer (some ⟨P, 0, none⟩)] w fun r w' => r = .returned (.agg #[.int .i64 o.te, .int .u64 (o.th : Nat), .int .u64 (o.tn : Nat)]) ∧ Below w.heap.size w w' := oAnswer_b hB

theorem onew_any (hS : Sx bs w0 w l e) (m : Um.Mm) : Calls Try.prog 11 #[] w fun r w' => ∃ P K, r = .returned (.pointer (some ⟨P, 0, none⟩)) ∧ Sx bs w0 w' (l ++ [(P, opnL K P none 0 (Um.onew m)), (K, [.int .i64 0])]) e := oNew_x hS

theorem onew_ok {c : Um.Cf} (hr : c.r = true) {m : Um.Mm} (hw : WordsOk c m) : Um.Ook c (Um.onew m) := by
  have := c.rb hr
  exact ⟨hw, Um.zero_word, Um.zero_word, Um.zero_word, Um.zero_word, (show 0 ≤ 4 by decide), (show 0 ≤ 6 by decide), (show (0 : Int) ≤ 0 by decide), (show 0 ≤ c.s by omega), Um.zero_word, Um.zero_word, fun _ => (show 0 < c.s by omega)⟩

theorem qb_new (m : Um.Mm) : QB (Um.onew m) 0 := ⟨Um.zero_word, fun h => (by rcases h with h | h <;> cases h)⟩

theorem hb_none {o : Um.Os} (nt : Option Addr) (h : o.nx ≠ 3) : HB o nt [] := .inr ⟨h, rfl⟩

theorem HB.nil {o : Um.Os} {nt : Option Addr} {hb : List (Nat × List Value)} (h : HB o nt hb) (h3 : o.nx ≠ 3) : hb = [] := (h.resolve_left (fun q => h3 q.1)).2

/-- a step that begins no help, and is none -/
theorem oStep_p {q0 : Nat} (hS : Sx bs w0 w l e) (i j k n : Nat) (o O : Um.Os) (hO : O = Um.ostep c o) (h3 : o.nx ≠ 3) (h3' : O.nx ≠ 3) (hq : QB o q0) (hi : l[i]? = some (B, memL c C o.m)) (hj : l[j]? = some (C, rowW o.m.ws c.n)) (hk : l[k]? = some (P, opnL K P nt q0 o)) (hn : l[n]? = some (K, [.int .i64 o.sl])) (hij : i ≠ j) (hik : i ≠ k) (hjk : j ≠ k) (hin : i ≠ n) (hjn : j ≠ n) (hkn : k ≠ n) (hr : c.r = true) (ho : Um.Ook c o) :
    Calls Try.prog 14 #[.pointer (some ⟨P, 0, none⟩), .pointer (some ⟨B, 0, none⟩)] w fun r w' => r = .returned (.tuple #[]) ∧ Um.Ook c O ∧ ∃ nt' q', QB O q' ∧ Sx bs w0 w' (putL l [(i, B, memL c C O.m), (j, C, rowW O.m.ws c.n), (k, P, opnL K P nt' q' O), (n, K, [.int .i64 O.sl])]) e := by
  refine (oStep_any (hb := []) (by rw [List.append_nil]; exact hS) i j k n o O hO (hb_none nt h3) hq hi hj hk hn hij hik hjk hin hjn hkn hr ho).mono ?_
  rintro r w' ⟨e1, e2, nt', q', hb', e4, e5, e6⟩
  obtain rfl := e4.nil h3'
  rw [List.append_nil] at e6
  exact ⟨e1, e2, nt', q', e5, e6⟩

end

section
variable {bs : List Nat} {w0 w : World} {l e : List (Nat × List Value)} {B C P K : Nat} {c : Um.Cf} {nt : Option Addr}

set_option maxHeartbeats 4000000 in
theorem ends9_x {q0 : Nat} (hS : Sx bs w0 w l e) (i j k n : Nat) (o : Um.Os) (h3 : o.nx ≠ 3) (hq : QB o q0) (hi : l[i]? = some (B, memL c C o.m)) (hj : l[j]? = some (C, rowW o.m.ws c.n)) (hk : l[k]? = some (P, opnL K P nt q0 o)) (hn : l[n]? = some (K, [.int .i64 o.sl])) (hij : i ≠ j) (hik : i ≠ k) (hjk : j ≠ k) (hin : i ≠ n) (hjn : j ≠ n) (hkn : k ≠ n) (hr : c.r = true) (ho : Um.Ook c o) (most : Nat) (hm : most ≤ 100) (H : Um.Os) (hH : H = Um.oit c o most) :
    Calls Try.prog 23 #[.pointer (some ⟨P, 0, none⟩), .pointer (some ⟨B, 0, none⟩), .int .i64 (most : Nat)] w fun r w' => ∃ N : Nat, r = .returned (.int .i64 (N : Nat)) ∧ N ≤ most ∧ (N < most → (Um.oit c o N).nx = 6) ∧ (∀ q, q < N → (Um.oit c o q).nx ≠ 6) ∧ Um.Ook c H ∧ ∃ nt' q', QB H q' ∧ Sx bs w0 w' (putL l [(i, B, memL c C H.m), (j, C, rowW H.m.ws c.n), (k, P, opnL K P nt' q' H), (n, K, [.int .i64 H.sl])]) e := by
  have HS := hide hS
  have HI := hide (And.intro hi (And.intro hj (And.intro hk hn)))
  have hL := hS.enter4 i j k n hi hj hk hn hij hik hjk hin hjn hkn
  have HR := hide hr
  have HO := hide (fun k => Um.oit_ok ho k)
  have HH := hide hH
  have HQ0 := hide hq
  have H3 := hide h3
  clear hS hi hj hk hn hr ho hH hq h3
  have hS := hL
  clear hL
  go_enter Try.func23, Try.ntmps23
  go_wp2_with fail
  go_loopw [9] (fun i wr => ∃ (q : Nat) (nt' : Option Addr) (pq : Nat) (hb : List (Nat × List Value)), q ≤ most ∧ i = .int .i64 q ∧ Hid (∀ k, k < q → (Um.oit c o k).nx ≠ 6) ∧ Hid (HB (Um.oit c o q) nt' hb) ∧ Hid (QB (Um.oit c o q) pq) ∧ Hid (Sx [B, C, P, K] w wr ([(B, memL c C (Um.oit c o q).m), (C, rowW (Um.oit c o q).m.ws c.n), (P, opnL K P nt' pq (Um.oit c o q)), (K, [.int .i64 (Um.oit c o q).sl])] ++ hb) [])) (fun i _ => most - (intOf i).toNat)
  case atStart => exact ⟨0, nt, q0, [], Nat.zero_le _, rfl, hide (fun _ h => absurd h (Nat.not_lt_zero _)), hide (hb_none nt (unhide H3)), HQ0, hide (by rw [List.append_nil]; exact hS)⟩
  case round =>
    clear hS
    rename_i wr
    obtain ⟨q, nt', pq, hb, hq, rfl, HQ, HHB, HPQ, HS3⟩ := hrel
    have hS := unhide HS3
    clear HS3
    by_cases hlt : q < most
    · have hlti : (q : Int) < (most : Int) := by omega
      by_cases hd : (Um.oit c o q).nx = 6
      · have hS' := (unhide HS).back4 i j k n (unhide HI).1 (unhide HI).2.1 (unhide HI).2.2.1 (unhide HI).2.2.2 hS
        have HE := hide (show Um.oit c o q = H by rw [unhide HH]; exact (Um.oit_done hd (by omega)).symm)
        have HD := hide (oDone_any (hS.get 2 rfl) ((unhide HO) q).nx)
        rw [decide_eq_true hd] at HD
        have Hd := hide hd
        have HS4 := hide hS'
        clear hS hS' hd
        go_wp2_with fail
        refine (unhide HD).mono ?_
        rintro r u ⟨rfl, rfl⟩
        clear HD
        go_wp2
        go_ret
        refine ⟨q, rfl, hq, fun _ => unhide Hd, unhide HQ, ?_⟩
        have hS5 := unhide HS4
        have hO5 := (unhide HO) q
        have hP5 := unhide HPQ
        rw [unhide HE] at hS5 hO5 hP5
        exact ⟨hO5, nt', pq, hP5, hS5⟩
      · have HD := hide (oDone_any (hS.get 2 rfl) ((unhide HO) q).nx)
        rw [decide_eq_false hd] at HD
        have Hd := hide hd
        clear hd
        go_wp2_with fail
        refine (unhide HD).mono ?_
        rintro r u ⟨rfl, rfl⟩
        clear HD
        go_wp2_with fail
        refine (oStep_any hS 0 1 2 3 _ (Um.oit c o (q + 1)) rfl (unhide HHB) (unhide HPQ) rfl rfl rfl rfl (by decide) (by decide) (by decide) (by decide) (by decide) (by decide) (unhide HR) ((unhide HO) q)).mono ?_
        rintro r u3 ⟨rfl, _, nt2, pq2, hb2, hHB2, hPQ2, hSn⟩
        clear hS
        dsimp only [putL, List.set] at hSn
        have HS6 := hide hSn
        have HHB2 := hide hHB2
        have HPQ2 := hide hPQ2
        clear hSn hHB2 hPQ2
        go_wp2
        refine ⟨⟨q + 1, nt2, pq2, hb2, by omega, by go_num, hide (fun k hk => ?_), HHB2, HPQ2, HS6⟩, by simp [intOf]; omega⟩
        by_cases e : k = q
        · subst e; exact unhide Hd
        · exact (unhide HQ) k (by omega)
    · have hge : ¬ (q : Int) < (most : Int) := by omega
      obtain rfl : q = most := by omega
      have hS' := (unhide HS).back4 i j k n (unhide HI).1 (unhide HI).2.1 (unhide HI).2.2.1 (unhide HI).2.2.2 hS
      have HS4 := hide hS'
      clear hS hS'
      go_wp2
      go_ret
      have hS5 := unhide HS4
      have hO5 := (unhide HO) q
      have hP5 := unhide HPQ
      rw [← unhide HH] at hS5 hO5 hP5
      exact ⟨q, rfl, Nat.le_refl _, fun h => absurd h (Nat.lt_irrefl _), unhide HQ, hO5, nt', pq, hP5, hS5⟩

end

set_option maxHeartbeats 1000000 in
theorem of9_any (a b : Int) (w : World) : Calls Try.prog 20 #[.int .i64 a, .int .i64 b] w fun r w' => r = .returned (.agg #[.int .i64 a, .int .i64 b]) ∧ Below w.heap.size w w' := by
  go_enter Try.func20, Try.ntmps20
  go_wp2
  exact bodyPost_ret (v := (.agg #[.int .i64 a, .int .i64 b])) (by simp [results, Try.results20, go_sem]) rfl ⟨rfl, (Below.refl _ _).alloc (Nat.le_refl _) _⟩

end Go.Proofs.Ytkiaogbddfjkkaa

/-
  The walk of layer 9's first look: the one slot of a world, twice.
-/
namespace Go.Proofs.Ytkiaogbddfjkkaa
set_option maxRecDepth 100000
open Go.RowKit Go.Sort

/-- '==' of two answers -/
theorem eqAns (a b c a' b' c' : Int) (w : World) :
    (Op.equalIn 10000 45 (.agg #[.int .i64 a, .int .u64 b, .int .u64 c]) (.agg #[.int .i64 a', .int .u64 b', .int .u64 c'])).run Try.prog w = .ok (decide (a = a' ∧ b = b' ∧ c = c')) w := by
  rw [show (10000:Nat) = 9999 + 1 from rfl]
  rw [run_equalIn_agg w 9999 _ _ _ (by kernel_rfl) (by kernel_rfl)]
  go_simp
  (repeat' split) <;> simp_all

theorem neqAns {a b c a' b' c' : Int} {r : Bool} (hr : r = decide (a = a' ∧ b = b' ∧ c = c')) (w : World) :
    (binOp .neq 45 (.agg #[.int .i64 a, .int .u64 b, .int .u64 c]) (.agg #[.int .i64 a', .int .u64 b', .int .u64 c'])).run Try.prog w = .ok (.bool (!r)) w := by
  rw [run_neq_struct, eqAns, hr]
  rfl

theorem eqlAns {a b c a' b' c' : Int} {r : Bool} (hr : r = decide (a = a' ∧ b = b' ∧ c = c')) (w : World) :
    (binOp .eql 45 (.agg #[.int .i64 a, .int .u64 b, .int .u64 c]) (.agg #[.int .i64 a', .int .u64 b', .int .u64 c'])).run Try.prog w = .ok (.bool r) w := by
  rw [run_eql_struct, eqAns, hr]
  rfl

def oc0 : Um.Cf := ⟨1, 1, 1, 9, 9⟩
def om1 : Um.Mm := Um.mtouch oc0 ⟨fun _ => 0, 0, Um.noT⟩ 2 1 0 0 80
def oa9 : Um.Os := Um.oit oc0 (Um.onew om1) 30
def ob9 : Um.Os := Um.oit oc0 (Um.onew oa9.m) 30
def om3 : Um.Mm := Um.mtouch oc0 ob9.m 1 4 0 0 0
def om4 : Um.Mm := Um.mtouch oc0 om3 1 5 0 0 0

theorem oc0_r : oc0.r = true := by decide +kernel

theorem oa_n {n : Nat} (h1 : n < 30 → (Um.oit oc0 (Um.onew om1) n).nx = 6) (h2 : ∀ q, q < n → (Um.oit oc0 (Um.onew om1) q).nx ≠ 6) : n = 5 := by
  have a5 : (Um.oit oc0 (Um.onew om1) 5).nx = 6 := by decide +kernel
  have h4 : n ≤ 5 := by
    rcases Nat.lt_or_ge 5 n with h | h
    · exact absurd a5 (h2 5 h)
    · exact h
  have h5 := h1 (by omega)
  have hA : (Um.oit oc0 (Um.onew om1) 0).nx ≠ 6 ∧ (Um.oit oc0 (Um.onew om1) 1).nx ≠ 6 ∧ (Um.oit oc0 (Um.onew om1) 2).nx ≠ 6 ∧ (Um.oit oc0 (Um.onew om1) 3).nx ≠ 6 ∧ (Um.oit oc0 (Um.onew om1) 4).nx ≠ 6 := by decide +kernel
  match n, h4, h5 with
  | 0, _, h => exact absurd h hA.1
  | 1, _, h => exact absurd h hA.2.1
  | 2, _, h => exact absurd h hA.2.2.1
  | 3, _, h => exact absurd h hA.2.2.2.1
  | 4, _, h => exact absurd h hA.2.2.2.2
  | 5, _, _ => rfl

theorem ob_n {n : Nat} (h1 : n < 30 → (Um.oit oc0 (Um.onew oa9.m) n).nx = 6) (h2 : ∀ q, q < n → (Um.oit oc0 (Um.onew oa9.m) q).nx ≠ 6) : n = 1 := by
  have a1 : (Um.oit oc0 (Um.onew oa9.m) 1).nx = 6 := by decide +kernel
  have h4 : n ≤ 1 := by
    rcases Nat.lt_or_ge 1 n with h | h
    · exact absurd a1 (h2 1 h)
    · exact h
  have h5 := h1 (by omega)
  have hA : (Um.oit oc0 (Um.onew oa9.m) 0).nx ≠ 6 := by decide +kernel
  match n, h4, h5 with
  | 0, _, h => exact absurd h hA
  | 1, _, _ => rfl

set_option maxHeartbeats 8000000 in
theorem oAlive_any (w : World) : Calls Try.prog 12 #[] w fun e w' => e = .returned (.bool true) ∧ Below w.heap.size w w' := by
  have hS := Sx.new w
  go_enter Try.func12, Try.ntmps12
  go_wp2_with fail
  refine (new_x hS oc0 oc0_r).mono ?_
  rintro r u ⟨B, C, rfl, hWn, hSn⟩
  clear hS
  have hS := hSn
  clear hSn
  dsimp only [putL, List.set, List.cons_append, List.nil_append] at hS
  have HW0 := hide hWn
  clear hWn
  go_wp2_with fail
  refine (onew_any hS om1).mono ?_
  rintro r u ⟨Pa, Ka, rfl, hSn⟩
  clear hS
  have hS := hSn
  clear hSn
  dsimp only [putL, List.set, List.cons_append, List.nil_append] at hS
  go_wp2_with fail
  refine (onew_any hS oa9.m).mono ?_
  rintro r u ⟨Pb, Kb, rfl, hSn⟩
  clear hS
  have hS := hSn
  clear hSn
  dsimp only [putL, List.set, List.cons_append, List.nil_append] at hS
  go_wp2_with fail
  refine (of9_any 1 0 _).mono ?_
  rintro r u ⟨rfl, hb⟩
  replace hS := hS.call hb
  clear hb
  go_wp2_with fail
  refine (mStore_x hS 0 1 rfl rfl (by decide) oc0_r (unhide HW0) 1 0 80 (by unfold Um.Word; omega) (by decide) (by decide) om1 rfl).mono ?_
  rintro r u ⟨rfl, hWn, hSn⟩
  clear hS
  have hS := hSn
  clear hSn
  dsimp only [putL, List.set, List.cons_append, List.nil_append] at hS
  have HW1 := hide hWn
  clear hWn
  go_wp2_with fail
  refine (ends9_x hS 0 1 2 3 (Um.onew om1) (show 0 ≠ 3 by decide) (qb_new _) rfl rfl rfl rfl (by decide) (by decide) (by decide) (by decide) (by decide) (by decide) oc0_r (onew_ok oc0_r (unhide HW1)) 30 (by decide) oa9 rfl).mono ?_
  rintro r u ⟨n, rfl, hn1, hn2, hn3, hOn, nt, q0, hQn, hSn⟩
  clear hS
  have hS := hSn
  clear hSn
  dsimp only [putL, List.set, List.cons_append, List.nil_append] at hS
  obtain rfl : n = 5 := oa_n hn2 hn3
  have HOoa9 := hide hOn
  clear hn1 hn2 hn3 hOn hQn
  go_wp2_with fail
  refine (ends9_x hS 0 1 4 5 (Um.onew oa9.m) (show 0 ≠ 3 by decide) (qb_new _) rfl rfl rfl rfl (by decide) (by decide) (by decide) (by decide) (by decide) (by decide) oc0_r (onew_ok oc0_r (unhide HOoa9).wd) 30 (by decide) ob9 rfl).mono ?_
  rintro r u ⟨n, rfl, hn1, hn2, hn3, hOn, nt, q0, hQn, hSn⟩
  clear hS
  have hS := hSn
  clear hSn
  dsimp only [putL, List.set, List.cons_append, List.nil_append] at hS
  obtain rfl : n = 1 := ob_n hn2 hn3
  have HOob9 := hide hOn
  clear hn1 hn2 hn3 hOn hQn
  go_wp2_with fail
  refine (oDone_any (hS.get 2 rfl) (unhide HOoa9).nx).mono ?_
  rintro r u ⟨rfl, rfl⟩
  rw [show decide (oa9.nx = 6) = true by decide +kernel]
  go_wp2_with fail
  refine (oDone_any (hS.get 4 rfl) (unhide HOob9).nx).mono ?_
  rintro r u ⟨rfl, rfl⟩
  rw [show decide (ob9.nx = 6) = true by decide +kernel]
  go_wp2_with fail
  refine (oAnswer_any (hS.get 2 rfl)).mono ?_
  rintro r u ⟨rfl, hb⟩
  replace hS := hS.call hb
  clear hb
  rw [show oa9.te = 0 by decide +kernel, show ((oa9.th : Nat) : Int) = 1 by decide +kernel, show ((oa9.tn : Nat) : Int) = 5 by decide +kernel]
  have heoa9 := fun w => eqlAns (a := 0) (b := 1) (c := 5) (a' := 0) (b' := 1) (c' := 5) (r := true) (by decide) w
  go_wp2_with fail
  refine (oAnswer_any (hS.get 4 rfl)).mono ?_
  rintro r u ⟨rfl, hb⟩
  replace hS := hS.call hb
  clear hb
  rw [show ob9.te = 6 by decide +kernel, show ((ob9.th : Nat) : Int) = 0 by decide +kernel, show ((ob9.tn : Nat) : Int) = 0 by decide +kernel]
  have heob9 := fun w => eqlAns (a := 6) (b := 0) (c := 0) (a' := 6) (b' := 0) (c' := 0) (r := true) (by decide) w
  go_wp2_with fail
  refine (of9_any 4 0 _).mono ?_
  rintro r u ⟨rfl, hb⟩
  replace hS := hS.call hb
  clear hb
  go_wp2_with fail
  refine (mLoad_x hS 0 1 rfl rfl (by decide) oc0_r (unhide HOob9).wd 4 0 (by decide) (by decide) om3 rfl).mono ?_
  rintro r u ⟨rfl, hWn, hSn⟩
  clear hS
  have hS := hSn
  clear hSn
  dsimp only [putL, List.set, List.cons_append, List.nil_append] at hS
  have HW3 := hide hWn
  clear hWn
  rw [show ((om3.l.old : Nat) : Int) = 268435456 by decide +kernel]
  go_wp2_with fail
  refine (rNew01_any 2 _).mono ?_
  rintro r u ⟨rfl, hb⟩
  replace hS := hS.call hb
  clear hb
  rw [show Um.packV 0 2 false false false 0 0 = 268435456 by decide +kernel]
  go_wp2_with fail
  refine (of9_any 5 0 _).mono ?_
  rintro r u ⟨rfl, hb⟩
  replace hS := hS.call hb
  clear hb
  go_wp2_with fail
  refine (mLoad_x hS 0 1 rfl rfl (by decide) oc0_r (unhide HW3) 5 0 (by decide) (by decide) om4 rfl).mono ?_
  rintro r u ⟨rfl, hWn, hSn⟩
  clear hS
  have hS := hSn
  clear hSn
  dsimp only [putL, List.set, List.cons_append, List.nil_append] at hS
  rw [show ((om4.l.old : Nat) : Int) = 5 by decide +kernel]
  have hB := hS.bel
  clear hS

  go_wp2
  go_ret
  exact ⟨rfl, hB⟩

end Go.Proofs.Ytkiaogbddfjkkaa

/-
  A world's size that was handed in: what its reading says of its cells.
-/
namespace Go.Proofs.Ytkiaogbddfjkkaa
set_option maxRecDepth 100000
open Go.ChangeShapes Go.WideShapes Go.ChangeAt Go.RowKit

theorem cellsCfg : Try.prog.cellsOf 24 = 5 := by kernel_rfl
theorem cellsCfgI : Try.prog.cellsOf 3 = 1 := by kernel_rfl
theorem cellsCfgU : Try.prog.cellsOf 22 = 1 := by kernel_rfl

theorem array5 {α : Type} {cs : Array α} (h : cs.size = 5) : ∃ c0 c1 c2 c3 c4, cs = #[c0, c1, c2, c3, c4] := by
  obtain ⟨l⟩ := cs
  match l, h with
  | [c0, c1, c2, c3, c4], _ => exact ⟨c0, c1, c2, c3, c4, rfl⟩

theorem list5 {α : Type} {cs : List α} (h : cs.length = 5) : ∃ c0 c1 c2 c3 c4, cs = [c0, c1, c2, c3, c4] := by
  match cs, h with
  | [c0, c1, c2, c3, c4], _ => exact ⟨c0, c1, c2, c3, c4, rfl⟩

set_option maxRecDepth 100000 in
theorem open_cfg {H : Type} {enc : TypeId × Value → H} {W : World} {base : Nat} {v : Value} {d : DataW H} {p : List MemPlace}
    (hv : Value.okWide Try.prog W .any base 24 v) (h : DataW.Trod enc Try.prog W 0 (fun _ => true) true 24 v d p) :
    ∃ (t s k g : Int) (q : Nat), v = .agg #[.int .i64 t, .int .i64 s, .int .i64 k, .int .i64 g, .int .u64 q] ∧ (-9223372036854775808 ≤ t ∧ t ≤ 9223372036854775807) ∧ (-9223372036854775808 ≤ s ∧ s ≤ 9223372036854775807) ∧ (-9223372036854775808 ≤ k ∧ k ≤ 9223372036854775807) := by
  obtain ⟨cs, rfl, hsz⟩ := okWide_struct Try.underlying24 hv
  obtain ⟨c0, c1, c2, c3, c4, rfl⟩ := array5 (hsz.trans cellsCfg)
  obtain ⟨fuel, hf⟩ := h
  obtain ⟨xs, n, _, _, hl, hlen, hx⟩ := DataW.trod_struct Try.underlying24 hf
  obtain ⟨y0, y1, y2, y3, y4, rfl⟩ := list5 hlen
  obtain ⟨t, e0, _, k0⟩ := DataW.trod_int Try.underlying3 (hx 0 _ rfl)
  obtain ⟨s, e1, _, k1⟩ := DataW.trod_int Try.underlying3 (hx 1 _ rfl)
  obtain ⟨k, e2, _, k2⟩ := DataW.trod_int Try.underlying3 (hx 2 _ rfl)
  obtain ⟨g, e3, _, _⟩ := DataW.trod_int Try.underlying3 (hx 3 _ rfl)
  obtain ⟨q, e4, _, k4⟩ := DataW.trod_int Try.underlying22 (hx 4 _ rfl)
  obtain ⟨q', rfl, _⟩ := word_of k4
  simp [Value.cells, cellsCfgI, cellsCfgU] at e0 e1 e2 e3 e4
  subst e0 e1 e2 e3 e4
  exact ⟨t, s, k, g, q', rfl, int_of k0, int_of k1, int_of k2⟩

end Go.Proofs.Ytkiaogbddfjkkaa

/-
  Plain arithmetic of layer 9: two at once, over a new world. No Go in sight.
-/
namespace Um
set_option maxRecDepth 100000

theorem st_move (s st : Nat) (hs : st < 8) : stN (moveN s st false) = st := (move_parts s st false hs).2.1

theorem Cf.g_bd {c : Cf} (h : c.r = true) : 0 ≤ c.g ∧ c.g ≤ 1073741823 := by
  have := of_decide_eq_true (show decide _ = true from h)
  omega

/-- a word 0 is free -/
theorem fr_zero {c : Cf} (hr : c.r = true) : frN c 0 = true := by
  have := Cf.g_bd hr
  exact decide_eq_true ⟨rfl, by show ((0 : Nat) : Int) ≤ c.g; omega⟩

theorem fr_not {c : Cf} {x : Nat} (h : stN x ≠ 0) : frN c x = false := decide_eq_false (fun q => h q.1)

/-- a slot is one's: it was taken by it -/
def Owns (o : Os) (i : Int) : Prop := 2 ≤ o.nx ∧ (o.nx = 6 → o.te = 0) ∧ o.sl = i

structure Side9 (c : Cf) (m : Mm) (a b : Os) : Prop where
  nx : a.nx ≤ 6
  n3 : a.nx ≠ 3
  lo : 0 ≤ a.sl
  lt : a.nx ≤ 5 → a.sl < c.s
  s : 1 ≤ a.nx → a.nx ≤ 5 → a.s = 0
  pass : ∀ i : Int, 0 ≤ i → i < a.sl → Owns b i
  mine : Owns a a.sl → stN (m.ws (c.cl 4 a.sl).toNat) ≠ 0 ∧ a.sl < c.s
  end6 : a.nx = 6 → (a.te = 0 ∧ a.th = mkN a.sl 0) ∨ (a.te = 6 ∧ a.sl = c.s)

structure Duo9 (c : Cf) (m : Mm) (a b : Os) : Prop where
  tal : m.ws 0 = 0
  A : Side9 c m a b
  B : Side9 c m b a
  apart : ∀ i, Owns a i → ¬ Owns b i
  all : ∀ i : Int, 0 ≤ i → i < c.s → m.ws (c.cl 4 i).toNat = 0 ∨ Owns a i ∨ Owns b i

theorem Duo9.swap {c : Cf} {m : Mm} {a b : Os} (h : Duo9 c m a b) : Duo9 c m b a :=
  ⟨h.tal, h.B, h.A, fun i q r => h.apart i r q, fun i i0 i1 => (h.all i i0 i1).imp id Or.symm⟩

/-- the other one's side, behind a step -/
theorem Side9.other {c : Cf} {m m' : Mm} {a a' b : Os} (h : Side9 c m b a) (ho : ∀ i, Owns a i → Owns a' i) (hw : Owns b b.sl → m'.ws (c.cl 4 b.sl).toNat = m.ws (c.cl 4 b.sl).toNat) : Side9 c m' b a' :=
  ⟨h.nx, h.n3, h.lo, h.lt, h.s, fun i i0 i1 => ho i (h.pass i i0 i1), fun q => by rw [hw q]; exact h.mine q, h.end6⟩

theorem st_cell_ne {c : Cf} (hr : c.r = true) {i j : Int} (hi0 : 0 ≤ i) (hi1 : i < c.s) (hj0 : 0 ≤ j) (hj1 : j < c.s) (hne : i ≠ j) : c.cl 4 i ≠ c.cl 4 j := by
  have h1 := (sl_cells hr hi0 hi1).1
  have h2 := (sl_cells hr hj0 hj1).1
  intro e
  exact hne (cell_inj c.rb (show 0 ≤ c.cl 4 i by omega) (show 0 ≤ c.cl 4 j by omega) e).2

theorem st_snap_ne {c : Cf} (hr : c.r = true) {i j : Int} (hi0 : 0 ≤ i) (hi1 : i < c.s) (hj0 : 0 ≤ j) (hj1 : j < c.s) : c.cl 4 i ≠ c.cl 5 j := by
  have h1 := (sl_cells hr hi0 hi1).1
  have h2 := sl_cells hr hj0 hj1
  intro e
  have := (cell_inj c.rb (show 0 ≤ c.cl 4 i by omega) (show 0 ≤ c.cl 5 j by omega) e).1
  omega

/-- one passes a slot that is the other one's -/
theorem duo_pass {c : Cf} {m M : Mm} {a b : Os} (h : Duo9 c m a b) (hn : a.nx ≤ 1) (ho : Owns b a.sl) (hM : M.ws = m.ws) (s : Nat) : Duo9 c M (ogo c a M s) b := by
  have hlt := h.A.lt (by omega)
  have hlo := h.A.lo
  have hno : ∀ i, ¬ Owns a i := fun i q => by have := q.1; omega
  have hno2 : ∀ i, ¬ Owns (ogo c a M s) i := by
    intro i q
    unfold ogo at q
    split at q
    · have := q.2.1 rfl
      have : (6 : Int) = 0 := this
      omega
    · have : 2 ≤ 0 := q.1
      omega
  have hps : ∀ i : Int, 0 ≤ i → i < a.sl + 1 → Owns b i := by
    intro i i0 i1
    by_cases e : i = a.sl
    · rw [e]; exact ho
    · exact h.A.pass i i0 (by omega)
  refine ⟨by rw [hM]; exact h.tal, ?_, h.B.other (fun i q => absurd q (hno i)) (fun _ => by rw [hM]), fun i q => absurd q (hno2 i), fun i i0 i1 => ?_⟩
  · unfold ogo at hno2 ⊢
    split
    · rename_i hge
      rw [if_pos hge] at hno2
      exact ⟨(show 6 ≤ 6 by decide), (show 6 ≠ 3 by decide), (show 0 ≤ a.sl + 1 by omega), (fun q => absurd (show 6 ≤ 5 from q) (by decide)), (fun _ q => absurd (show 6 ≤ 5 from q) (by decide)), hps, fun q => absurd q (hno2 _), fun _ => .inr ⟨rfl, (show a.sl + 1 = c.s by omega)⟩⟩
    · rename_i hge
      rw [if_neg hge] at hno2
      exact ⟨(show 0 ≤ 6 by decide), (show 0 ≠ 3 by decide), (show 0 ≤ a.sl + 1 by omega), (fun _ => show a.sl + 1 < c.s by omega), (fun q => absurd (show 1 ≤ 0 from q) (by decide)), hps, fun q => absurd q (hno2 _), (fun q => by cases q)⟩
  · rw [hM]
    rcases h.all i i0 i1 with q | q | q
    · exact .inl q
    · exact absurd q (hno i)
    · exact .inr (.inr q)

/-- a step of the first one -/
theorem duo_step {c : Cf} (hr : c.r = true) {m : Mm} {a b : Os} (ha : a.m = m) (h : Duo9 c m a b) : Duo9 c (ostep c a).m (ostep c a) b := by
  subst ha
  have h6 := h.A.nx
  have h3 := h.A.n3
  have hlo := h.A.lo
  rcases (by omega : a.nx = 0 ∨ a.nx = 1 ∨ a.nx = 2 ∨ a.nx = 4 ∨ a.nx = 5 ∨ a.nx = 6) with e | e | e | e | e | e
  · -- look
    have hlt := h.A.lt (by omega)
    obtain ⟨s1, _, _⟩ := sl_cells hr hlo hlt
    have hno : ∀ i, ¬ Owns a i := fun i q => by have := q.1; omega
    have hws : (mtouch c a.m 1 4 a.sl 0 0).ws = a.m.ws := load_ws c a.m 4 a.sl
    have hold : (mtouch c a.m 1 4 a.sl 0 0).l.old = a.m.ws (c.cl 4 a.sl).toNat := by rw [load_old, if_pos (by omega)]
    unfold ostep
    rw [if_pos e, hold]
    rcases h.all a.sl hlo hlt with q | q | q
    · rw [q, if_pos (fr_zero hr)]
      have hno2 : ∀ i, ¬ Owns ⟨mtouch c a.m 1 4 a.sl 0 0, a.sl, 1, 0, a.q, a.w, a.hn, a.hs, a.te, a.th, a.tn⟩ i := fun i r => by have : 2 ≤ 1 := r.1; omega
      exact ⟨(by show (mtouch c a.m 1 4 a.sl 0 0).ws 0 = 0; rw [hws]; exact h.tal), ⟨(show 1 ≤ 6 by decide), (show 1 ≠ 3 by decide), hlo, fun _ => hlt, fun _ _ => rfl, h.A.pass, fun r => absurd r (hno2 _), (fun r => by cases r)⟩,
        h.B.other (fun i r => absurd r (hno i)) (fun _ => by show (mtouch c a.m 1 4 a.sl 0 0).ws _ = _; rw [hws]), fun i r => absurd r (hno2 i), fun i i0 i1 => by
          show (mtouch c a.m 1 4 a.sl 0 0).ws _ = 0 ∨ _
          rw [hws]
          rcases h.all i i0 i1 with r | r | r
          · exact .inl r
          · exact absurd r (hno i)
          · exact .inr (.inr r)⟩
    · exact absurd q (hno _)
    · have hst : stN (a.m.ws (c.cl 4 a.sl).toNat) ≠ 0 := by
        have := h.B.mine (by rw [q.2.2]; exact q)
        rw [q.2.2] at this
        exact this.1
      rw [if_neg (by rw [fr_not hst]; decide)]
      have := duo_pass (M := mtouch c a.m 1 4 a.sl 0 0) h (by omega) q hws (a.m.ws (c.cl 4 a.sl).toNat)
      have e1 : (ogo c a (mtouch c a.m 1 4 a.sl 0 0) (a.m.ws (c.cl 4 a.sl).toNat)).m = mtouch c a.m 1 4 a.sl 0 0 := by unfold ogo; split <;> rfl
      rw [e1]
      exact this
  · -- take
    have hlt := h.A.lt (by omega)
    obtain ⟨s1, _, _⟩ := sl_cells hr hlo hlt
    have hs0 := h.A.s (by omega) (by omega)
    have hno : ∀ i, ¬ Owns a i := fun i q => by have := q.1; omega
    have hdn := swap_done c a.m 4 a.sl a.s (moveN a.s 1 false)
    unfold ostep
    rw [if_neg (by omega), if_pos e]
    rcases h.all a.sl hlo hlt with q | q | q
    · rw [decide_eq_true (show _ from ⟨by omega, by rw [q, hs0]⟩)] at hdn
      rw [if_pos hdn]
      have hb0 : ¬ Owns b a.sl := by
        intro r
        have := h.B.mine (by rw [r.2.2]; exact r)
        rw [r.2.2, q] at this
        exact this.1 rfl
      have hne : ∀ i : Int, 0 ≤ i → i < c.s → i ≠ a.sl → (mtouch c a.m 3 4 a.sl a.s (moveN a.s 1 false)).ws (c.cl 4 i).toNat = a.m.ws (c.cl 4 i).toNat := by
        intro i i0 i1 hi
        have := st_cell_ne hr i0 i1 hlo hlt hi
        have := (sl_cells hr i0 i1).1
        rw [swap_ws, if_neg (by rintro ⟨r, _⟩; omega)]
      have hme : (mtouch c a.m 3 4 a.sl a.s (moveN a.s 1 false)).ws (c.cl 4 a.sl).toNat = moveN a.s 1 false := by rw [swap_ws, if_pos ⟨by omega, by rw [q, hs0]⟩]
      refine ⟨?_, ⟨(show 2 ≤ 6 by decide), (show 2 ≠ 3 by decide), hlo, fun _ => hlt, fun _ _ => hs0, h.A.pass, fun _ => ⟨?_, hlt⟩, (fun r => by cases r)⟩, h.B.other (fun i r => absurd r (hno i)) (fun r => ?_), fun i r => ?_, fun i i0 i1 => ?_⟩
      · show (mtouch c a.m 3 4 a.sl a.s (moveN a.s 1 false)).ws 0 = 0
        rw [swap_ws, if_neg (by rintro ⟨r, _⟩; omega)]
        exact h.tal
      · show stN ((mtouch c a.m 3 4 a.sl a.s (moveN a.s 1 false)).ws (c.cl 4 a.sl).toNat) ≠ 0
        rw [hme, st_move _ _ (by decide)]
        decide
      · exact hne b.sl h.B.lo (h.B.mine r).2 (fun e => hb0 (by rw [← e]; exact r))
      · have : a.sl = i := r.2.2
        rw [← this]
        exact hb0
      · show (mtouch c a.m 3 4 a.sl a.s (moveN a.s 1 false)).ws _ = 0 ∨ _
        by_cases ei : i = a.sl
        · exact .inr (.inl ⟨(show 2 ≤ 2 by decide), (fun r => by cases r), ei.symm⟩)
        · rw [hne i i0 i1 ei]
          rcases h.all i i0 i1 with r | r | r
          · exact .inl r
          · exact absurd r (hno i)
          · exact .inr (.inr r)
    · exact absurd q (hno _)
    · have hst : stN (a.m.ws (c.cl 4 a.sl).toNat) ≠ 0 := by
        have := h.B.mine (by rw [q.2.2]; exact q)
        rw [q.2.2] at this
        exact this.1
      have hn0 : a.m.ws (c.cl 4 a.sl).toNat ≠ a.s := fun r => hst (by rw [r, hs0]; rfl)
      rw [decide_eq_false (fun r => hn0 r.2)] at hdn
      rw [if_neg (by rw [hdn]; decide)]
      have hws : (mtouch c a.m 3 4 a.sl a.s (moveN a.s 1 false)).ws = a.m.ws := by
        funext i
        rw [swap_ws]
        split
        · rename_i r
          exfalso
          refine hn0 ?_
          rw [← r.1]
          exact r.2
        · rfl
      have := duo_pass (M := mtouch c a.m 3 4 a.sl a.s (moveN a.s 1 false)) h (by omega) q hws a.s
      have e1 : (ogo c a (mtouch c a.m 3 4 a.sl a.s (moveN a.s 1 false)) a.s).m = mtouch c a.m 3 4 a.sl a.s (moveN a.s 1 false) := by unfold ogo; split <;> rfl
      rw [e1]
      exact this
  · -- tally
    have hlt := h.A.lt (by omega)
    have hws : (mtouch c a.m 1 1 0 0 0).ws = a.m.ws := load_ws c a.m 1 0
    have hold : (mtouch c a.m 1 1 0 0 0).l.old = 0 := by rw [load_old, cl_tally hr, if_pos (by decide)]; exact h.tal
    unfold ostep
    rw [if_neg (by omega), if_neg (by omega), if_pos e, hold, if_neg (by decide)]
    have ho : ∀ i, Owns a i ↔ Owns ⟨mtouch c a.m 1 1 0 0 0, a.sl, 4, a.s, seqN 0, a.w, a.hn, a.hs, a.te, a.th, a.tn⟩ i := fun i => ⟨fun r => ⟨(show 2 ≤ 4 by decide), (fun q => by cases q), r.2.2⟩, fun r => ⟨by omega, fun q => by omega, r.2.2⟩⟩
    exact ⟨(by show (mtouch c a.m 1 1 0 0 0).ws 0 = 0; rw [hws]; exact h.tal), ⟨(show 4 ≤ 6 by decide), (show 4 ≠ 3 by decide), hlo, fun _ => hlt, fun _ _ => h.A.s (by omega) (by omega), h.A.pass, fun r => by
        show stN ((mtouch c a.m 1 1 0 0 0).ws _) ≠ 0 ∧ _
        rw [hws]
        exact h.A.mine ((ho _).2 r), (fun r => by cases r)⟩,
      h.B.other (fun i r => (ho i).1 r) (fun _ => by show (mtouch c a.m 1 1 0 0 0).ws _ = _; rw [hws]), fun i r => h.apart i ((ho i).2 r), fun i i0 i1 => by
        show (mtouch c a.m 1 1 0 0 0).ws _ = 0 ∨ _
        rw [hws]
        exact (h.all i i0 i1).imp id (Or.imp (ho i).1 id)⟩
  · -- note
    have hlt := h.A.lt (by omega)
    obtain ⟨s1, s2, _⟩ := sl_cells hr hlo hlt
    have hne : ∀ i : Int, 0 ≤ i → i < c.s → (mtouch c a.m 2 5 a.sl 0 a.q).ws (c.cl 4 i).toNat = a.m.ws (c.cl 4 i).toNat := by
      intro i i0 i1
      have := st_snap_ne hr i0 i1 hlo hlt
      have := (sl_cells hr i0 i1).1
      rw [put_ws, if_neg (by omega)]
    unfold ostep
    rw [if_neg (by omega), if_neg (by omega), if_neg (by omega), if_neg (by omega), if_pos e]
    have ho : ∀ i, Owns a i ↔ Owns ⟨mtouch c a.m 2 5 a.sl 0 a.q, a.sl, 5, a.s, a.q, a.w, a.hn, a.hs, a.te, a.th, a.tn⟩ i := fun i => ⟨fun r => ⟨(show 2 ≤ 5 by decide), (fun q => by cases q), r.2.2⟩, fun r => ⟨by omega, fun q => by omega, r.2.2⟩⟩
    exact ⟨(by show (mtouch c a.m 2 5 a.sl 0 a.q).ws 0 = 0; rw [put_ws, if_neg (by omega)]; exact h.tal), ⟨(show 5 ≤ 6 by decide), (show 5 ≠ 3 by decide), hlo, fun _ => hlt, fun _ _ => h.A.s (by omega) (by omega), h.A.pass, fun r => by
        show stN ((mtouch c a.m 2 5 a.sl 0 a.q).ws _) ≠ 0 ∧ _
        rw [hne _ hlo hlt]
        exact h.A.mine ((ho _).2 r), (fun r => by cases r)⟩,
      h.B.other (fun i r => (ho i).1 r) (fun r => hne _ h.B.lo (h.B.mine r).2), fun i r => h.apart i ((ho i).2 r), fun i i0 i1 => by
        show (mtouch c a.m 2 5 a.sl 0 a.q).ws _ = 0 ∨ _
        rw [hne i i0 i1]
        exact (h.all i i0 i1).imp id (Or.imp (ho i).1 id)⟩
  · -- start
    have hlt := h.A.lt (by omega)
    have hs0 := h.A.s (by omega) (by omega)
    obtain ⟨s1, s2, _⟩ := sl_cells hr hlo hlt
    have hne : ∀ i : Int, 0 ≤ i → i < c.s → i ≠ a.sl → (mtouch c a.m 2 4 a.sl 0 (moveN a.s 2 false)).ws (c.cl 4 i).toNat = a.m.ws (c.cl 4 i).toNat := by
      intro i i0 i1 hi
      have := st_cell_ne hr i0 i1 hlo hlt hi
      have := (sl_cells hr i0 i1).1
      rw [put_ws, if_neg (by omega)]
    unfold ostep
    rw [if_neg (by omega), if_neg (by omega), if_neg (by omega), if_neg (by omega), if_neg (by omega), if_pos e]
    have ho : ∀ i, Owns a i ↔ Owns ⟨mtouch c a.m 2 4 a.sl 0 (moveN a.s 2 false), a.sl, 6, a.s, a.q, a.w, a.hn, a.hs, 0, mkN a.sl (gnN a.s), a.q⟩ i := fun i => ⟨fun r => ⟨(show 2 ≤ 6 by decide), fun _ => rfl, r.2.2⟩, fun r => ⟨by omega, fun q => by omega, r.2.2⟩⟩
    have hmy : Owns a a.sl := ⟨by omega, fun q => by omega, rfl⟩
    refine ⟨?_, ⟨(show 6 ≤ 6 by decide), (show 6 ≠ 3 by decide), hlo, (fun r => absurd (show 6 ≤ 5 from r) (by decide)), (fun _ r => absurd (show 6 ≤ 5 from r) (by decide)), h.A.pass, fun _ => ⟨?_, hlt⟩, fun _ => .inl ⟨rfl, ?_⟩⟩, h.B.other (fun i r => (ho i).1 r) (fun r => ?_), fun i r => h.apart i ((ho i).2 r), fun i i0 i1 => ?_⟩
    · show (mtouch c a.m 2 4 a.sl 0 (moveN a.s 2 false)).ws 0 = 0
      rw [put_ws, if_neg (by omega)]
      exact h.tal
    · show stN ((mtouch c a.m 2 4 a.sl 0 (moveN a.s 2 false)).ws (c.cl 4 a.sl).toNat) ≠ 0
      rw [put_ws, if_pos (by omega), st_move _ _ (by decide)]
      decide
    · show mkN a.sl (gnN a.s) = mkN a.sl 0
      rw [hs0]
      rfl
    · exact hne b.sl h.B.lo (h.B.mine r).2 (fun q => h.apart a.sl hmy (by rw [← q]; exact r))
    · show (mtouch c a.m 2 4 a.sl 0 (moveN a.s 2 false)).ws _ = 0 ∨ _
      by_cases ei : i = a.sl
      · exact .inr (.inl ((ho i).1 (by rw [ei]; exact hmy)))
      · rw [hne i i0 i1 ei]
        exact (h.all i i0 i1).imp id (Or.imp (ho i).1 id)
  · rw [ostep_6 e]
    exact h

end Um

/-
  Plain arithmetic of layer 9: two at once, to their end; commits that are counted meanwhile. No Go in sight.
-/
namespace Um
set_option maxRecDepth 100000

/-- how many steps are left at most, where nothing is pending -/
def pmu (c : Cf) (a : Os) : Nat :=
  if a.nx = 0 then 10 + 2 * (c.s - a.sl).toNat else if a.nx = 1 then 9 + 2 * (c.s - a.sl).toNat else if a.nx = 2 then 5 else if a.nx = 4 then 4 else if a.nx = 5 then 3 else 0

theorem pmu_go {c : Cf} {a : Os} {M : Mm} {s : Nat} : pmu c (ogo c a M s) < 9 + 2 * (c.s - a.sl).toNat := by
  unfold ogo
  split
  · show (0 : Nat) < _
    omega
  · show 10 + 2 * (c.s - (a.sl + 1)).toNat < _
    omega

theorem duo_mu {c : Cf} (hr : c.r = true) {a b : Os} (h : Duo9 c a.m a b) (hn : a.nx ≠ 6) : pmu c (ostep c a) < pmu c a := by
  have h6 := h.A.nx
  have h3 := h.A.n3
  rcases (by omega : a.nx = 0 ∨ a.nx = 1 ∨ a.nx = 2 ∨ a.nx = 4 ∨ a.nx = 5) with e | e | e | e | e
  · have hlt := h.A.lt (by omega)
    have : pmu c a = 10 + 2 * (c.s - a.sl).toNat := by unfold pmu; rw [if_pos e]
    rw [this]
    unfold ostep
    rw [if_pos e]
    split
    · show 9 + 2 * (c.s - a.sl).toNat < _
      omega
    · have := pmu_go (c := c) (a := a) (M := mtouch c a.m 1 4 a.sl 0 0) (s := (mtouch c a.m 1 4 a.sl 0 0).l.old)
      omega
  · have hlt := h.A.lt (by omega)
    have : pmu c a = 9 + 2 * (c.s - a.sl).toNat := by unfold pmu; rw [if_neg (by omega), if_pos e]
    rw [this]
    unfold ostep
    rw [if_neg (by omega), if_pos e]
    split
    · show (5 : Nat) < _
      omega
    · exact pmu_go
  · have hold : (mtouch c a.m 1 1 0 0 0).l.old = 0 := by rw [load_old, cl_tally hr, if_pos (by decide)]; exact h.tal
    have : pmu c a = 5 := by unfold pmu; rw [if_neg (by omega), if_neg (by omega), if_pos e]
    rw [this]
    unfold ostep
    rw [if_neg (by omega), if_neg (by omega), if_pos e, hold, if_neg (by decide)]
    show (4 : Nat) < 5
    decide
  · have : pmu c a = 4 := by unfold pmu; rw [if_neg (by omega), if_neg (by omega), if_neg (by omega), if_pos e]
    rw [this]
    unfold ostep
    rw [if_neg (by omega), if_neg (by omega), if_neg (by omega), if_neg (by omega), if_pos e]
    show (3 : Nat) < 4
    decide
  · have : pmu c a = 3 := by unfold pmu; rw [if_neg (by omega), if_neg (by omega), if_neg (by omega), if_neg (by omega), if_pos e]
    rw [this]
    unfold ostep
    rw [if_neg (by omega), if_neg (by omega), if_neg (by omega), if_neg (by omega), if_neg (by omega), if_pos e]
    show (0 : Nat) < 3
    decide

theorem pmu_le {c : Cf} (hr : c.r = true) {a b : Os} {m : Mm} (h : Side9 c m a b) : pmu c a ≤ 34 := by
  have hb := c.rb hr
  have := h.lo
  unfold pmu
  (repeat' split) <;> omega

theorem duo_ends {c : Cf} (hr : c.r = true) {a b : Os} (h : Duo9 c a.m a b) {k : Nat} (hk : 35 ≤ k) (A : Os) (hA : A = oit c a k) : Duo9 c A.m A b ∧ A.nx = 6 := by
  have main : ∀ k, Duo9 c (oit c a k).m (oit c a k) b ∧ (pmu c (oit c a k) + k ≤ pmu c a ∨ (oit c a k).nx = 6) := by
    intro k
    induction k with
    | zero => exact ⟨h, .inl (Nat.le_refl _)⟩
    | succ k ih =>
      obtain ⟨i1, i2⟩ := ih
      refine ⟨duo_step hr rfl i1, ?_⟩
      by_cases hn : (oit c a k).nx = 6
      · right
        show (ostep c (oit c a k)).nx = 6
        rw [ostep_6 hn]
        exact hn
      · rcases i2 with i2 | i2
        · have := duo_mu hr i1 hn
          left
          show pmu c (ostep c (oit c a k)) + (k + 1) ≤ _
          omega
        · exact absurd i2 hn
  have := pmu_le hr h.A
  obtain ⟨h1, h2⟩ := main k
  rw [← hA] at h1 h2
  refine ⟨h1, ?_⟩
  rcases h2 with h2 | h2
  · omega
  · exact h2

theorem duo_new {c : Cf} (hr : c.r = true) (m : Mm) (h0 : ∀ i, m.ws i = 0) : Duo9 c m (onew m) (onew m) := by
  have hb := c.rb hr
  have hno : ∀ i, ¬ Owns (onew m) i := fun i q => by have : 2 ≤ 0 := q.1; omega
  have hs : Side9 c m (onew m) (onew m) := ⟨(show 0 ≤ 6 by decide), (show 0 ≠ 3 by decide), (show (0 : Int) ≤ 0 by decide), (fun _ => show (0 : Int) < c.s by omega), (fun q => absurd (show 1 ≤ 0 from q) (by decide)), (fun i i0 i1 => by have : i < 0 := i1; omega), fun q => absurd q (hno _), (fun q => by cases q)⟩
  exact ⟨h0 0, hs, hs, fun i q => absurd q (hno i), fun i _ _ => .inl (h0 _)⟩

/-- what two tell -/
theorem duo_tell {c : Cf} (hr : c.r = true) {m : Mm} {a b : Os} (h : Duo9 c m a b) (ha : a.nx = 6) (hb : b.nx = 6) :
    (a.te = 0 ∨ b.te = 0) ∧ (a.te = 0 → b.te = 0 → a.th ≠ b.th) ∧ (2 ≤ c.s → a.te = 0 ∧ b.te = 0) ∧ (a.te = 0 ∨ a.te = 6) ∧ (b.te = 0 ∨ b.te = 6) := by
  have hc := c.rb hr
  have one : ∀ {x y : Os}, Duo9 c m x y → x.nx = 6 → y.nx = 6 → (x.te = 0 ∧ x.th = mkN x.sl 0 ∧ x.sl < c.s) ∨ (x.te = 6 ∧ y.te = 0 ∧ c.s < 2) := by
    intro x y hd hx hy
    rcases hd.A.end6 hx with q | q
    · exact .inl ⟨q.1, q.2, (hd.A.mine ⟨by omega, fun _ => q.1, rfl⟩).2⟩
    · refine .inr ⟨q.1, ?_, ?_⟩
      · exact (hd.A.pass 0 (by decide) (by omega)).2.1 hy
      · rcases Int.lt_or_le c.s 2 with r | r
        · exact r
        · have p0 := (hd.A.pass 0 (by decide) (by omega)).2.2
          have p1 := (hd.A.pass 1 (by decide) (by omega)).2.2
          omega
  have qa := one h ha hb
  have qb := one h.swap hb ha
  refine ⟨?_, ?_, ?_, ?_, ?_⟩
  · rcases qa with q | q
    · exact .inl q.1
    · exact .inr q.2.1
  · intro t1 t2
    rcases qa with q | q
    · rcases qb with r | r
      · intro e
        rw [q.2.1, r.2.1] at e
        have k1 : mok a.sl 0 = true := mok_iff.2 ⟨h.A.lo, by omega, by decide, by decide⟩
        have k2 : mok b.sl 0 = true := mok_iff.2 ⟨h.B.lo, by omega, by decide, by decide⟩
        have := (mk_inj k1 k2).1 e
        exact h.apart a.sl ⟨by omega, fun _ => t1, rfl⟩ ⟨by omega, fun _ => t2, this.1.symm⟩
      · omega
    · omega
  · intro t
    rcases qa with q | q
    · rcases qb with r | r
      · exact ⟨q.1, r.1⟩
      · omega
    · omega
  · rcases qa with q | q
    · exact .inl q.1
    · exact .inr q.1
  · rcases qb with q | q
    · exact .inl q.1
    · exact .inr q.1

/-- one, while commits are counted: from so many on, up to now -/
structure Seen (c : Cf) (m : Mm) (o : Os) (sq now : Nat) : Prop where
  nx : o.nx ≤ 6
  n3 : o.nx ≠ 3
  sl : o.sl = 0
  tal : m.ws 0 = 16 * now
  le : sq ≤ now
  fr : o.nx ≤ 1 → m.ws (c.cl 4 0).toNat = 0
  s : o.nx = 1 → o.s = 0
  q : 4 ≤ o.nx → sq ≤ o.q ∧ o.q ≤ now
  sn : 5 ≤ o.nx → m.ws (c.cl 5 0).toNat = o.q
  t6 : o.nx = 6 → o.te = 0 ∧ o.tn = o.q

theorem seen_step {c : Cf} (hr : c.r = true) {o : Os} {sq now : Nat} (h : Seen c o.m o sq now) : Seen c (ostep c o).m (ostep c o) sq now := by
  have hb := c.rb hr
  have h6 := h.nx
  have h3 := h.n3
  have hsl := h.sl
  obtain ⟨s1, s2, _⟩ := sl_cells hr (f := 0) (by decide) (by omega)
  rcases (by omega : o.nx = 0 ∨ o.nx = 1 ∨ o.nx = 2 ∨ o.nx = 4 ∨ o.nx = 5 ∨ o.nx = 6) with e | e | e | e | e | e
  · have hws : (mtouch c o.m 1 4 o.sl 0 0).ws = o.m.ws := load_ws c o.m 4 o.sl
    have hold : (mtouch c o.m 1 4 o.sl 0 0).l.old = 0 := by rw [load_old, hsl, if_pos (by omega)]; exact h.fr (by omega)
    unfold ostep
    rw [if_pos e, hold, if_pos (fr_zero hr)]
    exact ⟨(show 1 ≤ 6 by decide), (show 1 ≠ 3 by decide), hsl, (by show (mtouch c o.m 1 4 o.sl 0 0).ws 0 = _; rw [hws]; exact h.tal), h.le, fun _ => (by show (mtouch c o.m 1 4 o.sl 0 0).ws _ = _; rw [hws]; exact h.fr (by omega)), fun _ => rfl, (fun q => absurd (show 4 ≤ 1 from q) (by decide)), (fun q => absurd (show 5 ≤ 1 from q) (by decide)), (fun q => by cases q)⟩
  · have hdn := swap_done c o.m 4 o.sl o.s (moveN o.s 1 false)
    rw [hsl, decide_eq_true (show _ from ⟨by omega, by rw [h.fr (by omega), h.s e]⟩)] at hdn
    unfold ostep
    rw [if_neg (by omega), if_pos e, hsl, if_pos hdn]
    exact ⟨(show 2 ≤ 6 by decide), (show 2 ≠ 3 by decide), rfl, (by show (mtouch c o.m 3 4 0 o.s (moveN o.s 1 false)).ws 0 = _; rw [swap_ws, if_neg (by rintro ⟨q, _⟩; omega)]; exact h.tal), h.le, (fun q => absurd (show 2 ≤ 1 from q) (by decide)), (fun q => by cases q), (fun q => absurd (show 4 ≤ 2 from q) (by decide)), (fun q => absurd (show 5 ≤ 2 from q) (by decide)), (fun q => by cases q)⟩
  · have hws : (mtouch c o.m 1 1 0 0 0).ws = o.m.ws := load_ws c o.m 1 0
    have hold : (mtouch c o.m 1 1 0 0 0).l.old = 16 * now := by rw [load_old, cl_tally hr, if_pos (by decide)]; exact h.tal
    have hp : ¬ 0 ≤ penN (16 * now) := by unfold penN; omega
    have hq : seqN (16 * now) = now := by unfold seqN; omega
    unfold ostep
    rw [if_neg (by omega), if_neg (by omega), if_pos e, hold, if_neg hp, hq]
    exact ⟨(show 4 ≤ 6 by decide), (show 4 ≠ 3 by decide), hsl, (by show (mtouch c o.m 1 1 0 0 0).ws 0 = _; rw [hws]; exact h.tal), h.le, (fun q => absurd (show 4 ≤ 1 from q) (by decide)), (fun q => by cases q), fun _ => ⟨h.le, Nat.le_refl _⟩, (fun q => absurd (show 5 ≤ 4 from q) (by decide)), (fun q => by cases q)⟩
  · unfold ostep
    rw [if_neg (by omega), if_neg (by omega), if_neg (by omega), if_neg (by omega), if_pos e, hsl]
    exact ⟨(show 5 ≤ 6 by decide), (show 5 ≠ 3 by decide), rfl, (by show (mtouch c o.m 2 5 0 0 o.q).ws 0 = _; rw [put_ws, if_neg (by omega)]; exact h.tal), h.le, (fun q => absurd (show 5 ≤ 1 from q) (by decide)), (fun q => by cases q), fun _ => h.q (by omega), fun _ => (by show (mtouch c o.m 2 5 0 0 o.q).ws _ = _; rw [put_ws, if_pos (by omega)]), (fun q => by cases q)⟩
  · unfold ostep
    rw [if_neg (by omega), if_neg (by omega), if_neg (by omega), if_neg (by omega), if_neg (by omega), if_pos e, hsl]
    exact ⟨(show 6 ≤ 6 by decide), (show 6 ≠ 3 by decide), rfl, (by show (mtouch c o.m 2 4 0 0 (moveN o.s 2 false)).ws 0 = _; rw [put_ws, if_neg (by omega)]; exact h.tal), h.le, (fun q => absurd (show 6 ≤ 1 from q) (by decide)), (fun q => by cases q), fun _ => h.q (by omega), fun _ => (by show (mtouch c o.m 2 4 0 0 (moveN o.s 2 false)).ws _ = _; rw [put_ws, if_neg (by omega)]; exact h.sn (by omega)), fun _ => ⟨rfl, rfl⟩⟩
  · rw [ostep_6 e]
    exact h

/-- one commit more -/
theorem Seen.more {c : Cf} (hr : c.r = true) {m m' : Mm} {o : Os} {sq now : Nat} (h : Seen c m o sq now) (hm : m' = mtouch c m 2 1 0 0 (16 * (now + 1))) : Seen c m' o sq (now + 1) := by
  have hb := c.rb hr
  obtain ⟨s1, s2, _⟩ := sl_cells hr (f := 0) (by decide) (by omega)
  have ct := cl_tally hr
  have e0 : m'.ws 0 = 16 * (now + 1) := by rw [hm, put_ws, if_pos (by omega)]
  have e4 : m'.ws (c.cl 4 0).toNat = m.ws (c.cl 4 0).toNat := by rw [hm, put_ws, if_neg (by omega)]
  have e5 : m'.ws (c.cl 5 0).toNat = m.ws (c.cl 5 0).toNat := by rw [hm, put_ws, if_neg (by omega)]
  have hle := h.le
  exact ⟨h.nx, h.n3, h.sl, e0, by omega, fun q => by rw [e4]; exact h.fr q, h.s, fun q => by have := h.q q; omega, fun q => by rw [e5]; exact h.sn q, h.t6⟩

theorem seen_new {c : Cf} (hr : c.r = true) (m m' : Mm) (h0 : ∀ i, m.ws i = 0) (sq : Nat) (hm : m' = mtouch c m 2 1 0 0 (16 * sq)) : Seen c m' (onew m') sq sq := by
  have hb := c.rb hr
  obtain ⟨s1, s2, _⟩ := sl_cells hr (f := 0) (by decide) (by omega)
  have ct := cl_tally hr
  have e0 : m'.ws 0 = 16 * sq := by rw [hm, put_ws, if_pos (by omega)]
  have e4 : m'.ws (c.cl 4 0).toNat = 0 := by rw [hm, put_ws, if_neg (by omega)]; exact h0 _
  exact ⟨(show 0 ≤ 6 by decide), (show 0 ≠ 3 by decide), rfl, e0, Nat.le_refl _, fun _ => e4, (fun q => by cases q), (fun q => absurd (show 4 ≤ 0 from q) (by decide)), (fun q => absurd (show 5 ≤ 0 from q) (by decide)), (fun q => by cases q)⟩

theorem seen_mu {c : Cf} (hr : c.r = true) {o : Os} {sq now : Nat} (h : Seen c o.m o sq now) (hn : o.nx ≠ 6) : o.nx < (ostep c o).nx := by
  have hb := c.rb hr
  have h6 := h.nx
  have h3 := h.n3
  have hsl := h.sl
  obtain ⟨s1, s2, _⟩ := sl_cells hr (f := 0) (by decide) (by omega)
  rcases (by omega : o.nx = 0 ∨ o.nx = 1 ∨ o.nx = 2 ∨ o.nx = 4 ∨ o.nx = 5) with e | e | e | e | e
  · have hold : (mtouch c o.m 1 4 o.sl 0 0).l.old = 0 := by rw [load_old, hsl, if_pos (by omega)]; exact h.fr (by omega)
    unfold ostep
    rw [if_pos e, hold, if_pos (fr_zero hr), e]
    show 0 < 1
    decide
  · have hdn := swap_done c o.m 4 o.sl o.s (moveN o.s 1 false)
    rw [hsl, decide_eq_true (show _ from ⟨by omega, by rw [h.fr (by omega), h.s e]⟩)] at hdn
    unfold ostep
    rw [if_neg (by omega), if_pos e, hsl, if_pos hdn, e]
    show 1 < 2
    decide
  · have hold : (mtouch c o.m 1 1 0 0 0).l.old = 16 * now := by rw [load_old, cl_tally hr, if_pos (by decide)]; exact h.tal
    have hp : ¬ 0 ≤ penN (16 * now) := by unfold penN; omega
    unfold ostep
    rw [if_neg (by omega), if_neg (by omega), if_pos e, hold, if_neg hp, e]
    show 2 < 4
    decide
  · unfold ostep
    rw [if_neg (by omega), if_neg (by omega), if_neg (by omega), if_neg (by omega), if_pos e, e]
    show 4 < 5
    decide
  · unfold ostep
    rw [if_neg (by omega), if_neg (by omega), if_neg (by omega), if_neg (by omega), if_neg (by omega), if_pos e, e]
    show 5 < 6
    decide

theorem seen_ends {c : Cf} (hr : c.r = true) {o : Os} {sq now : Nat} (h : Seen c o.m o sq now) {k : Nat} (hk : 6 ≤ k) (A : Os) (hA : A = oit c o k) : Seen c A.m A sq now ∧ A.nx = 6 := by
  have main : ∀ k, Seen c (oit c o k).m (oit c o k) sq now ∧ (k ≤ (oit c o k).nx ∨ (oit c o k).nx = 6) := by
    intro k
    induction k with
    | zero => exact ⟨h, .inl (Nat.zero_le _)⟩
    | succ k ih =>
      obtain ⟨i1, i2⟩ := ih
      refine ⟨seen_step hr i1, ?_⟩
      by_cases hn : (oit c o k).nx = 6
      · right
        show (ostep c (oit c o k)).nx = 6
        rw [ostep_6 hn]
        exact hn
      · rcases i2 with i2 | i2
        · have := seen_mu hr i1 hn
          left
          show k + 1 ≤ (ostep c (oit c o k)).nx
          omega
        · exact absurd i2 hn
  obtain ⟨h1, h2⟩ := main k
  rw [← hA] at h1 h2
  refine ⟨h1, ?_⟩
  have := h1.nx
  rcases h2 with h2 | h2
  · omega
  · exact h2

end Um

/-
  Plain arithmetic of layer 9: begun again and again; generations that are too great. No Go in sight.
-/
namespace Um
set_option maxRecDepth 100000

/-- so many slots have been got, of a world in which nothing is pending -/
structure Fu (c : Cf) (ws : Nat → Nat) (i : Int) : Prop where
  tal : ws 0 = 0
  low : ∀ j : Int, 0 ≤ j → j < i → stN (ws (c.cl 4 j).toNat) ≠ 0
  high : ∀ j : Int, i ≤ j → j < c.s → ws (c.cl 4 j).toNat = 0

theorem fu_full {c : Cf} {ws : Nat → Nat} (h : Fu c ws c.s) : Full c ws := fun i i0 i1 => fr_not (h.low i i0 i1)

theorem fu_step {c : Cf} (hr : c.r = true) {m : Mm} {i : Int} (h : Fu c m.ws i) (i0 : 0 ≤ i) (i1 : i < c.s) {k : Nat} (hk : 60 ≤ k) (A : Os) (hA : A = oit c (onew m) k) :
    A.nx = 6 ∧ A.te = 0 ∧ A.th = mkN i 0 ∧ A.tn = 0 ∧ Fu c A.m.ws (i + 1) := by
  obtain ⟨h1, h2⟩ := al_ends hr m hk
  rw [← hA] at h1 h2
  have hpen : ¬ 0 ≤ penN (m.ws 0) := by rw [h.tal]; decide
  rcases h1.t6 h2 with ⟨hf, _⟩ | ⟨f, hg, hw, t1, t2, t3⟩
  · have := hf i i0 i1
    rw [h.high i (Int.le_refl _) i1, fr_zero hr] at this
    cases this
  · have hfi : f = i := by
      rcases (by omega : f < i ∨ f = i ∨ i < f) with q | q | q
      · have := hg.fr
        rw [fr_not (h.low f hg.lo q)] at this
        cases this
      · exact q
      · have := hg.least i i0 q
        rw [h.high i (Int.le_refl _) i1, fr_zero hr] at this
        cases this
    subst hfi
    have z0 : m.ws (c.cl 4 f).toNat = 0 := h.high f (Int.le_refl _) i1
    obtain ⟨s1, s2, _⟩ := sl_cells hr i0 i1
    have w0 : A.m.ws 0 = 0 := by
      rw [hw]
      unfold ws3
      rw [if_neg (by omega), if_neg (by omega), ws2_zero s1, h.tal]
      rfl
    have wf : A.m.ws (c.cl 4 f).toNat = moveN 0 2 false := by
      rw [hw]
      unfold ws3
      rw [if_pos (by omega), z0]
    have wj : ∀ j : Int, 0 ≤ j → j < c.s → j ≠ f → A.m.ws (c.cl 4 j).toNat = m.ws (c.cl 4 j).toNat := by
      intro j j0 j1 hne
      have q1 := st_cell_ne hr j0 j1 i0 i1 hne
      have q2 := st_snap_ne hr j0 j1 i0 i1
      have q3 := (sl_cells hr j0 j1).1
      rw [hw]
      unfold ws3
      rw [if_neg (by omega), if_neg (by omega), ws2_none hr hpen]
      unfold ws1
      rw [if_neg (by omega)]
    refine ⟨h2, t1, ?_, ?_, ⟨w0, fun j j0 j1 => ?_, fun j j0 j1 => ?_⟩⟩
    · rw [t2, z0]
      rfl
    · rw [t3, h.tal]
      rfl
    · by_cases e : j = f
      · rw [e, wf, st_move _ _ (by decide)]
        decide
      · rw [wj j j0 (by omega) e]
        exact h.low j j0 (by omega)
    · rw [wj j (by omega) j1 (by omega)]
      exact h.high j (by omega) j1

theorem fu_new (c : Cf) (m : Mm) (h0 : ∀ i, m.ws i = 0) : Fu c m.ws 0 := ⟨h0 0, fun j j0 j1 => by omega, fun j _ _ => h0 _⟩

/-- where all is full: so many steps as there are slots, nothing is changed -/
theorem full_end {c : Cf} (hr : c.r = true) (m : Mm) (hf : Full c m.ws) {n : Nat} (hn : (n : Int) = c.s) : (oit c (onew m) n).nx = 6 ∧ (∀ k, k < n → (oit c (onew m) k).nx ≠ 6) ∧ ∀ k, n ≤ k → (oit c (onew m) k).te = 6 ∧ (oit c (onew m) k).th = 0 ∧ (oit c (onew m) k).tn = 0 ∧ ∀ i, (oit c (onew m) k).m.ws i = m.ws i := by
  have hb := c.rb hr
  obtain ⟨d, rfl⟩ : ∃ d, n = d + 1 := ⟨n - 1, by omega⟩
  obtain ⟨i1, i2, i3⟩ := full_steps hr m hf (k := d) (by omega)
  have hs : oit c (onew m) (d + 1) = ostep c (oit c (onew m) d) := rfl
  have he : (oit c (onew m) (d + 1)).nx = 6 ∧ (oit c (onew m) (d + 1)).te = 6 ∧ (oit c (onew m) (d + 1)).th = 0 ∧ (oit c (onew m) (d + 1)).tn = 0 ∧ ∀ i, (oit c (onew m) (d + 1)).m.ws i = m.ws i := by
    rw [hs]
    generalize oit c (onew m) d = o at *
    obtain ⟨s1, _, _⟩ := sl_cells hr (f := (d : Int)) (by omega) (by omega)
    have hws : (mtouch c o.m 1 4 o.sl 0 0).ws = o.m.ws := load_ws c o.m 4 o.sl
    have hold : (mtouch c o.m 1 4 o.sl 0 0).l.old = m.ws (c.cl 4 (d : Int)).toNat := by rw [load_old, i2, if_pos (by omega), i3]
    have hfr := hf (d : Int) (by omega) (by omega)
    unfold ostep
    rw [if_pos i1, hold, hfr]
    show (ogo c o _ _).nx = 6 ∧ (ogo c o _ _).te = 6 ∧ (ogo c o _ _).th = 0 ∧ (ogo c o _ _).tn = 0 ∧ ∀ i, (ogo c o _ _).m.ws i = m.ws i
    unfold ogo
    rw [if_pos (by omega)]
    exact ⟨rfl, rfl, rfl, rfl, fun i => by show (mtouch c o.m 1 4 o.sl 0 0).ws i = _; rw [hws]; exact i3 i⟩
  refine ⟨he.1, fun k hk => ?_, fun k hk => ?_⟩
  · rw [(full_steps hr m hf (k := k) (by omega)).1]
    decide
  · rw [oit_done he.1 hk]
    exact he.2

/-- all slots have one status that is free, but for its generation -/
theorem last_end {c : Cf} (hr : c.r = true) (m : Mm) (gw : Nat) (hst : stN gw = 0) (hw : ∀ j : Int, 0 ≤ j → j < c.s → m.ws (c.cl 4 j).toNat = gw) {k : Nat} (hk : 60 ≤ k) (A : Os) (hA : A = oit c (onew m) k) :
    A.nx = 6 ∧ (((gnN gw : Nat) : Int) ≤ c.g → A.te = 0) ∧ (¬ ((gnN gw : Nat) : Int) ≤ c.g → A.te = 6) := by
  have hb := c.rb hr
  obtain ⟨h1, h2⟩ := al_ends hr m hk
  rw [← hA] at h1 h2
  refine ⟨h2, fun hg => ?_, fun hg => ?_⟩
  · rcases h1.t6 h2 with ⟨hf, _⟩ | ⟨f, _, _, t1, _⟩
    · have := hf 0 (by decide) (by omega)
      rw [hw 0 (by decide) (by omega)] at this
      exact absurd ⟨hst, hg⟩ (of_decide_eq_false this)
    · exact t1
  · rcases h1.t6 h2 with ⟨_, _, t1, _⟩ | ⟨f, hgt, _⟩
    · exact t1
    · have := hgt.fr
      rw [hw f hgt.lo hgt.hi] at this
      exact absurd (of_decide_eq_true this).2 hg

end Um

/-
  Plain arithmetic of layer 9: the lowest slot that is free, looked for from above; what alone leaves. No Go in sight.
-/
namespace Um
set_option maxRecDepth 100000

theorem Got.uniq {c : Cf} {ws : Nat → Nat} {f f' : Int} (h : Got c ws f) (h' : Got c ws f') : f = f' := by
  rcases Int.lt_trichotomy f f' with q | q | q
  · have := h'.least f h.lo q; rw [h.fr] at this; cases this
  · exact q
  · have := h.least f' h'.lo q; rw [h'.fr] at this; cases this

theorem Got.full {c : Cf} {ws : Nat → Nat} {f : Int} (h : Got c ws f) (h' : Full c ws) : False := by
  have := h' f h.lo h.hi
  rw [h.fr] at this
  cases this

/-- what was found from slot k on -/
structure Lo9 (c : Cf) (ws : Nat → Nat) (k f : Int) : Prop where
  none : f < 0 → f = -1 ∧ ∀ i : Int, k ≤ i → i < c.s → frN c (ws (c.cl 4 i).toNat) = false
  one : 0 ≤ f → k ≤ f ∧ f < c.s ∧ frN c (ws (c.cl 4 f).toNat) = true ∧ ∀ i : Int, k ≤ i → i < f → frN c (ws (c.cl 4 i).toNat) = false

theorem lo_new (c : Cf) (ws : Nat → Nat) : Lo9 c ws c.s (-1) := ⟨fun _ => ⟨rfl, fun i i0 i1 => by omega⟩, fun h => by omega⟩

theorem lo_yes {c : Cf} {ws : Nat → Nat} {k : Int} (h0 : 0 ≤ k) (h1 : k < c.s) (hf : frN c (ws (c.cl 4 k).toNat) = true) : Lo9 c ws k k :=
  ⟨fun q => by omega, fun _ => ⟨Int.le_refl _, h1, hf, fun i i0 i1 => by omega⟩⟩

theorem Lo9.no {c : Cf} {ws : Nat → Nat} {k f : Int} (h : Lo9 c ws (k + 1) f) (hf : frN c (ws (c.cl 4 k).toNat) = false) : Lo9 c ws k f := by
  refine ⟨fun q => ⟨(h.none q).1, fun i i0 i1 => ?_⟩, fun q => ?_⟩
  · by_cases e : i = k
    · rw [e]; exact hf
    · exact (h.none q).2 i (by omega) i1
  · obtain ⟨a, b, d, e⟩ := h.one q
    refine ⟨by omega, b, d, fun i i0 i1 => ?_⟩
    by_cases e2 : i = k
    · rw [e2]; exact hf
    · exact e i (by omega) i1

theorem Lo9.full {c : Cf} {ws : Nat → Nat} {f : Int} (h : Lo9 c ws 0 f) (hf : f < 0) : Full c ws := (h.none hf).2

theorem Lo9.got {c : Cf} {ws : Nat → Nat} {f : Int} (h : Lo9 c ws 0 f) (hf : 0 ≤ f) : Got c ws f := by
  obtain ⟨a, b, d, e⟩ := h.one hf
  exact ⟨hf, b, d, e⟩

theorem alone_full {c : Cf} (hr : c.r = true) (m : Mm) (hf : Full c m.ws) {k : Nat} (hk : 60 ≤ k) (A : Os) (hA : A = oit c (onew m) k) : A.nx = 6 ∧ A.te = 6 ∧ A.th = 0 ∧ A.tn = 0 := by
  obtain ⟨h1, h2⟩ := al_ends hr m hk
  rw [← hA] at h1 h2
  rcases h1.t6 h2 with ⟨_, _, q1, q2, q3⟩ | ⟨f, hG, _⟩
  · exact ⟨h2, q1, q2, q3⟩
  · exact (hG.full hf).elim

theorem snap_cell_ne {c : Cf} (hr : c.r = true) {f : Int} (h0 : 0 ≤ f) (h1 : f < c.s) : c.cl 5 f ≠ c.cl 4 f := by
  have := sl_cells hr h0 h1
  omega

theorem alone_got {c : Cf} (hr : c.r = true) (m : Mm) {f : Int} (hG : Got c m.ws f) {k : Nat} (hk : 60 ≤ k) (A : Os) (hA : A = oit c (onew m) k) (m3 m4 m5 : Mm) (h3 : m3 = mtouch c A.m 1 5 f 0 0) (h4 : m4 = mtouch c m3 1 4 f 0 0) (h5 : m5 = mtouch c m4 1 1 0 0 0) :
    A.nx = 6 ∧ A.te = 0 ∧ A.th = mkN f ((gnN (m.ws (c.cl 4 f).toNat) : Nat) : Int) ∧ A.tn = seqN (m.ws 0) ∧ m3.l.old = seqN (m.ws 0) ∧ stN m4.l.old = 2 ∧ m5.l.old % 16 = 0 := by
  obtain ⟨h1, h2⟩ := al_ends hr m hk
  rw [← hA] at h1 h2
  rcases h1.t6 h2 with ⟨hf, _⟩ | ⟨f', hG', hw, q1, q2, q3⟩
  · exact (hG.full hf).elim
  obtain rfl := hG.uniq hG'
  obtain ⟨s1, s2, s3⟩ := sl_cells hr hG.lo hG.hi
  refine ⟨h2, q1, q2, q3, ?_, ?_, ?_⟩
  · rw [h3, load_old, if_pos (by omega), hw]
    unfold ws3
    rw [if_neg (by omega), if_pos (by omega)]
  · rw [h4, load_old, if_pos (by omega), h3, load_ws, hw]
    unfold ws3
    rw [if_pos (by omega)]
    exact st_move _ 2 (by decide)
  · rw [h5, load_old, cl_tally hr, if_pos (by omega), h4, load_ws, h3, load_ws, hw]
    unfold ws3
    rw [if_neg (by show ¬ ((0 : Nat) : Int) = _; omega), if_neg (by show ¬ ((0 : Nat) : Int) = _; omega)]
    show ws2 c m.ws f 0 % 16 = 0
    rw [ws2_zero s1]
    unfold setlN
    omega

/-- a beginning over another memory -/
def setM (m : Mm) (o : Os) : Os := ⟨m, o.sl, o.nx, o.s, o.q, o.w, o.hn, o.hs, o.te, o.th, o.tn⟩

/-- right over whatever words -/
def OkW (c : Cf) (o : Os) : Prop := ∀ m : Mm, (∀ i, i < c.n → Word (m.ws i)) → Ook c (setM m o)

theorem Ook.okw {c : Cf} {o : Os} (h : Ook c o) : OkW c o := fun _ hm => ⟨hm, h.s, h.q, h.w, h.hs, h.hn, h.nx, h.sl0, h.sl1, h.th, h.tn, h.sl⟩

theorem Duo9.at {c : Cf} {m : Mm} {a b : Os} (h : Duo9 c m a b) (m' : Mm) : Duo9 c m (setM m' a) b :=
  ⟨h.tal, ⟨h.A.nx, h.A.n3, h.A.lo, h.A.lt, h.A.s, h.A.pass, h.A.mine, h.A.end6⟩, ⟨h.B.nx, h.B.n3, h.B.lo, h.B.lt, h.B.s, h.B.pass, h.B.mine, h.B.end6⟩, h.apart, h.all⟩

theorem Seen.at {c : Cf} {m : Mm} {o : Os} {sq now : Nat} (h : Seen c m o sq now) (m' : Mm) : Seen c m (setM m' o) sq now :=
  ⟨h.nx, h.n3, h.sl, h.tal, h.le, h.fr, h.s, h.q, h.sn, h.t6⟩

end Um

/-
  Words that were handed in: what their reading says of their cells.
-/
namespace Go.Proofs.Ytkiaogbddfjkkaa
set_option maxRecDepth 100000
open Go.ChangeShapes Go.WideShapes Go.ChangeAt Go.RowKit

theorem cellsWU : Try.prog.cellsOf 22 = 1 := by kernel_rfl

theorem cellsWI : Try.prog.cellsOf 3 = 1 := by kernel_rfl

theorem okWide_arr {P : Program} {w : World} {r : Reach} {base : Nat} {t : TypeId} {v : Value} {n : Nat} {e : TypeId} (ht : P.underlying t = some (.array n e)) (h : Value.okWide P w r base t v) : ∃ cs, v = .agg cs ∧ cs.size = P.cellsOf t := by
  simp only [Value.okWide, ht] at h
  obtain ⟨cs, h1, h2, _⟩ := h
  exact ⟨cs, h1, h2⟩

theorem open_words {H : Type} {enc : TypeId × Value → H} {W : World} {base : Nat} {v : Value} {d : DataW H} {p : List MemPlace}
    (hv : Value.okWide Try.prog W .any base 25 v) (h : DataW.Trod enc Try.prog W 0 (fun _ => true) true 25 v d p) :
    ∃ n ws, IsWords W v n ws := by
  obtain ⟨a0, len0, cap0, rfl⟩ := okWide_slice Try.underlying25 hv
  obtain ⟨fuel, hf⟩ := h
  rcases open_ints Try.underlying25 Try.underlying22 cellsWU hf with ⟨hcs, _⟩ | ⟨a, len, cap, zs, hcs, _, hl, hm, hz, _, hcell, hwf⟩
  · simp [Value.cells] at hcs
    obtain ⟨rfl, rfl, rfl⟩ := hcs
    exact ⟨0, fun _ => 0, Or.inl ⟨_, _, rfl, rfl⟩⟩
  · simp [Value.cells] at hcs
    obtain ⟨rfl, rfl, rfl⟩ := hcs
    by_cases h0 : len0 = 0
    · subst h0
      exact ⟨0, fun _ => 0, Or.inl ⟨_, _, rfl, rfl⟩⟩
    have hzc : zs.length = cap0 := hz
    obtain ⟨b, off, rfl, hc⟩ := ints_at hcell (by omega)
    have hw : ∀ j, j < zs.length → ∃ x : Nat, zs.getD j 0 = x ∧ Um.Word x := by
      intro j hj
      have e : zs.getD j 0 = zs[j] := by simp [hj]
      rw [e]
      exact word_of (hwf _ (List.getElem_mem hj))
    refine ⟨len0, fun j => (zs.getD j 0).toNat, Or.inr ⟨b, off, cap0, rfl, by omega, hl, hm, ?_, fun j hj => ?_⟩⟩
    · exact World.block_lt_of_cell? W _ (hc 0 (by omega))
    · obtain ⟨x, hx, hw'⟩ := hw j (by omega)
      have e : (zs.getD j 0).toNat = x := by rw [hx]; rfl
      exact ⟨by rw [hc j (by omega), hx, ← e], by rw [← e] at hw'; exact hw'⟩

theorem open_nil {H : Type} {enc : TypeId × Value → H} {W : World} {base : Nat} {v : Value} {d : DataW H} {p : List MemPlace}
    (hv : Value.okWide Try.prog W .any base 25 v) (h : DataW.Trod enc Try.prog W 0 (fun _ => true) true 25 v d p) :
    ∀ ao n cap, v = .slice ao n cap → ao = none → cap = 0 := by
  rintro ao n cap rfl rfl
  obtain ⟨fuel, hf⟩ := h
  rcases open_ints Try.underlying25 Try.underlying22 cellsWU hf with ⟨hcs, _⟩ | ⟨a, len, cap, zs, hcs, _, hl, hm, hzl, hx, _, _⟩
  · simp [Value.cells] at hcs
    exact hcs.2
  · simp [Value.cells] at hcs

theorem bytesWU : Try.prog.bytesOf 22 = 8 := by kernel_rfl

theorem open_words_sized {H : Type} {enc : TypeId × Value → H} {W : World} {base : Nat} {v : Value} {d : DataW H} {p : List MemPlace}
    (hv : Value.okWide Try.prog W .any base 25 v) (h : DataW.Trod enc Try.prog W 0 (fun _ => true) true 25 v d p)
    (hz : ∀ elems spare, d = .slice elems spare → (elems.length + spare.length) * Try.prog.bytesOf 22 ≤ reachBytes) :
    ∃ n ws, IsWords W v n ws ∧ n * 8 ≤ 140737488355328 := by
  obtain ⟨n, ws, hI⟩ := open_words hv h
  refine ⟨n, ws, hI, ?_⟩
  obtain ⟨a0, len0, cap0, rfl⟩ := okWide_slice Try.underlying25 hv
  obtain ⟨fuel, hf⟩ := h
  have hl : n = len0 := by
    rcases hI with ⟨_, _, e, h⟩ | ⟨_, _, _, e, _⟩
    · cases e; exact h
    · cases e; rfl
  subst hl
  rcases open_ints Try.underlying25 Try.underlying22 cellsWU hf with ⟨hcs, _⟩ | ⟨a, len, cap, zs, hcs, _, hl, hm, hzl, hx, _, _⟩
  · simp [Value.cells] at hcs
    obtain ⟨rfl, rfl, rfl⟩ := hcs
    omega
  · simp [Value.cells] at hcs
    obtain ⟨rfl, rfl, rfl⟩ := hcs
    cases hx
    have := hz _ _ rfl
    rw [bytesWU] at this
    have hr := reachBytes_lt
    have hzc : zs.length = cap0 := hzl
    simp [lits] at this
    have h47 : (2 : Nat) ^ 47 = 140737488355328 := by decide
    omega

theorem arr3 {α : Type} {cs : Array α} (h : cs.size = 3) : ∃ c0 c1 c2, cs = #[c0, c1, c2] := by
  obtain ⟨l⟩ := cs
  match l, h with
  | [c0, c1, c2], _ => exact ⟨c0, c1, c2, rfl⟩

theorem lst3 {α : Type} {cs : List α} (h : cs.length = 3) : ∃ c0 c1 c2, cs = [c0, c1, c2] := by
  match cs, h with
  | [c0, c1, c2], _ => exact ⟨c0, c1, c2, rfl⟩

theorem arr4 {α : Type} {cs : Array α} (h : cs.size = 4) : ∃ c0 c1 c2 c3, cs = #[c0, c1, c2, c3] := by
  obtain ⟨l⟩ := cs
  match l, h with
  | [c0, c1, c2, c3], _ => exact ⟨c0, c1, c2, c3, rfl⟩

theorem lst4 {α : Type} {cs : List α} (h : cs.length = 4) : ∃ c0 c1 c2 c3, cs = [c0, c1, c2, c3] := by
  match cs, h with
  | [c0, c1, c2, c3], _ => exact ⟨c0, c1, c2, c3, rfl⟩

theorem arr5 {α : Type} {cs : Array α} (h : cs.size = 5) : ∃ c0 c1 c2 c3 c4, cs = #[c0, c1, c2, c3, c4] := by
  obtain ⟨l⟩ := cs
  match l, h with
  | [c0, c1, c2, c3, c4], _ => exact ⟨c0, c1, c2, c3, c4, rfl⟩

theorem lst5 {α : Type} {cs : List α} (h : cs.length = 5) : ∃ c0 c1 c2 c3 c4, cs = [c0, c1, c2, c3, c4] := by
  match cs, h with
  | [c0, c1, c2, c3, c4], _ => exact ⟨c0, c1, c2, c3, c4, rfl⟩

end Go.Proofs.Ytkiaogbddfjkkaa

/-
  Plain arithmetic of layer 9: what alone changes. No Go in sight.
-/
namespace Um
set_option maxRecDepth 100000

theorem only9 {c : Cf} (hr : c.r = true) (m : Mm) {k : Nat} (hk : 60 ≤ k) (A : Os) (hA : A = oit c (onew m) k) :
    A.nx = 6 ∧ ((A.te = 6 ∧ ∀ i, A.m.ws i = m.ws i) ∨ ∃ f : Int, A.te = 0 ∧ svN A.th = f ∧ ∀ j, A.m.ws j ≠ m.ws j →
      ((atK c.r c.t c.s c.k (j : Int) = 4 ∨ atK c.r c.t c.s c.k (j : Int) = 5) ∧ atO c.r c.t c.s c.k (j : Int) = f)
      ∨ (atK c.r c.t c.s c.k (j : Int) = 1 ∧ atO c.r c.t c.s c.k (j : Int) = 0)
      ∨ (0 ≤ penN (m.ws 0) ∧ (atK c.r c.t c.s c.k (j : Int) = 4 ∨ atK c.r c.t c.s c.k (j : Int) = 6) ∧ atO c.r c.t c.s c.k (j : Int) = penN (m.ws 0))) := by
  obtain ⟨h1, h2⟩ := al_ends hr m hk
  rw [← hA] at h1 h2
  refine ⟨h2, ?_⟩
  rcases h1.t6 h2 with ⟨_, hw, q1, _⟩ | ⟨f, hG, hw, q1, q2, _⟩
  · exact .inl ⟨q1, hw⟩
  · refine .inr ⟨f, q1, ?_, fun j hj => ?_⟩
    · have hb := c.rb hr
      have hg := Cf.g_bd hr
      have hfr := (of_decide_eq_true hG.fr).2
      have hok : mok f ((gnN (m.ws (c.cl 4 f).toNat) : Nat) : Int) = true := decide_eq_true ⟨hG.lo, by have := hG.hi; omega, by omega, by omega⟩
      rw [q2, sv_yes (mk_sok hok), mk_ts hok]
    · obtain ⟨s1, s2, s3⟩ := sl_cells hr hG.lo hG.hi
      rw [hw] at hj
      unfold ws3 at hj
      by_cases e4 : (j : Int) = c.cl 4 f
      · have := cell_at (a := 4) (b := f) c.rb (show 0 ≤ c.cl 4 f by omega)
        rw [e4]
        exact .inl ⟨.inl this.2.1, this.2.2⟩
      · rw [if_neg e4] at hj
        by_cases e5 : (j : Int) = c.cl 5 f
        · have := cell_at (a := 5) (b := f) c.rb (show 0 ≤ c.cl 5 f by omega)
          rw [e5]
          exact .inl ⟨.inr this.2.1, this.2.2⟩
        · rw [if_neg e5] at hj
          have hj2 : hgN c (m.ws 0) (ws1 c m.ws f) j ≠ ws1 c m.ws f j := by
            intro e
            refine hj ?_
            show hgN c (m.ws 0) (ws1 c m.ws f) j = m.ws j
            rw [e]
            unfold ws1
            rw [if_neg e4]
          exact .inr (only8 hr hj2)

end Um

/-
  A play that was handed in (a thread, an epoch, how many steps, what is written meanwhile): what its reading says of its cells.
-/
namespace Go.Proofs.Ytkiaogbddfjkkaa
set_option maxRecDepth 100000
open Go.ChangeShapes Go.WideShapes Go.ChangeAt Go.RowKit

theorem cellsPoke : Try.prog.cellsOf 87 = 4 := by kernel_rfl
theorem cellsPokes : Try.prog.cellsOf 26 = 1 := by kernel_rfl

theorem ar4 {α : Type} {cs : Array α} (h : cs.size = 4) : ∃ c0 c1 c2 c3, cs = #[c0, c1, c2, c3] := by
  obtain ⟨l⟩ := cs
  match l, h with
  | [c0, c1, c2, c3], _ => exact ⟨c0, c1, c2, c3, rfl⟩

theorem ls4 {α : Type} {cs : List α} (h : cs.length = 4) : ∃ c0 c1 c2 c3, cs = [c0, c1, c2, c3] := by
  match cs, h with
  | [c0, c1, c2, c3], _ => exact ⟨c0, c1, c2, c3, rfl⟩

/-- what is written: ahead of which step, which spot, which word -/
structure Pok where
  st : Int
  k : Int
  a : Int
  v : Nat

/-- pokes lie in a row of elder cells -/
def PokesAt (w : World) (la : Option Addr) (nl : Nat) (Z : Nat → Pok) : Prop :=
  nl = 0 ∨ ∃ lb off, la = some ⟨lb, off, none⟩ ∧ lb < w.heap.size ∧
      ∀ i, i < nl → (w.cell? ⟨lb, off + i * 4, none⟩ = some (.int .i64 (Z i).st) ∧ w.cell? ⟨lb, off + (i * 4 + 1), none⟩ = some (.int .i64 (Z i).k) ∧ w.cell? ⟨lb, off + (i * 4 + 2), none⟩ = some (.int .i64 (Z i).a) ∧ w.cell? ⟨lb, off + (i * 4 + 3), none⟩ = some (.int .u64 ((Z i).v : Nat))) ∧
        (-9223372036854775808 ≤ (Z i).a ∧ (Z i).a ≤ 9223372036854775807) ∧ Um.Word (Z i).v

theorem open_pokes {H : Type} {enc : TypeId × Value → H} {W : World} {fuel : Nat} {cs : List Value} {x : DataW H × List MemPlace}
    (h : DataW.trod enc Try.prog W 0 (fun _ => true) true fuel 26 cs = some x) :
    ∃ la nl cl Z, cs = [.slice la nl cl] ∧ nl ≤ cl ∧ PokesAt W la nl Z := by
  rcases Deep.open_slice Try.underlying26 h with ⟨hcs, _⟩ | ⟨a, len, cap, m, n, D, Pl, hcs, _, hl, hm, hmm, _, hx⟩
  · exact ⟨none, 0, 0, fun _ => ⟨0, 0, 0, 0⟩, hcs, Nat.le_refl _, .inl rfl⟩
  · by_cases h0 : len = 0
    · subst h0
      exact ⟨some a, 0, cap, fun _ => ⟨0, 0, 0, 0⟩, hcs, Nat.zero_le _, .inl rfl⟩
    have hmc : m = cap := by rw [hmm]; rfl
    subst hmc
    have each : ∀ i, i < len → ∃ q : Pok, (W.cell? (a.add (i * 4)) = some (.int .i64 q.st) ∧ W.cell? (a.add (i * 4 + 1)) = some (.int .i64 q.k) ∧ W.cell? (a.add (i * 4 + 2)) = some (.int .i64 q.a) ∧ W.cell? (a.add (i * 4 + 3)) = some (.int .u64 (q.v : Nat))) ∧
        (-9223372036854775808 ≤ q.a ∧ q.a ≤ 9223372036854775807) ∧ Um.Word q.v := by
      intro i hi
      obtain ⟨cs', h1, h2⟩ := hx i (by omega)
      rw [cellsPoke] at h1
      obtain ⟨_, hlen, hcell⟩ := World.cells?_some h1
      obtain ⟨v0, v1, v2, v3, rfl⟩ := ls4 hlen
      obtain ⟨xs, n, _, _, hl, hxl, hfx⟩ := DataW.trod_struct Try.underlying87 h2
      obtain ⟨y0, y1, y2, y3, rfl⟩ := ls4 hxl
      obtain ⟨q0, e0, _, _⟩ := DataW.trod_int Try.underlying3 (hfx 0 _ rfl)
      obtain ⟨q1, e1, _, _⟩ := DataW.trod_int Try.underlying3 (hfx 1 _ rfl)
      obtain ⟨q2, e2, _, k2⟩ := DataW.trod_int Try.underlying3 (hfx 2 _ rfl)
      obtain ⟨q3, e3, _, k3⟩ := DataW.trod_int Try.underlying22 (hfx 3 _ rfl)
      obtain ⟨x', rfl, w3⟩ := word_of k3
      simp [cellsWI, cellsWU] at e0 e1 e2 e3
      subst e0 e1 e2 e3
      have c0 := hcell 0 (by omega)
      have c1 := hcell 1 (by omega)
      have c2 := hcell 2 (by omega)
      have c3 := hcell 3 (by omega)
      rw [Deep.add_add] at c0 c1 c2 c3
      exact ⟨⟨q0, q1, q2, x'⟩, ⟨by simpa using c0, by simpa using c1, by simpa using c2, by simpa using c3⟩, int_of k2, w3⟩
    have : ∃ Z : Nat → Pok, ∀ i, i < len → (W.cell? (a.add (i * 4)) = some (.int .i64 (Z i).st) ∧ W.cell? (a.add (i * 4 + 1)) = some (.int .i64 (Z i).k) ∧ W.cell? (a.add (i * 4 + 2)) = some (.int .i64 (Z i).a) ∧ W.cell? (a.add (i * 4 + 3)) = some (.int .u64 ((Z i).v : Nat))) ∧
        (-9223372036854775808 ≤ (Z i).a ∧ (Z i).a ≤ 9223372036854775807) ∧ Um.Word (Z i).v :=
      ⟨fun i => if hi : i < len then (each i hi).choose else ⟨0, 0, 0, 0⟩, fun i hi => by simp only [hi, dite_true]; exact (each i hi).choose_spec⟩
    obtain ⟨q, hq⟩ := this
    obtain ⟨b, off, spot⟩ := a
    have hspot : spot = none := by simpa [Addr.add] using World.cell?_spot (hq 0 (by omega)).1.1
    subst hspot
    refine ⟨_, len, m, q, hcs, hl, .inr ⟨b, off, rfl, ?_, fun i hi => ?_⟩⟩
    · have := (hq 0 (by omega)).1.1
      rw [Go.WideShapes.add_plain] at this
      exact World.block_lt_of_cell? W _ this
    · have := hq i hi
      simp only [Go.WideShapes.add_plain] at this
      exact this

end Go.Proofs.Ytkiaogbddfjkkaa

/-
  What layer 8's laws are handed: a word with turns, a word with steps and what is written meanwhile, a row of integers: what their reading says of their cells.
-/
namespace Go.Proofs.Ytkiaogbddfjkkaa
set_option maxRecDepth 100000
open Go.ChangeShapes Go.WideShapes Go.ChangeAt Go.RowKit

theorem cellsBool : Try.prog.cellsOf 4 = 1 := by kernel_rfl

theorem cellsBools : Try.prog.cellsOf 64 = 1 := by kernel_rfl

theorem ar3 {α : Type} {cs : Array α} (h : cs.size = 3) : ∃ c0 c1 c2, cs = #[c0, c1, c2] := by
  obtain ⟨l⟩ := cs
  match l, h with
  | [c0, c1, c2], _ => exact ⟨c0, c1, c2, rfl⟩

theorem ls3 {α : Type} {cs : List α} (h : cs.length = 3) : ∃ c0 c1 c2, cs = [c0, c1, c2] := by
  match cs, h with
  | [c0, c1, c2], _ => exact ⟨c0, c1, c2, rfl⟩

theorem ar2 {α : Type} {cs : Array α} (h : cs.size = 2) : ∃ c0 c1, cs = #[c0, c1] := by
  obtain ⟨l⟩ := cs
  match l, h with
  | [c0, c1], _ => exact ⟨c0, c1, rfl⟩

theorem ls2 {α : Type} {cs : List α} (h : cs.length = 2) : ∃ c0 c1, cs = [c0, c1] := by
  match cs, h with
  | [c0, c1], _ => exact ⟨c0, c1, rfl⟩

theorem ls1 {α : Type} {cs : List α} (h : cs.length = 1) : ∃ c0, cs = [c0] := by
  match cs, h with
  | [c0], _ => exact ⟨c0, rfl⟩

/-- a row of elder cells -/
def RowOf (w : World) (la : Option Addr) (nl : Nat) (Z : Nat → Value) : Prop :=
  nl = 0 ∨ ∃ lb off, la = some ⟨lb, off, none⟩ ∧ lb < w.heap.size ∧ ∀ i, i < nl → w.cell? ⟨lb, off + i, none⟩ = some (Z i)

theorem open_bools {H : Type} {enc : TypeId × Value → H} {W : World} {fuel : Nat} {cs : List Value} {x : DataW H × List MemPlace}
    (h : DataW.trod enc Try.prog W 0 (fun _ => true) true fuel 64 cs = some x) :
    ∃ (la : Option Addr) (nl cl : Nat) (Z : Nat → Bool), cs = [.slice la nl cl] ∧ nl ≤ cl ∧ RowOf W la nl (fun i => .bool (Z i)) := by
  rcases Deep.open_slice Try.underlying64 h with ⟨hcs, _⟩ | ⟨a, len, cap, m, n, D, Pl, hcs, _, hl, hm, hmm, _, hx⟩
  · exact ⟨none, 0, 0, fun _ => false, hcs, Nat.le_refl _, .inl rfl⟩
  · by_cases h0 : len = 0
    · subst h0
      exact ⟨some a, 0, cap, fun _ => false, hcs, Nat.zero_le _, .inl rfl⟩
    have hmc : m = cap := by rw [hmm]; rfl
    subst hmc
    have each : ∀ i, i < len → ∃ q : Bool, W.cell? (a.add i) = some (.bool q) := by
      intro i hi
      obtain ⟨cs', h1, h2⟩ := hx i (by omega)
      rw [cellsBool] at h1
      obtain ⟨_, hlen, hcell⟩ := World.cells?_some h1
      obtain ⟨v0, rfl⟩ := ls1 hlen
      obtain ⟨q0, e0, _⟩ := DataW.trod_bool Try.underlying4 h2
      simp at e0
      subst e0
      have c0 := hcell 0 (by omega)
      rw [Deep.add_add] at c0
      exact ⟨q0, by simpa using c0⟩
    have : ∃ Z : Nat → Bool, ∀ i, i < len → W.cell? (a.add i) = some (.bool (Z i)) :=
      ⟨fun i => if hi : i < len then (each i hi).choose else false, fun i hi => by simp only [hi, dite_true]; exact (each i hi).choose_spec⟩
    obtain ⟨q, hq⟩ := this
    obtain ⟨b, off, spot⟩ := a
    have hspot : spot = none := by simpa [Addr.add] using World.cell?_spot (hq 0 (by omega))
    subst hspot
    refine ⟨_, len, m, q, hcs, hl, .inr ⟨b, off, rfl, ?_, fun i hi => ?_⟩⟩
    · have := hq 0 (by omega)
      rw [Go.WideShapes.add_plain] at this
      exact World.block_lt_of_cell? W _ this
    · have := hq i hi
      rw [Go.WideShapes.add_plain] at this
      exact this

theorem open_row {H : Type} {enc : TypeId × Value → H} {W : World} {base : Nat} {v : Value} {d : DataW H} {p : List MemPlace}
    (hv : Value.okWide Try.prog W .any base 76 v) (h : DataW.Trod enc Try.prog W 0 (fun _ => true) true 76 v d p) :
    ∃ (la : Option Addr) (nl cl : Nat) (Z : Nat → Int), v = .slice la nl cl ∧ nl ≤ cl ∧ RowOf W la nl (fun i => .int .i64 (Z i)) := by
  obtain ⟨a0, len0, cap0, rfl⟩ := okWide_slice Try.underlying76 hv
  obtain ⟨fuel, hf⟩ := h
  rcases open_ints Try.underlying76 Try.underlying3 cellsWI hf with ⟨hcs, _⟩ | ⟨a, len, cap, zs, hcs, _, hl, hm, hz, _, hcell, hwf⟩
  · simp [Value.cells] at hcs
    obtain ⟨rfl, rfl, rfl⟩ := hcs
    exact ⟨_, 0, 0, fun _ => 0, rfl, Nat.le_refl _, .inl rfl⟩
  · simp [Value.cells] at hcs
    obtain ⟨rfl, rfl, rfl⟩ := hcs
    by_cases h0 : len0 = 0
    · subst h0
      exact ⟨_, 0, cap0, fun _ => 0, rfl, Nat.zero_le _, .inl rfl⟩
    have hzc : zs.length = cap0 := hz
    obtain ⟨b, off, rfl, hc⟩ := ints_at hcell (by omega)
    exact ⟨_, len0, cap0, fun j => zs.getD j 0, rfl, hl, .inr ⟨b, off, rfl, World.block_lt_of_cell? W _ (hc 0 (by omega)), fun j hj => hc j (by omega)⟩⟩

end Go.Proofs.Ytkiaogbddfjkkaa

/-
  What layer 9's first law is handed: how many steps there are, and what is written meanwhile.
-/
namespace Go.Proofs.Ytkiaogbddfjkkaa
set_option maxRecDepth 100000
open Go.ChangeShapes Go.WideShapes Go.ChangeAt Go.RowKit

theorem cellsPlay9 : Try.prog.cellsOf 28 = 2 := by kernel_rfl

theorem open_play9 {H : Type} {enc : TypeId × Value → H} {W : World} {base : Nat} {v : Value} {d : DataW H} {p : List MemPlace}
    (hv : Value.okWide Try.prog W .any base 28 v) (h : DataW.Trod enc Try.prog W 0 (fun _ => true) true 28 v d p) :
    ∃ (st : Int) (la : Option Addr) (nl cl : Nat) (Z : Nat → Pok), v = .agg #[.int .i64 st, .slice la nl cl] ∧ nl ≤ cl ∧ PokesAt W la nl Z := by
  obtain ⟨cs, rfl, hsz⟩ := okWide_struct Try.underlying28 hv
  obtain ⟨c0, c1, rfl⟩ := ar2 (hsz.trans cellsPlay9)
  obtain ⟨fuel, hf⟩ := h
  obtain ⟨xs, n, _, _, hl, hlen, hx⟩ := DataW.trod_struct Try.underlying28 hf
  obtain ⟨y0, y1, rfl⟩ := ls2 hlen
  obtain ⟨st, e0, _, _⟩ := DataW.trod_int Try.underlying3 (hx 0 _ rfl)
  obtain ⟨la, nl, cl, Z, e1, hnc, hZ⟩ := open_pokes (hx 1 _ rfl)
  simp [Value.cells, cellsWI, cellsPokes] at e0 e1
  subst e0 e1
  exact ⟨st, la, nl, cl, Z, rfl, hnc, hZ⟩

theorem open_turns9 {H : Type} {enc : TypeId × Value → H} {W : World} {base : Nat} {v : Value} {d : DataW H} {p : List MemPlace}
    (hv : Value.okWide Try.prog W .any base 64 v) (h : DataW.Trod enc Try.prog W 0 (fun _ => true) true 64 v d p) :
    ∃ (la : Option Addr) (nl cl : Nat) (Z : Nat → Bool), v = .slice la nl cl ∧ nl ≤ cl ∧ RowOf W la nl (fun i => .bool (Z i)) := by
  obtain ⟨a0, len0, cap0, rfl⟩ := okWide_slice Try.underlying64 hv
  obtain ⟨fuel, hf⟩ := h
  obtain ⟨la, nl, cl, Z, e, hnc, hZ⟩ := open_bools hf
  simp [Value.cells] at e
  obtain ⟨rfl, rfl, rfl⟩ := e
  exact ⟨_, _, _, Z, rfl, hnc, hZ⟩

end Go.Proofs.Ytkiaogbddfjkkaa
