/-
  Texts that the laws stand on, merged (JoinX, JoinAlive, JoinW).
-/
import Derived.Test.YtcpmclidndmgeaaM10
import Derived.Test.YtcpmclidndmgeaaM4
import Derived.Test.YtcpmclidndmgeaaM9
import Derived.LoopTactic

/-
  A step of a join, of one's own end, of whatever step; to their ends; what a law reads.
-/
namespace Go.Proofs.Ytcpmclidndmgeaa
set_option maxRecDepth 100000
open Go.RowKit Go.Sort
set_option linter.unusedVariables false
set_option linter.unusedSimpArgs false

/-- what comes next -/
def jnF (o : Um.Js) : Value := if o.r ≠ 0 then .nilFunc else if o.nx = 0 then .func (.func 39) #[] #[] else if o.nx = 1 then .func (.func 67) #[] #[] else .func (.func 81) #[] #[]

/-- a join's cells -/
def jnL (sl sd b : Int) (sn : Nat) (o : Um.Js) : List Value := [.int .i64 sl, .int .i64 sd, .int .i64 b, .int .u64 (o.s : Nat), .int .u64 (sn : Nat), jnF o, .int .i64 ((o.r : Nat) : Int)]

def owF (o : Um.Ls) : Value := if o.dn = true then .nilFunc else if o.lk = true then .func (.func 73) #[] #[] else .func (.func 49) #[] #[]

/-- the cells of one's own end -/
def owL (sl sd b : Int) (o : Um.Ls) : List Value := [.int .i64 sl, .int .i64 sd, .int .i64 b, .int .u64 (o.s : Nat), owF o]

theorem put_same3j {l : List (Nat × List Value)} {i j k : Nat} {a b d : Nat × List Value} (hi : l[i]? = some a) (hj : l[j]? = some b) (hk : l[k]? = some d) : putL l [(i, a), (j, b), (k, d)] = l := by
  show ((l.set i a).set j b).set k d = l
  rw [set_same hi, set_same hj, set_same hk]

theorem jjd_F (sd b : Int) (M : Um.Mm) (nx s : Nat) : jnF (Um.jjd sd b M nx s) = jgF sd b s := by
  unfold jnF jgF Um.jjd
  by_cases h1 : Um.hasN s sd b = true
  · simp only [if_pos h1]
    rfl
  · simp only [if_neg h1]
    by_cases h2 : Um.stN s ≠ 2 ∧ Um.anyN s (1 - sd) = true
    · simp only [if_pos h2]
      rfl
    · simp only [if_neg h2]
      rfl

theorem jjd_R (sd b : Int) (M : Um.Mm) (nx s : Nat) : (((Um.jjd sd b M nx s).r : Nat) : Int) = jgR sd b s 0 := by
  unfold jgR Um.jjd
  by_cases h1 : Um.hasN s sd b = true
  · simp only [if_pos h1]
    rfl
  · simp only [if_neg h1]
    by_cases h2 : Um.stN s ≠ 2 ∧ Um.anyN s (1 - sd) = true
    · simp only [if_pos h2]
      rfl
    · simp only [if_neg h2]
      rfl

theorem jjd_L (sl sd b : Int) (sn : Nat) (M : Um.Mm) (nx s : Nat) : jnL sl sd b sn (Um.jjd sd b M nx s) = [.int .i64 sl, .int .i64 sd, .int .i64 b, .int .u64 (s : Nat), .int .u64 (sn : Nat), jgF sd b s, .int .i64 (jgR sd b s 0)] := by
  unfold jnL
  rw [jjd_F, jjd_R, (Um.jjd_r sd b M nx s).2.2.1]

section
variable {bs : List Nat} {w0 w : World} {l e : List (Nat × List Value)} {B C P : Nat} {c : Um.Cf} {sl sd b : Int} {sn : Nat}

theorem jRes_any {o : Um.Js} (hB : BlkAt w P (jnL sl sd b sn o)) : Calls Try.prog 16 #[.pointer (some ⟨P, 0, none⟩)] w fun r w' => r = .returned (.int .i64 ((o.r : Nat) : Int)) ∧ w' = w := jResult_b hB

theorem jnew_any (hS : Sx bs w0 w l e) (sl sd b : Int) (sn : Nat) (m : Um.Mm) :
    Calls Try.prog 10 #[.int .i64 sl, .int .i64 sd, .int .i64 b, .int .u64 (sn : Nat)] w fun r w' => ∃ P, r = .returned (.pointer (some ⟨P, 0, none⟩)) ∧ Sx bs w0 w' (l ++ [(P, jnL sl sd b sn (Um.jnew m))]) e := jNew_x hS sl sd b sn

theorem onew_any (hS : Sx bs w0 w l e) (sl sd b : Int) (m : Um.Mm) :
    Calls Try.prog 17 #[.int .i64 sl, .int .i64 sd, .int .i64 b] w fun r w' => ∃ P, r = .returned (.pointer (some ⟨P, 0, none⟩)) ∧ Sx bs w0 w' (l ++ [(P, owL sl sd b (Um.lnew m))]) e := oNew_x hS sl sd b

theorem jStep_any (hS : Sx bs w0 w l e) (i j k : Nat) (o O : Um.Js) (hO : O = Um.jstep c sl sd b sn o) (hi : l[i]? = some (B, memL c C o.m)) (hj : l[j]? = some (C, rowW o.m.ws c.n)) (hk : l[k]? = some (P, jnL sl sd b sn o)) (hij : i ≠ j) (hik : i ≠ k) (hjk : j ≠ k) (hr : c.r = true) (ho : Um.Jok c o) (h0 : -9223372036854775808 ≤ sl) (h1 : sl ≤ 9223372036854775807) (hd0 : -1 ≤ sd) (hd1 : sd ≤ 2) :
    Calls Try.prog 13 #[.pointer (some ⟨P, 0, none⟩), .pointer (some ⟨B, 0, none⟩)] w fun r w' => r = .returned (.tuple #[]) ∧ Um.Jok c O ∧ Sx bs w0 w' (putL l [(i, B, memL c C O.m), (j, C, rowW O.m.ws c.n), (k, P, jnL sl sd b sn O)]) e := by
  have hO' : Um.Jok c O := hO ▸ Um.jstep_ok ho
  by_cases hz : o.r = 0
  · obtain ⟨m, nx, s, r⟩ := o
    obtain ⟨i1, i2, i3, i4⟩ := ho
    dsimp only at *
    subst hz
    rcases (by omega : nx = 0 ∨ nx = 1 ∨ nx = 2) with rfl | rfl | rfl
    · obtain ⟨M, hM⟩ : ∃ M, M = Um.mtouch c m 1 4 sl 0 0 := ⟨_, rfl⟩
      have eO : O = (if Um.stN M.l.old = 4 then ⟨M, 1, M.l.old, 0⟩ else if Um.stN M.l.old = 2 ∨ Um.stN M.l.old = 3 then Um.jjd sd b M 0 M.l.old else ⟨M, 0, M.l.old, 1⟩) := by rw [hO, hM]; rfl
      by_cases g4 : Um.stN M.l.old = 4
      · rw [if_pos g4] at eO
        subst eO
        refine (jStep_ask (Q := fun w' => WordsOk c M ∧ Sx bs w0 w' (putL l [(i, B, memL c C M), (j, C, rowW M.ws c.n), (k, P, jnL sl sd b sn ⟨M, 1, M.l.old, 0⟩)]) e) (hS.get k hk) (jAsk_4 hS i j k hi hj hk hij hik hjk hr i1 h0 h1 M hM hd0 hd1 g4)).mono ?_
        rintro r w' ⟨rfl, _, hSn⟩
        exact ⟨rfl, hO', hSn⟩
      rw [if_neg g4] at eO
      by_cases g23 : Um.stN M.l.old = 2 ∨ Um.stN M.l.old = 3
      · rw [if_pos g23] at eO
        subst eO
        have hm := (Um.jjd_r sd b M 0 M.l.old).2.1
        rw [hm, jjd_L]
        rcases g23 with g2 | g3
        · refine (jStep_ask (Q := fun w' => WordsOk c M ∧ Sx bs w0 w' (putL l [(i, B, memL c C M), (j, C, rowW M.ws c.n), (k, P, [.int .i64 sl, .int .i64 sd, .int .i64 b, .int .u64 (M.l.old : Nat), .int .u64 (sn : Nat), jgF sd b M.l.old, .int .i64 (jgR sd b M.l.old 0)])]) e) (hS.get k hk) (jAsk_2 hS i j k hi hj hk hij hik hjk hr i1 h0 h1 M hM hd0 hd1 g2)).mono ?_
          rintro r w' ⟨rfl, _, hSn⟩
          exact ⟨rfl, hO', hSn⟩
        · refine (jStep_ask (Q := fun w' => WordsOk c M ∧ Sx bs w0 w' (putL l [(i, B, memL c C M), (j, C, rowW M.ws c.n), (k, P, [.int .i64 sl, .int .i64 sd, .int .i64 b, .int .u64 (M.l.old : Nat), .int .u64 (sn : Nat), jgF sd b M.l.old, .int .i64 (jgR sd b M.l.old 0)])]) e) (hS.get k hk) (jAsk_3 hS i j k hi hj hk hij hik hjk hr i1 h0 h1 M hM hd0 hd1 g3)).mono ?_
          rintro r w' ⟨rfl, _, hSn⟩
          exact ⟨rfl, hO', hSn⟩
      · rw [if_neg g23] at eO
        subst eO
        refine (jStep_ask (Q := fun w' => WordsOk c M ∧ Sx bs w0 w' (putL l [(i, B, memL c C M), (j, C, rowW M.ws c.n), (k, P, jnL sl sd b sn ⟨M, 0, M.l.old, 1⟩)]) e) (hS.get k hk) (jAsk_n hS i j k hi hj hk hij hik hjk hr i1 h0 h1 M hM hd0 hd1 (fun q => g23 (.inl q)) (fun q => g23 (.inr q)) g4)).mono ?_
        rintro r w' ⟨rfl, _, hSn⟩
        exact ⟨rfl, hO', hSn⟩
    · obtain ⟨M, hM⟩ : ∃ M, M = Um.mtouch c m 1 6 sl 0 0 := ⟨_, rfl⟩
      have eO : O = (if Um.past M.l.old sn = true then ⟨M, 1, s, 1⟩ else Um.jjd sd b M 1 s) := by rw [hO, hM]; rfl
      cases hp : Um.past M.l.old sn with
      | true =>
        rw [if_pos hp] at eO
        subst eO
        refine (jStep_num (Q := fun w' => WordsOk c M ∧ Sx bs w0 w' (putL l [(i, B, memL c C M), (j, C, rowW M.ws c.n), (k, P, jnL sl sd b sn ⟨M, 1, s, 1⟩)]) e) (hS.get k hk) (jNum_p hS i j k hi hj hk hij hik hjk hr i1 h0 h1 M hM i2 hd0 hd1 hp)).mono ?_
        rintro r w' ⟨rfl, _, hSn⟩
        exact ⟨rfl, hO', hSn⟩
      | false =>
        rw [if_neg (by rw [hp]; decide)] at eO
        subst eO
        have hm := (Um.jjd_r sd b M 1 s).2.1
        rw [hm, jjd_L]
        refine (jStep_num (Q := fun w' => WordsOk c M ∧ Sx bs w0 w' (putL l [(i, B, memL c C M), (j, C, rowW M.ws c.n), (k, P, [.int .i64 sl, .int .i64 sd, .int .i64 b, .int .u64 (s : Nat), .int .u64 (sn : Nat), jgF sd b s, .int .i64 (jgR sd b s 0)])]) e) (hS.get k hk) (jNum_j hS i j k hi hj hk hij hik hjk hr i1 h0 h1 M hM i2 hd0 hd1 hp)).mono ?_
        rintro r w' ⟨rfl, _, hSn⟩
        exact ⟨rfl, hO', hSn⟩
    · obtain ⟨M, hM⟩ : ∃ M, M = Um.mtouch c m 3 4 sl s (Um.withN s sd b) := ⟨_, rfl⟩
      have eO : O = ⟨M, 0, s, if M.l.done then 2 else 0⟩ := by rw [hO, hM]; rfl
      cases hdn : M.l.done with
      | true =>
        rw [hdn, if_pos rfl] at eO
        subst eO
        refine (jStep_lay (Q := fun w' => WordsOk c M ∧ Sx bs w0 w' (putL l [(i, B, memL c C M), (j, C, rowW M.ws c.n), (k, P, jnL sl sd b sn ⟨M, 0, s, 2⟩)]) e) (hS.get k hk) (jLay_t hS i j k hi hj hk hij hik hjk hr i1 h0 h1 M hM i2 hdn)).mono ?_
        rintro r w' ⟨rfl, _, hSn⟩
        exact ⟨rfl, hO', hSn⟩
      | false =>
        rw [hdn, if_neg (by decide)] at eO
        subst eO
        refine (jStep_lay (Q := fun w' => WordsOk c M ∧ Sx bs w0 w' (putL l [(i, B, memL c C M), (j, C, rowW M.ws c.n), (k, P, jnL sl sd b sn ⟨M, 0, s, 0⟩)]) e) (hS.get k hk) (jLay_f hS i j k hi hj hk hij hik hjk hr i1 h0 h1 M hM i2 hdn)).mono ?_
        rintro r w' ⟨rfl, _, hSn⟩
        exact ⟨rfl, hO', hSn⟩
  · have eO : O = o := by rw [hO]; exact Um.jstep_end hz
    subst eO
    have hF : jnF O = .nilFunc := by unfold jnF; rw [if_pos hz]
    have hk' := hk
    unfold jnL at hk'
    rw [hF] at hk'
    refine (jStep_done (hS.get k hk') _).mono ?_
    rintro r w' ⟨rfl, rfl⟩
    exact ⟨rfl, hO', by rw [put_same3j hi hj hk]; exact hS⟩

theorem oDone_any {o : Um.Ls} (hB : BlkAt w P (owL sl sd b o)) : Calls Try.prog 20 #[.pointer (some ⟨P, 0, none⟩)] w fun r w' => r = .returned (.bool o.dn) ∧ w' = w := by
  obtain ⟨m, lk, s, dn⟩ := o
  cases dn with
  | true => exact oDone_n hB
  | false =>
    cases lk with
    | true => exact oDone_f _ _ _ hB
    | false => exact oDone_f _ _ _ hB

theorem oStep_any (hS : Sx bs w0 w l e) (i j k : Nat) (o O : Um.Ls) (hO : O = Um.wstep c sl sd b o) (hi : l[i]? = some (B, memL c C o.m)) (hj : l[j]? = some (C, rowW o.m.ws c.n)) (hk : l[k]? = some (P, owL sl sd b o)) (hij : i ≠ j) (hik : i ≠ k) (hjk : j ≠ k) (hr : c.r = true) (ho : Um.Lok c o) (h0 : -9223372036854775808 ≤ sl) (h1 : sl ≤ 9223372036854775807) :
    Calls Try.prog 18 #[.pointer (some ⟨P, 0, none⟩), .pointer (some ⟨B, 0, none⟩)] w fun r w' => r = .returned (.tuple #[]) ∧ Um.Lok c O ∧ Sx bs w0 w' (putL l [(i, B, memL c C O.m), (j, C, rowW O.m.ws c.n), (k, P, owL sl sd b O)]) e := by
  have hO' : Um.Lok c O := hO ▸ Um.wstep_ok ho
  obtain ⟨m, lk, s, dn⟩ := o
  obtain ⟨i1, i2⟩ := ho
  dsimp only at *
  cases dn with
  | true =>
    have eO : O = ⟨m, lk, s, true⟩ := by rw [hO]; exact Um.wstep_done rfl
    subst eO
    refine (oStep_done (hS.get k hk) _).mono ?_
    rintro r w' ⟨rfl, rfl⟩
    exact ⟨rfl, hO', by rw [put_same3j hi hj hk]; exact hS⟩
  | false =>
    cases lk with
    | false =>
      obtain ⟨M, hM⟩ : ∃ M, M = Um.mtouch c m 1 4 sl 0 0 := ⟨_, rfl⟩
      have eO : O = ⟨M, true, M.l.old, decide (Um.withN M.l.old sd b = M.l.old)⟩ := by rw [hO, hM]; rfl
      by_cases he : Um.withN M.l.old sd b = M.l.old
      · rw [decide_eq_true he] at eO
        subst eO
        refine (oStep_ask (Q := fun w' => WordsOk c M ∧ Sx bs w0 w' (putL l [(i, B, memL c C M), (j, C, rowW M.ws c.n), (k, P, owL sl sd b ⟨M, true, M.l.old, true⟩)]) e) (hS.get k hk) (oAsk_t hS i j k hi hj hk hij hik hjk hr i1 h0 h1 M hM he)).mono ?_
        rintro r w' ⟨rfl, _, hSn⟩
        exact ⟨rfl, hO', hSn⟩
      · rw [decide_eq_false he] at eO
        subst eO
        refine (oStep_ask (Q := fun w' => WordsOk c M ∧ Sx bs w0 w' (putL l [(i, B, memL c C M), (j, C, rowW M.ws c.n), (k, P, owL sl sd b ⟨M, true, M.l.old, false⟩)]) e) (hS.get k hk) (oAsk_f hS i j k hi hj hk hij hik hjk hr i1 h0 h1 M hM he)).mono ?_
        rintro r w' ⟨rfl, _, hSn⟩
        exact ⟨rfl, hO', hSn⟩
    | true =>
      obtain ⟨M, hM⟩ : ∃ M, M = Um.mtouch c m 3 4 sl s (Um.withN s sd b) := ⟨_, rfl⟩
      have eO : O = ⟨M, false, s, M.l.done⟩ := by rw [hM]; exact hO
      cases hdn : M.l.done with
      | true =>
        rw [hdn] at eO
        subst eO
        refine (oStep_lay (Q := fun w' => WordsOk c M ∧ Sx bs w0 w' (putL l [(i, B, memL c C M), (j, C, rowW M.ws c.n), (k, P, owL sl sd b ⟨M, false, s, true⟩)]) e) (hS.get k hk) (oLay_t hS i j k hi hj hk hij hik hjk hr i1 h0 h1 M hM i2 hdn)).mono ?_
        rintro r w' ⟨rfl, _, hSn⟩
        exact ⟨rfl, hO', hSn⟩
      | false =>
        rw [hdn] at eO
        subst eO
        refine (oStep_lay (Q := fun w' => WordsOk c M ∧ Sx bs w0 w' (putL l [(i, B, memL c C M), (j, C, rowW M.ws c.n), (k, P, owL sl sd b ⟨M, false, s, false⟩)]) e) (hS.get k hk) (oLay_f hS i j k hi hj hk hij hik hjk hr i1 h0 h1 M hM i2 hdn)).mono ?_
        rintro r w' ⟨rfl, _, hSn⟩
        exact ⟨rfl, hO', hSn⟩

set_option maxHeartbeats 4000000 in
theorem ends_x (hS : Sx bs w0 w l e) (i j k : Nat) (o : Um.Js) (hi : l[i]? = some (B, memL c C o.m)) (hj : l[j]? = some (C, rowW o.m.ws c.n)) (hk : l[k]? = some (P, jnL sl sd b sn o)) (hij : i ≠ j) (hik : i ≠ k) (hjk : j ≠ k) (hr : c.r = true) (ho : Um.Jok c o) (h0 : -9223372036854775808 ≤ sl) (h1 : sl ≤ 9223372036854775807) (hd0 : -1 ≤ sd) (hd1 : sd ≤ 2) (most : Nat) (hm : most ≤ 100) (H : Um.Js) (hH : H = Um.jit c sl sd b sn o most) :
    Calls Try.prog 24 #[.pointer (some ⟨P, 0, none⟩), .pointer (some ⟨B, 0, none⟩), .int .i64 (most : Nat)] w fun r w' => ∃ N : Nat, r = .returned (.tuple #[.int .i64 ((H.r : Nat) : Int), .int .i64 (N : Nat)]) ∧ N ≤ most ∧ (N < most → (Um.jit c sl sd b sn o N).r ≠ 0) ∧ (∀ q, q < N → (Um.jit c sl sd b sn o q).r = 0) ∧ Um.Jok c H ∧ Sx bs w0 w' (putL l [(i, B, memL c C H.m), (j, C, rowW H.m.ws c.n), (k, P, jnL sl sd b sn H)]) e := by
  have HS := hide hS
  have HI := hide (And.intro hi (And.intro hj hk))
  have hL := hS.enter3 i j k hi hj hk hij hik hjk
  have HR := hide hr
  have HO := hide (show ∀ k, Um.Jok c (Um.jit c sl sd b sn o k) from fun k => Um.jit_ok ho k)
  have HH := hide hH
  have HBD := hide (And.intro h0 h1)
  clear h0 h1
  have HDD := hide (And.intro hd0 hd1)
  clear hd0 hd1
  clear hS hi hj hk hr ho hH
  have hS := hL
  clear hL
  go_enter Try.func24, Try.ntmps24
  go_wp2_with fail
  go_loopw [13] (fun i wr => ∃ q : Nat, q ≤ most ∧ i = .int .i64 q ∧ Hid (∀ k, k < q → (Um.jit c sl sd b sn o k).r = 0) ∧ Hid (Sx [B, C, P] w wr [(B, memL c C (Um.jit c sl sd b sn o q).m), (C, rowW (Um.jit c sl sd b sn o q).m.ws c.n), (P, jnL sl sd b sn (Um.jit c sl sd b sn o q))] [])) (fun i _ => most - (intOf i).toNat)
  case atStart => exact ⟨0, Nat.zero_le _, rfl, hide (fun _ h => absurd h (Nat.not_lt_zero _)), hide hS⟩
  case round =>
    clear hS
    rename_i wr
    obtain ⟨q, hq, rfl, HQ, HS3⟩ := hrel
    have hS := unhide HS3
    clear HS3
    by_cases hlt : q < most
    · have hlti : (q : Int) < (most : Int) := by omega
      have HD := hide (jRes_any (hS.get 2 rfl))
      by_cases hd : (Um.jit c sl sd b sn o q).r = 0
      · have Hd := hide hd
        rw [hd] at HD
        clear hd
        go_wp2_with fail
        refine (unhide HD).mono ?_
        rintro r u ⟨rfl, rfl⟩
        clear HD
        go_wp2_with fail
        refine (jStep_any hS 0 1 2 _ (Um.jit c sl sd b sn o (q + 1)) rfl rfl rfl rfl (by decide) (by decide) (by decide) (unhide HR) ((unhide HO) q) (unhide HBD).1 (unhide HBD).2 (unhide HDD).1 (unhide HDD).2).mono ?_
        rintro r u3 ⟨rfl, _, hSn⟩
        clear hS
        dsimp only [putL, List.set] at hSn
        have HS6 := hide hSn
        clear hSn
        go_wp2
        refine ⟨⟨q + 1, by omega, by go_num, hide (fun k hk => ?_), HS6⟩, by simp [intOf]; omega⟩
        by_cases e : k = q
        · subst e; exact unhide Hd
        · exact (unhide HQ) k (by omega)
      · have HE := hide (show (Um.jit c sl sd b sn o q) = H by rw [unhide HH]; exact (Um.jit_end hd (by omega)).symm)
        have Hd := hide hd
        have g1 : ¬ ((((Um.jit c sl sd b sn o q).r : Nat) : Int)) = 0 := by omega
        have g2 : (((((Um.jit c sl sd b sn o q).r : Nat) : Int)) != 0) = true := by simpa using g1
        have HD2 := HD
        clear hd
        go_wp2_with fail
        refine (unhide HD).mono ?_
        rintro r u ⟨rfl, rfl⟩
        clear HD
        go_wp2_with fail
        refine (unhide HD2).mono ?_
        rintro r u ⟨rfl, rfl⟩
        clear HD2
        have hS' := (unhide HS).back3 i j k (unhide HI).1 (unhide HI).2.1 (unhide HI).2.2 hS
        have HS4 := hide hS'
        clear hS hS'
        go_wp2
        go_ret2
        refine ⟨q, by rw [unhide HE]; rfl, hq, fun _ => unhide Hd, unhide HQ, ?_⟩
        have hS5 := unhide HS4
        have hO5 := (unhide HO) q
        rw [unhide HE] at hS5 hO5
        exact ⟨hO5, hS5⟩
    · have hge : ¬ (q : Int) < (most : Int) := by omega
      obtain rfl : q = most := by omega
      have HD := hide (jRes_any (hS.get 2 rfl))
      rw [← unhide HH] at HD
      have hS' := (unhide HS).back3 i j k (unhide HI).1 (unhide HI).2.1 (unhide HI).2.2 hS
      have HS4 := hide hS'
      clear hS hS'
      go_wp2_with fail
      refine (unhide HD).mono ?_
      rintro r u ⟨rfl, rfl⟩
      clear HD
      go_wp2
      go_ret2
      have hS5 := unhide HS4
      have hO5 := (unhide HO) q
      rw [← unhide HH] at hS5 hO5
      exact ⟨q, rfl, Nat.le_refl _, fun h => absurd h (Nat.lt_irrefl _), unhide HQ, hO5, hS5⟩

set_option maxHeartbeats 4000000 in
theorem owns_x (hS : Sx bs w0 w l e) (i j k : Nat) (o : Um.Ls) (hi : l[i]? = some (B, memL c C o.m)) (hj : l[j]? = some (C, rowW o.m.ws c.n)) (hk : l[k]? = some (P, owL sl sd b o)) (hij : i ≠ j) (hik : i ≠ k) (hjk : j ≠ k) (hr : c.r = true) (ho : Um.Lok c o) (h0 : -9223372036854775808 ≤ sl) (h1 : sl ≤ 9223372036854775807) (most : Nat) (hm : most ≤ 100) (H : Um.Ls) (hH : H = Um.wit c sl sd b o most) :
    Calls Try.prog 34 #[.pointer (some ⟨P, 0, none⟩), .pointer (some ⟨B, 0, none⟩), .int .i64 (most : Nat)] w fun r w' => ∃ N : Nat, r = .returned (.int .i64 (N : Nat)) ∧ N ≤ most ∧ (N < most → (Um.wit c sl sd b o N).dn = true) ∧ (∀ q, q < N → (Um.wit c sl sd b o q).dn = false) ∧ Um.Lok c H ∧ Sx bs w0 w' (putL l [(i, B, memL c C H.m), (j, C, rowW H.m.ws c.n), (k, P, owL sl sd b H)]) e := by
  have HS := hide hS
  have HI := hide (And.intro hi (And.intro hj hk))
  have hL := hS.enter3 i j k hi hj hk hij hik hjk
  have HR := hide hr
  have HO := hide (show ∀ k, Um.Lok c (Um.wit c sl sd b o k) from fun k => Um.wit_ok ho k)
  have HH := hide hH
  have HBD := hide (And.intro h0 h1)
  clear h0 h1
  clear hS hi hj hk hr ho hH
  have hS := hL
  clear hL
  go_enter Try.func34, Try.ntmps34
  go_wp2_with fail
  go_loopw [9] (fun i wr => ∃ q : Nat, q ≤ most ∧ i = .int .i64 q ∧ Hid (∀ k, k < q → (Um.wit c sl sd b o k).dn = false) ∧ Hid (Sx [B, C, P] w wr [(B, memL c C (Um.wit c sl sd b o q).m), (C, rowW (Um.wit c sl sd b o q).m.ws c.n), (P, owL sl sd b (Um.wit c sl sd b o q))] [])) (fun i _ => most - (intOf i).toNat)
  case atStart => exact ⟨0, Nat.zero_le _, rfl, hide (fun _ h => absurd h (Nat.not_lt_zero _)), hide hS⟩
  case round =>
    clear hS
    rename_i wr
    obtain ⟨q, hq, rfl, HQ, HS3⟩ := hrel
    have hS := unhide HS3
    clear HS3
    by_cases hlt : q < most
    · have hlti : (q : Int) < (most : Int) := by omega
      cases hd : (Um.wit c sl sd b o q).dn with
      | true =>
        have HE := hide (show (Um.wit c sl sd b o q) = H by rw [unhide HH]; exact (Um.wit_done hd (by omega)).symm)
        have HD := hide (oDone_any (hS.get 2 rfl))
        rw [hd] at HD
        have Hd := hide hd
        clear hd
        go_wp2_with fail
        refine (unhide HD).mono ?_
        rintro r u ⟨rfl, rfl⟩
        clear HD
        have hS' := (unhide HS).back3 i j k (unhide HI).1 (unhide HI).2.1 (unhide HI).2.2 hS
        have HS4 := hide hS'
        clear hS hS'
        go_wp2
        go_ret
        refine ⟨q, rfl, hq, fun _ => unhide Hd, unhide HQ, ?_⟩
        have hS5 := unhide HS4
        have hO5 := (unhide HO) q
        rw [unhide HE] at hS5 hO5
        exact ⟨hO5, hS5⟩
      | false =>
        have HD := hide (oDone_any (hS.get 2 rfl))
        rw [hd] at HD
        have Hd := hide hd
        clear hd
        go_wp2_with fail
        refine (unhide HD).mono ?_
        rintro r u ⟨rfl, rfl⟩
        clear HD
        go_wp2_with fail
        refine (oStep_any hS 0 1 2 _ (Um.wit c sl sd b o (q + 1)) rfl rfl rfl rfl (by decide) (by decide) (by decide) (unhide HR) ((unhide HO) q) (unhide HBD).1 (unhide HBD).2).mono ?_
        rintro r u3 ⟨rfl, _, hSn⟩
        clear hS
        dsimp only [putL, List.set] at hSn
        have HS6 := hide hSn
        clear hSn
        go_wp2
        refine ⟨⟨q + 1, by omega, by go_num, hide (fun k hk => ?_), HS6⟩, by simp [intOf]; omega⟩
        by_cases e : k = q
        · subst e; exact unhide Hd
        · exact (unhide HQ) k (by omega)
    · have hge : ¬ (q : Int) < (most : Int) := by omega
      obtain rfl : q = most := by omega
      have hS' := (unhide HS).back3 i j k (unhide HI).1 (unhide HI).2.1 (unhide HI).2.2 hS
      have HS4 := hide hS'
      clear hS hS'
      go_wp2
      go_ret
      have hS5 := unhide HS4
      have hO5 := (unhide HO) q
      rw [← unhide HH] at hS5 hO5
      exact ⟨q, rfl, Nat.le_refl _, fun h => absurd h (Nat.lt_irrefl _), unhide HQ, hO5, hS5⟩

end

set_option maxHeartbeats 1000000 in
theorem of11_any (kd a : Int) (w : World) : Calls Try.prog 22 #[.int .i64 kd, .int .i64 a] w fun r w' => r = .returned (.agg #[.int .i64 kd, .int .i64 a]) ∧ Below w.heap.size w w' := by
  go_enter Try.func22, Try.ntmps22
  go_wp2
  exact bodyPost_ret (v := (.agg #[.int .i64 kd, .int .i64 a])) (by simp [results, Try.results22, go_sem]) rfl ⟨rfl, (Below.refl _ _).alloc (Nat.le_refl _) _⟩

end Go.Proofs.Ytcpmclidndmgeaa

/-
  The walk of layer 11's first look: a conflict is laid to an active one, refused by one that commits, not needed for one that is past; an own end.
-/
namespace Go.Proofs.Ytcpmclidndmgeaa
set_option maxRecDepth 100000
open Go.RowKit Go.Sort
set_option linter.unusedVariables false
set_option linter.unusedSimpArgs false

def jc0 : Um.Cf := ⟨1, 2, 1, 0, 0⟩
def jm1 : Um.Mm := Um.mtouch jc0 ⟨fun _ => 0, 0, Um.noT⟩ 2 4 1 0 268435456
def ja11 : Um.Js := Um.jit jc0 1 1 0 5 (Um.jnew jm1) 20
def jm2 : Um.Mm := Um.mtouch jc0 ja11.m 1 4 1 0 0
def jm3 : Um.Mm := Um.mtouch jc0 jm2 2 4 1 0 402653185
def jb11 : Um.Js := Um.jit jc0 1 1 0 5 (Um.jnew jm3) 20
def jm4 : Um.Mm := Um.mtouch jc0 jb11.m 2 4 1 0 536870912
def jm5 : Um.Mm := Um.mtouch jc0 jm4 2 6 1 0 5
def jd11 : Um.Js := Um.jit jc0 1 1 0 5 (Um.jnew jm5) 20
def jo11 : Um.Ls := Um.wit jc0 0 0 1 (Um.lnew jd11.m) 20
def jm6 : Um.Mm := Um.mtouch jc0 jo11.m 1 4 0 0 0

theorem jc0_r : jc0.r = true := by decide +kernel

theorem first_num {f : Nat → Nat} {n N most : Nat} (hN : f N ≠ 0) (hl : N < most) (hf : ∀ q, q < N → f q = 0) (h0 : n ≤ most) (h1 : n < most → f n ≠ 0) (h2 : ∀ q, q < n → f q = 0) : n = N := by
  rcases Nat.lt_trichotomy n N with h | h | h
  · exact absurd (hf n h) (h1 (by omega))
  · exact h
  · exact absurd (h2 N h) hN

theorem first_yes {f : Nat → Bool} {n N most : Nat} (hN : f N = true) (hl : N < most) (hf : ∀ q, q < N → f q = false) (h0 : n ≤ most) (h1 : n < most → f n = true) (h2 : ∀ q, q < n → f q = false) : n = N := by
  rcases Nat.lt_trichotomy n N with h | h | h
  · have h3 := h1 (by omega)
    rw [hf n h] at h3
    cases h3
  · exact h
  · have h3 := h2 N h
    rw [hN] at h3
    cases h3

theorem ja_n {n : Nat} (h0 : n ≤ 20) (h1 : n < 20 → (Um.jit jc0 1 1 0 5 (Um.jnew jm1) n).r ≠ 0) (h2 : ∀ q, q < n → (Um.jit jc0 1 1 0 5 (Um.jnew jm1) q).r = 0) : n = 2 := by
  refine first_num (f := fun q => (Um.jit jc0 1 1 0 5 (Um.jnew jm1) q).r) (by decide +kernel) (by decide) (fun q hq => ?_) h0 h1 h2
  have h3 : (Um.jit jc0 1 1 0 5 (Um.jnew jm1) 0).r = 0 ∧ (Um.jit jc0 1 1 0 5 (Um.jnew jm1) 1).r = 0 := by decide +kernel
  match q, hq with
  | 0, _ => exact h3.1
  | 1, _ => exact h3.2

theorem jb_n {n : Nat} (h0 : n ≤ 20) (h1 : n < 20 → (Um.jit jc0 1 1 0 5 (Um.jnew jm3) n).r ≠ 0) (h2 : ∀ q, q < n → (Um.jit jc0 1 1 0 5 (Um.jnew jm3) q).r = 0) : n = 1 := by
  refine first_num (f := fun q => (Um.jit jc0 1 1 0 5 (Um.jnew jm3) q).r) (by decide +kernel) (by decide) (fun q hq => ?_) h0 h1 h2
  have h3 : (Um.jit jc0 1 1 0 5 (Um.jnew jm3) 0).r = 0 := by decide +kernel
  match q, hq with
  | 0, _ => exact h3

theorem jd_n {n : Nat} (h0 : n ≤ 20) (h1 : n < 20 → (Um.jit jc0 1 1 0 5 (Um.jnew jm5) n).r ≠ 0) (h2 : ∀ q, q < n → (Um.jit jc0 1 1 0 5 (Um.jnew jm5) q).r = 0) : n = 2 := by
  refine first_num (f := fun q => (Um.jit jc0 1 1 0 5 (Um.jnew jm5) q).r) (by decide +kernel) (by decide) (fun q hq => ?_) h0 h1 h2
  have h3 : (Um.jit jc0 1 1 0 5 (Um.jnew jm5) 0).r = 0 ∧ (Um.jit jc0 1 1 0 5 (Um.jnew jm5) 1).r = 0 := by decide +kernel
  match q, hq with
  | 0, _ => exact h3.1
  | 1, _ => exact h3.2

theorem jo_n {n : Nat} (h0 : n ≤ 20) (h1 : n < 20 → (Um.wit jc0 0 0 1 (Um.lnew jd11.m) n).dn = true) (h2 : ∀ q, q < n → (Um.wit jc0 0 0 1 (Um.lnew jd11.m) q).dn = false) : n = 2 := by
  refine first_yes (f := fun q => (Um.wit jc0 0 0 1 (Um.lnew jd11.m) q).dn) (by decide +kernel) (by decide) (fun q hq => ?_) h0 h1 h2
  have h3 : (Um.wit jc0 0 0 1 (Um.lnew jd11.m) 0).dn = false ∧ (Um.wit jc0 0 0 1 (Um.lnew jd11.m) 1).dn = false := by decide +kernel
  match q, hq with
  | 0, _ => exact h3.1
  | 1, _ => exact h3.2

theorem nw11_2 (w : World) : Calls Try.prog 40 #[.int .i64 2, .int .i64 0] w fun r w' => r = .returned (.int .u64 ((268435456 : Nat) : Int)) ∧ Below w.heap.size w w' := by
  have h := rNew01_any 2 w
  rwa [show Um.packV 0 2 false false false 0 0 = 268435456 by decide +kernel] at h

theorem nw11_3 (w : World) : Calls Try.prog 40 #[.int .i64 3, .int .i64 0] w fun r w' => r = .returned (.int .u64 ((402653184 : Nat) : Int)) ∧ Below w.heap.size w w' := by
  have h := rNew01_any 3 w
  rwa [show Um.packV 0 3 false false false 0 0 = 402653184 by decide +kernel] at h

theorem nw11_4 (w : World) : Calls Try.prog 40 #[.int .i64 4, .int .i64 0] w fun r w' => r = .returned (.int .u64 ((536870912 : Nat) : Int)) ∧ Below w.heap.size w w' := by
  have h := rNew01_any 4 w
  rwa [show Um.packV 0 4 false false false 0 0 = 536870912 by decide +kernel] at h

theorem wi11_a (w : World) : Calls Try.prog 29 #[.int .u64 ((402653184 : Nat) : Int), .int .i64 0, .int .i64 0] w fun r w' => r = .returned (.int .u64 ((402653185 : Nat) : Int)) ∧ Below w.heap.size w w' := by
  have h := same_below (refWith_any 402653184 0 0 w (by unfold Um.Word; omega))
  rwa [show Um.withN 402653184 0 0 = 402653185 by decide +kernel] at h

theorem wi11_b (w : World) : Calls Try.prog 29 #[.int .u64 ((268435456 : Nat) : Int), .int .i64 1, .int .i64 0] w fun r w' => r = .returned (.int .u64 ((268439552 : Nat) : Int)) ∧ Below w.heap.size w w' := by
  have h := same_below (refWith_any 268435456 1 0 w (by unfold Um.Word; omega))
  rwa [show Um.withN 268435456 1 0 = 268439552 by decide +kernel] at h

set_option maxHeartbeats 8000000 in
theorem jAlive_any (w : World) : Calls Try.prog 11 #[] w fun e w' => e = .returned (.bool true) ∧ Below w.heap.size w w' := by
  have hS := Sx.new w
  go_enter Try.func11, Try.ntmps11
  go_wp2_with fail
  refine (new_x hS jc0 jc0_r).mono ?_
  rintro r u ⟨B, C, rfl, hWn, hSn⟩
  clear hS
  have hS := hSn
  clear hSn
  dsimp only [putL, List.set, List.cons_append, List.nil_append] at hS
  have HW0 := hide hWn
  clear hWn
  go_wp2_with fail
  refine (of11_any 4 1 _).mono ?_
  rintro r u ⟨rfl, hb⟩
  replace hS := hS.call hb
  clear hb
  go_wp2_with (first | (refine wpx_box hS rfl _ _ rfl _ rfl _ (by intro _; simp only [Act.put, sx1, sx2, sx3]; first | done | exact rfl) ?_; clear hS; intro _ _ hS; dsimp only [blit, List.set, sx4, sx5, Value.cells, sx6] at hS) | (refine wpx_alloc hS rfl _ rfl _ (zer_any2 rfl) _ (by intro _; simp only [Act.put, sx1, sx2, sx3]; first | done | exact rfl) ?_; clear hS; intro _ _ hS; dsimp only [blit, List.set, sx4, sx5, Value.cells, sx6] at hS) | (refine wpx_ld hS rfl _ _ rfl _ _ rfl ?_; (repeat (first | refine sxh ?_ | refine sxn ?_)); first | refine .inl ⟨_, one_any2 rfl, rfl, _, (by simp only [Act.put, sx1, sx2, sx3]; first | done | exact rfl), ?_⟩ | refine .inr ⟨_, _, row_any2 rfl, rfl, (by dsimp only [cutL, List.drop, List.take]; first | done | exact rfl), _, (by simp only [Act.put, sx1, sx2, sx3]; first | done | exact rfl), ?_⟩) | (refine wpx_st hS rfl _ _ _ rfl rfl _ _ rfl ?_; (repeat (first | refine sxh ?_ | refine sxn ?_)); refine ⟨_, (by first | exact shA rfl | exact shI rfl | exact shB rfl | exact shS rfl | exact shP rfl | exact shF rfl | exact shN rfl), _, siz_any2 rfl, (by exact rfl), (by exact rfl), (by exact rfl), ?_⟩; clear hS; intro _ hS; dsimp only [blit, List.set, sx4, sx5, Value.cells, sx6] at hS))
  obtain ⟨SB, rfl⟩ := nameB hS 2 rfl
  have k0 := fun w' (hq : BlkAt w' SB [.int .i64 4, .int .i64 1]) => hq.cell 0 _ rfl
  have k1 := fun w' (hq : BlkAt w' SB [.int .i64 4, .int .i64 1]) => hq.cell 1 _ rfl
  have HP := hide (hS.get 2 rfl)
  have HS3 := hide hS
  clear hS
  go_region_held3 (fun w' => BlkAt w' SB [.int .i64 4, .int .i64 1]) (first | exact (unhide HP).drew | exact BlkAt.below (by assumption) (by assumption) | assumption) (first | (go_at_call 40; refine (nw11_2 _).mono ?_; rintro e u5 ⟨rfl, hb5⟩) | (go_at_call 32; refine (mStore_x ((unhide HS3).undrew hb5) 0 1 rfl rfl (by decide) jc0_r (unhide HW0) 4 1 268435456 (by unfold Um.Word; omega) (by decide) (by decide) jm1 rfl).mono ?_; rintro e u7 ⟨rfl, hW6, hS6⟩; have hP6 := hS6.get 2 rfl))
  have hS := hS6
  have HWjm1 := hide hW6
  clear hS6 hP6 hW6 k0 k1 HS3 HP
  dsimp only [putL, List.set] at hS
  go_wp2_with (first | (refine wpx_box hS rfl _ _ rfl _ rfl _ (by intro _; simp only [Act.put, sx1, sx2, sx3]; first | done | exact rfl) ?_; clear hS; intro _ _ hS; dsimp only [blit, List.set, sx4, sx5, Value.cells, sx6] at hS) | (refine wpx_alloc hS rfl _ rfl _ (zer_any2 rfl) _ (by intro _; simp only [Act.put, sx1, sx2, sx3]; first | done | exact rfl) ?_; clear hS; intro _ _ hS; dsimp only [blit, List.set, sx4, sx5, Value.cells, sx6] at hS) | (refine wpx_ld hS rfl _ _ rfl _ _ rfl ?_; (repeat (first | refine sxh ?_ | refine sxn ?_)); first | refine .inl ⟨_, one_any2 rfl, rfl, _, (by simp only [Act.put, sx1, sx2, sx3]; first | done | exact rfl), ?_⟩ | refine .inr ⟨_, _, row_any2 rfl, rfl, (by dsimp only [cutL, List.drop, List.take]; first | done | exact rfl), _, (by simp only [Act.put, sx1, sx2, sx3]; first | done | exact rfl), ?_⟩) | (refine wpx_st hS rfl _ _ _ rfl rfl _ _ rfl ?_; (repeat (first | refine sxh ?_ | refine sxn ?_)); refine ⟨_, (by first | exact shA rfl | exact shI rfl | exact shB rfl | exact shS rfl | exact shP rfl | exact shF rfl | exact shN rfl), _, siz_any2 rfl, (by exact rfl), (by exact rfl), (by exact rfl), ?_⟩; clear hS; intro _ hS; dsimp only [blit, List.set, sx4, sx5, Value.cells, sx6] at hS))
  refine (jnew_any hS 1 1 0 5 jm1).mono ?_
  rintro r u ⟨Pa, rfl, hSn⟩
  clear hS
  have hS := hSn
  clear hSn
  dsimp only [putL, List.set, List.cons_append, List.nil_append] at hS
  go_wp2_with (first | (refine wpx_box hS rfl _ _ rfl _ rfl _ (by intro _; simp only [Act.put, sx1, sx2, sx3]; first | done | exact rfl) ?_; clear hS; intro _ _ hS; dsimp only [blit, List.set, sx4, sx5, Value.cells, sx6] at hS) | (refine wpx_alloc hS rfl _ rfl _ (zer_any2 rfl) _ (by intro _; simp only [Act.put, sx1, sx2, sx3]; first | done | exact rfl) ?_; clear hS; intro _ _ hS; dsimp only [blit, List.set, sx4, sx5, Value.cells, sx6] at hS) | (refine wpx_ld hS rfl _ _ rfl _ _ rfl ?_; (repeat (first | refine sxh ?_ | refine sxn ?_)); first | refine .inl ⟨_, one_any2 rfl, rfl, _, (by simp only [Act.put, sx1, sx2, sx3]; first | done | exact rfl), ?_⟩ | refine .inr ⟨_, _, row_any2 rfl, rfl, (by dsimp only [cutL, List.drop, List.take]; first | done | exact rfl), _, (by simp only [Act.put, sx1, sx2, sx3]; first | done | exact rfl), ?_⟩) | (refine wpx_st hS rfl _ _ _ rfl rfl _ _ rfl ?_; (repeat (first | refine sxh ?_ | refine sxn ?_)); refine ⟨_, (by first | exact shA rfl | exact shI rfl | exact shB rfl | exact shS rfl | exact shP rfl | exact shF rfl | exact shN rfl), _, siz_any2 rfl, (by exact rfl), (by exact rfl), (by exact rfl), ?_⟩; clear hS; intro _ hS; dsimp only [blit, List.set, sx4, sx5, Value.cells, sx6] at hS))
  refine (ends_x hS 0 1 3 (Um.jnew jm1) rfl rfl rfl (by decide) (by decide) (by decide) jc0_r (Um.jnew_ok (unhide HWjm1)) (by decide) (by decide) (by decide) (by decide) 20 (by decide) ja11 rfl).mono ?_
  rintro r u ⟨n, rfl, hn1, hn2, hn3, hOn, hSn⟩
  clear hS
  have hS := hSn
  clear hSn
  dsimp only [putL, List.set, List.cons_append, List.nil_append] at hS
  obtain rfl : n = 2 := ja_n hn1 hn2 hn3
  have HOja11 := hide hOn
  clear hn1 hn2 hn3 hOn
  rw [show ((ja11.r : Nat) : Int) = 2 by decide +kernel]
  go_wp2_with (first | (refine wpx_box hS rfl _ _ rfl _ rfl _ (by intro _; simp only [Act.put, sx1, sx2, sx3]; first | done | exact rfl) ?_; clear hS; intro _ _ hS; dsimp only [blit, List.set, sx4, sx5, Value.cells, sx6] at hS) | (refine wpx_alloc hS rfl _ rfl _ (zer_any2 rfl) _ (by intro _; simp only [Act.put, sx1, sx2, sx3]; first | done | exact rfl) ?_; clear hS; intro _ _ hS; dsimp only [blit, List.set, sx4, sx5, Value.cells, sx6] at hS) | (refine wpx_ld hS rfl _ _ rfl _ _ rfl ?_; (repeat (first | refine sxh ?_ | refine sxn ?_)); first | refine .inl ⟨_, one_any2 rfl, rfl, _, (by simp only [Act.put, sx1, sx2, sx3]; first | done | exact rfl), ?_⟩ | refine .inr ⟨_, _, row_any2 rfl, rfl, (by dsimp only [cutL, List.drop, List.take]; first | done | exact rfl), _, (by simp only [Act.put, sx1, sx2, sx3]; first | done | exact rfl), ?_⟩) | (refine wpx_st hS rfl _ _ _ rfl rfl _ _ rfl ?_; (repeat (first | refine sxh ?_ | refine sxn ?_)); refine ⟨_, (by first | exact shA rfl | exact shI rfl | exact shB rfl | exact shS rfl | exact shP rfl | exact shF rfl | exact shN rfl), _, siz_any2 rfl, (by exact rfl), (by exact rfl), (by exact rfl), ?_⟩; clear hS; intro _ hS; dsimp only [blit, List.set, sx4, sx5, Value.cells, sx6] at hS))
  refine (mLoad_x hS 0 1 rfl rfl (by decide) jc0_r (unhide HOja11).wd 4 1 (by decide) (by decide) jm2 rfl).mono ?_
  rintro r u ⟨rfl, hWn, hSn⟩
  clear hS
  have hS := hSn
  clear hSn
  dsimp only [putL, List.set, List.cons_append, List.nil_append] at hS
  have HWjm2 := hide hWn
  clear hWn
  rw [show ((jm2.l.old : Nat) : Int) = ((268439552 : Nat) : Int) by decide +kernel]
  go_wp2_with fail
  have k0 := fun w' (hq : BlkAt w' SB [.int .i64 4, .int .i64 1]) => hq.cell 0 _ rfl
  have k1 := fun w' (hq : BlkAt w' SB [.int .i64 4, .int .i64 1]) => hq.cell 1 _ rfl
  have HP := hide (hS.get 2 rfl)
  have HS3 := hide hS
  clear hS
  go_region_held3 (fun w' => BlkAt w' SB [.int .i64 4, .int .i64 1]) (first | exact (unhide HP).drew | exact BlkAt.below (by assumption) (by assumption) | assumption) (first | (go_at_call 40; refine (nw11_3 _).mono ?_; rintro e u5 ⟨rfl, hb5⟩) | (go_at_call 29; refine (wi11_a _).mono ?_; rintro e u6 ⟨rfl, hb6⟩) | (go_at_call 32; refine (mStore_x (((unhide HS3).undrew hb5).call hb6) 0 1 rfl rfl (by decide) jc0_r (unhide HWjm2) 4 1 402653185 (by unfold Um.Word; omega) (by decide) (by decide) jm3 rfl).mono ?_; rintro e u7 ⟨rfl, hW6, hS6⟩; have hP6 := hS6.get 2 rfl))
  have hS := hS6
  have HWjm3 := hide hW6
  clear hS6 hP6 hW6 k0 k1 HS3 HP
  dsimp only [putL, List.set] at hS
  go_wp2_with (first | (refine wpx_box hS rfl _ _ rfl _ rfl _ (by intro _; simp only [Act.put, sx1, sx2, sx3]; first | done | exact rfl) ?_; clear hS; intro _ _ hS; dsimp only [blit, List.set, sx4, sx5, Value.cells, sx6] at hS) | (refine wpx_alloc hS rfl _ rfl _ (zer_any2 rfl) _ (by intro _; simp only [Act.put, sx1, sx2, sx3]; first | done | exact rfl) ?_; clear hS; intro _ _ hS; dsimp only [blit, List.set, sx4, sx5, Value.cells, sx6] at hS) | (refine wpx_ld hS rfl _ _ rfl _ _ rfl ?_; (repeat (first | refine sxh ?_ | refine sxn ?_)); first | refine .inl ⟨_, one_any2 rfl, rfl, _, (by simp only [Act.put, sx1, sx2, sx3]; first | done | exact rfl), ?_⟩ | refine .inr ⟨_, _, row_any2 rfl, rfl, (by dsimp only [cutL, List.drop, List.take]; first | done | exact rfl), _, (by simp only [Act.put, sx1, sx2, sx3]; first | done | exact rfl), ?_⟩) | (refine wpx_st hS rfl _ _ _ rfl rfl _ _ rfl ?_; (repeat (first | refine sxh ?_ | refine sxn ?_)); refine ⟨_, (by first | exact shA rfl | exact shI rfl | exact shB rfl | exact shS rfl | exact shP rfl | exact shF rfl | exact shN rfl), _, siz_any2 rfl, (by exact rfl), (by exact rfl), (by exact rfl), ?_⟩; clear hS; intro _ hS; dsimp only [blit, List.set, sx4, sx5, Value.cells, sx6] at hS))
  refine (jnew_any hS 1 1 0 5 jm3).mono ?_
  rintro r u ⟨Pb, rfl, hSn⟩
  clear hS
  have hS := hSn
  clear hSn
  dsimp only [putL, List.set, List.cons_append, List.nil_append] at hS
  go_wp2_with (first | (refine wpx_box hS rfl _ _ rfl _ rfl _ (by intro _; simp only [Act.put, sx1, sx2, sx3]; first | done | exact rfl) ?_; clear hS; intro _ _ hS; dsimp only [blit, List.set, sx4, sx5, Value.cells, sx6] at hS) | (refine wpx_alloc hS rfl _ rfl _ (zer_any2 rfl) _ (by intro _; simp only [Act.put, sx1, sx2, sx3]; first | done | exact rfl) ?_; clear hS; intro _ _ hS; dsimp only [blit, List.set, sx4, sx5, Value.cells, sx6] at hS) | (refine wpx_ld hS rfl _ _ rfl _ _ rfl ?_; (repeat (first | refine sxh ?_ | refine sxn ?_)); first | refine .inl ⟨_, one_any2 rfl, rfl, _, (by simp only [Act.put, sx1, sx2, sx3]; first | done | exact rfl), ?_⟩ | refine .inr ⟨_, _, row_any2 rfl, rfl, (by dsimp only [cutL, List.drop, List.take]; first | done | exact rfl), _, (by simp only [Act.put, sx1, sx2, sx3]; first | done | exact rfl), ?_⟩) | (refine wpx_st hS rfl _ _ _ rfl rfl _ _ rfl ?_; (repeat (first | refine sxh ?_ | refine sxn ?_)); refine ⟨_, (by first | exact shA rfl | exact shI rfl | exact shB rfl | exact shS rfl | exact shP rfl | exact shF rfl | exact shN rfl), _, siz_any2 rfl, (by exact rfl), (by exact rfl), (by exact rfl), ?_⟩; clear hS; intro _ hS; dsimp only [blit, List.set, sx4, sx5, Value.cells, sx6] at hS))
  refine (ends_x hS 0 1 4 (Um.jnew jm3) rfl rfl rfl (by decide) (by decide) (by decide) jc0_r (Um.jnew_ok (unhide HWjm3)) (by decide) (by decide) (by decide) (by decide) 20 (by decide) jb11 rfl).mono ?_
  rintro r u ⟨n, rfl, hn1, hn2, hn3, hOn, hSn⟩
  clear hS
  have hS := hSn
  clear hSn
  dsimp only [putL, List.set, List.cons_append, List.nil_append] at hS
  obtain rfl : n = 1 := jb_n hn1 hn2 hn3
  have HOjb11 := hide hOn
  clear hn1 hn2 hn3 hOn
  rw [show ((jb11.r : Nat) : Int) = 3 by decide +kernel]
  go_wp2_with (first | (refine wpx_box hS rfl _ _ rfl _ rfl _ (by intro _; simp only [Act.put, sx1, sx2, sx3]; first | done | exact rfl) ?_; clear hS; intro _ _ hS; dsimp only [blit, List.set, sx4, sx5, Value.cells, sx6] at hS) | (refine wpx_alloc hS rfl _ rfl _ (zer_any2 rfl) _ (by intro _; simp only [Act.put, sx1, sx2, sx3]; first | done | exact rfl) ?_; clear hS; intro _ _ hS; dsimp only [blit, List.set, sx4, sx5, Value.cells, sx6] at hS) | (refine wpx_ld hS rfl _ _ rfl _ _ rfl ?_; (repeat (first | refine sxh ?_ | refine sxn ?_)); first | refine .inl ⟨_, one_any2 rfl, rfl, _, (by simp only [Act.put, sx1, sx2, sx3]; first | done | exact rfl), ?_⟩ | refine .inr ⟨_, _, row_any2 rfl, rfl, (by dsimp only [cutL, List.drop, List.take]; first | done | exact rfl), _, (by simp only [Act.put, sx1, sx2, sx3]; first | done | exact rfl), ?_⟩) | (refine wpx_st hS rfl _ _ _ rfl rfl _ _ rfl ?_; (repeat (first | refine sxh ?_ | refine sxn ?_)); refine ⟨_, (by first | exact shA rfl | exact shI rfl | exact shB rfl | exact shS rfl | exact shP rfl | exact shF rfl | exact shN rfl), _, siz_any2 rfl, (by exact rfl), (by exact rfl), (by exact rfl), ?_⟩; clear hS; intro _ hS; dsimp only [blit, List.set, sx4, sx5, Value.cells, sx6] at hS))
  have k0 := fun w' (hq : BlkAt w' SB [.int .i64 4, .int .i64 1]) => hq.cell 0 _ rfl
  have k1 := fun w' (hq : BlkAt w' SB [.int .i64 4, .int .i64 1]) => hq.cell 1 _ rfl
  have HP := hide (hS.get 2 rfl)
  have HS3 := hide hS
  clear hS
  go_region_held3 (fun w' => BlkAt w' SB [.int .i64 4, .int .i64 1]) (first | exact (unhide HP).drew | exact BlkAt.below (by assumption) (by assumption) | assumption) (first | (go_at_call 40; refine (nw11_4 _).mono ?_; rintro e u5 ⟨rfl, hb5⟩) | (go_at_call 32; refine (mStore_x ((unhide HS3).undrew hb5) 0 1 rfl rfl (by decide) jc0_r (unhide HOjb11).wd 4 1 536870912 (by unfold Um.Word; omega) (by decide) (by decide) jm4 rfl).mono ?_; rintro e u7 ⟨rfl, hW6, hS6⟩; have hP6 := hS6.get 2 rfl))
  have hS := hS6
  have HWjm4 := hide hW6
  clear hS6 hP6 hW6 k0 k1 HS3 HP
  dsimp only [putL, List.set] at hS
  go_wp2_with (first | (refine wpx_box hS rfl _ _ rfl _ rfl _ (by intro _; simp only [Act.put, sx1, sx2, sx3]; first | done | exact rfl) ?_; clear hS; intro _ _ hS; dsimp only [blit, List.set, sx4, sx5, Value.cells, sx6] at hS) | (refine wpx_alloc hS rfl _ rfl _ (zer_any2 rfl) _ (by intro _; simp only [Act.put, sx1, sx2, sx3]; first | done | exact rfl) ?_; clear hS; intro _ _ hS; dsimp only [blit, List.set, sx4, sx5, Value.cells, sx6] at hS) | (refine wpx_ld hS rfl _ _ rfl _ _ rfl ?_; (repeat (first | refine sxh ?_ | refine sxn ?_)); first | refine .inl ⟨_, one_any2 rfl, rfl, _, (by simp only [Act.put, sx1, sx2, sx3]; first | done | exact rfl), ?_⟩ | refine .inr ⟨_, _, row_any2 rfl, rfl, (by dsimp only [cutL, List.drop, List.take]; first | done | exact rfl), _, (by simp only [Act.put, sx1, sx2, sx3]; first | done | exact rfl), ?_⟩) | (refine wpx_st hS rfl _ _ _ rfl rfl _ _ rfl ?_; (repeat (first | refine sxh ?_ | refine sxn ?_)); refine ⟨_, (by first | exact shA rfl | exact shI rfl | exact shB rfl | exact shS rfl | exact shP rfl | exact shF rfl | exact shN rfl), _, siz_any2 rfl, (by exact rfl), (by exact rfl), (by exact rfl), ?_⟩; clear hS; intro _ hS; dsimp only [blit, List.set, sx4, sx5, Value.cells, sx6] at hS))
  refine (of11_any 6 1 _).mono ?_
  rintro r u ⟨rfl, hb⟩
  replace hS := hS.call hb
  clear hb
  go_wp2_with fail
  refine (mStore_x hS 0 1 rfl rfl (by decide) jc0_r (unhide HWjm4) 6 1 5 (by unfold Um.Word; omega) (by decide) (by decide) jm5 rfl).mono ?_
  rintro r u ⟨rfl, hWn, hSn⟩
  clear hS
  have hS := hSn
  clear hSn
  dsimp only [putL, List.set, List.cons_append, List.nil_append] at hS
  have HWjm5 := hide hWn
  clear hWn
  go_wp2_with fail
  refine (jnew_any hS 1 1 0 5 jm5).mono ?_
  rintro r u ⟨Pd, rfl, hSn⟩
  clear hS
  have hS := hSn
  clear hSn
  dsimp only [putL, List.set, List.cons_append, List.nil_append] at hS
  go_wp2_with (first | (refine wpx_box hS rfl _ _ rfl _ rfl _ (by intro _; simp only [Act.put, sx1, sx2, sx3]; first | done | exact rfl) ?_; clear hS; intro _ _ hS; dsimp only [blit, List.set, sx4, sx5, Value.cells, sx6] at hS) | (refine wpx_alloc hS rfl _ rfl _ (zer_any2 rfl) _ (by intro _; simp only [Act.put, sx1, sx2, sx3]; first | done | exact rfl) ?_; clear hS; intro _ _ hS; dsimp only [blit, List.set, sx4, sx5, Value.cells, sx6] at hS) | (refine wpx_ld hS rfl _ _ rfl _ _ rfl ?_; (repeat (first | refine sxh ?_ | refine sxn ?_)); first | refine .inl ⟨_, one_any2 rfl, rfl, _, (by simp only [Act.put, sx1, sx2, sx3]; first | done | exact rfl), ?_⟩ | refine .inr ⟨_, _, row_any2 rfl, rfl, (by dsimp only [cutL, List.drop, List.take]; first | done | exact rfl), _, (by simp only [Act.put, sx1, sx2, sx3]; first | done | exact rfl), ?_⟩) | (refine wpx_st hS rfl _ _ _ rfl rfl _ _ rfl ?_; (repeat (first | refine sxh ?_ | refine sxn ?_)); refine ⟨_, (by first | exact shA rfl | exact shI rfl | exact shB rfl | exact shS rfl | exact shP rfl | exact shF rfl | exact shN rfl), _, siz_any2 rfl, (by exact rfl), (by exact rfl), (by exact rfl), ?_⟩; clear hS; intro _ hS; dsimp only [blit, List.set, sx4, sx5, Value.cells, sx6] at hS))
  refine (ends_x hS 0 1 5 (Um.jnew jm5) rfl rfl rfl (by decide) (by decide) (by decide) jc0_r (Um.jnew_ok (unhide HWjm5)) (by decide) (by decide) (by decide) (by decide) 20 (by decide) jd11 rfl).mono ?_
  rintro r u ⟨n, rfl, hn1, hn2, hn3, hOn, hSn⟩
  clear hS
  have hS := hSn
  clear hSn
  dsimp only [putL, List.set, List.cons_append, List.nil_append] at hS
  obtain rfl : n = 2 := jd_n hn1 hn2 hn3
  have HOjd11 := hide hOn
  clear hn1 hn2 hn3 hOn
  rw [show ((jd11.r : Nat) : Int) = 1 by decide +kernel]
  go_wp2_with (first | (refine wpx_box hS rfl _ _ rfl _ rfl _ (by intro _; simp only [Act.put, sx1, sx2, sx3]; first | done | exact rfl) ?_; clear hS; intro _ _ hS; dsimp only [blit, List.set, sx4, sx5, Value.cells, sx6] at hS) | (refine wpx_alloc hS rfl _ rfl _ (zer_any2 rfl) _ (by intro _; simp only [Act.put, sx1, sx2, sx3]; first | done | exact rfl) ?_; clear hS; intro _ _ hS; dsimp only [blit, List.set, sx4, sx5, Value.cells, sx6] at hS) | (refine wpx_ld hS rfl _ _ rfl _ _ rfl ?_; (repeat (first | refine sxh ?_ | refine sxn ?_)); first | refine .inl ⟨_, one_any2 rfl, rfl, _, (by simp only [Act.put, sx1, sx2, sx3]; first | done | exact rfl), ?_⟩ | refine .inr ⟨_, _, row_any2 rfl, rfl, (by dsimp only [cutL, List.drop, List.take]; first | done | exact rfl), _, (by simp only [Act.put, sx1, sx2, sx3]; first | done | exact rfl), ?_⟩) | (refine wpx_st hS rfl _ _ _ rfl rfl _ _ rfl ?_; (repeat (first | refine sxh ?_ | refine sxn ?_)); refine ⟨_, (by first | exact shA rfl | exact shI rfl | exact shB rfl | exact shS rfl | exact shP rfl | exact shF rfl | exact shN rfl), _, siz_any2 rfl, (by exact rfl), (by exact rfl), (by exact rfl), ?_⟩; clear hS; intro _ hS; dsimp only [blit, List.set, sx4, sx5, Value.cells, sx6] at hS))
  refine (onew_any hS 0 0 1 jd11.m).mono ?_
  rintro r u ⟨Po, rfl, hSn⟩
  clear hS
  have hS := hSn
  clear hSn
  dsimp only [putL, List.set, List.cons_append, List.nil_append] at hS
  go_wp2_with fail
  refine (owns_x hS 0 1 6 (Um.lnew jd11.m) rfl rfl rfl (by decide) (by decide) (by decide) jc0_r (Um.lnew_ok (unhide HOjd11).wd) (by decide) (by decide) 20 (by decide) jo11 rfl).mono ?_
  rintro r u ⟨n, rfl, hn1, hn2, hn3, hOn, hSn⟩
  clear hS
  have hS := hSn
  clear hSn
  dsimp only [putL, List.set, List.cons_append, List.nil_append] at hS
  obtain rfl : n = 2 := jo_n hn1 hn2 hn3
  have HOjo11 := hide hOn
  clear hn1 hn2 hn3 hOn
  go_wp2_with fail
  refine (nw11_2 _).mono ?_
  rintro r u ⟨rfl, hb⟩
  replace hS := hS.call hb
  clear hb
  go_wp2_with fail
  refine (wi11_b _).mono ?_
  rintro r u ⟨rfl, hb⟩
  replace hS := hS.call hb
  clear hb
  go_wp2_with fail
  refine (oDone_any (o := jo11) (hS.get 6 rfl)).mono ?_
  rintro r u ⟨rfl, rfl⟩
  rw [show jo11.dn = true by decide +kernel]
  go_wp2_with fail
  refine (of11_any 4 0 _).mono ?_
  rintro r u ⟨rfl, hb⟩
  replace hS := hS.call hb
  clear hb
  go_wp2_with fail
  refine (mLoad_x hS 0 1 rfl rfl (by decide) jc0_r (unhide HOjo11).wd 4 0 (by decide) (by decide) jm6 rfl).mono ?_
  rintro r u ⟨rfl, hWn, hSn⟩
  clear hS
  have hS := hSn
  clear hSn
  dsimp only [putL, List.set, List.cons_append, List.nil_append] at hS
  clear hWn
  rw [show ((jm6.l.old : Nat) : Int) = 2 by decide +kernel]
  have hB := hS.bel
  clear hS
  go_wp2
  go_ret
  exact ⟨rfl, hB⟩

end Go.Proofs.Ytcpmclidndmgeaa

/-
  The document's join: judged.
-/
namespace Go.Proofs.Ytcpmclidndmgeaa
set_option maxRecDepth 100000
open Go.RowKit Go.Sort

set_option linter.unusedVariables false

/-- what judging comes to: its next step, its result -/
def Jg (sd b : Int) (s : Nat) (nx nx2 r2 : Int) : Prop :=
  (Um.hasN s sd b = true → nx2 = nx ∧ r2 = 2) ∧ (Um.hasN s sd b = false → Um.stN s ≠ 2 → Um.anyN s (1 - sd) = true → nx2 = nx ∧ r2 = 3) ∧ (Um.hasN s sd b = false → (Um.stN s = 2 ∨ Um.anyN s (1 - sd) = false) → nx2 = 2 ∧ r2 = 0)

set_option maxHeartbeats 2000000 in
theorem rJudge_2 (sl sd b nx : Int) (sn s : Nat) (w : World) (hs : Um.Word s) (hd0 : -1 ≤ sd) (hd1 : sd ≤ 2) (hh : Um.hasN s sd b = true) : Calls Try.prog 43 #[.agg #[.int .i64 sl, .int .i64 sd, .int .i64 b, .int .u64 (sn : Nat), .int .i64 nx, .int .u64 (s : Nat), .int .i64 0]] w fun r w' => r = .returned (.agg #[.int .i64 sl, .int .i64 sd, .int .i64 b, .int .u64 (sn : Nat), .int .i64 nx, .int .u64 (s : Nat), .int .i64 2]) ∧ Below w.heap.size w w' := by
  have hS := Sx.new w
  have HSW := hide hs
  have HH := hide hh
  clear hh
  clear hs
  go_enter Try.func43, Try.ntmps43
  go_wp2_with (first | (refine wpx_box hS rfl _ _ rfl _ rfl _ (by intro _; simp only [Act.put, sx1, sx2, sx3]; first | done | exact rfl) ?_; clear hS; intro _ _ hS; dsimp only [blit, List.set, sx4, sx5, Value.cells, sx6] at hS) | (refine wpx_alloc hS rfl _ rfl _ (zer_any2 rfl) _ (by intro _; simp only [Act.put, sx1, sx2, sx3]; first | done | exact rfl) ?_; clear hS; intro _ _ hS; dsimp only [blit, List.set, sx4, sx5, Value.cells, sx6] at hS) | (refine wpx_ld hS rfl _ _ rfl _ _ rfl ?_; (repeat (first | refine sxh ?_ | refine sxn ?_)); first | refine .inl ⟨_, one_any2 rfl, rfl, _, (by simp only [Act.put, sx1, sx2, sx3]; first | done | exact rfl), ?_⟩ | refine .inr ⟨_, _, row_any2 rfl, rfl, (by dsimp only [cutL, List.drop, List.take]; first | done | exact rfl), _, (by simp only [Act.put, sx1, sx2, sx3]; first | done | exact rfl), ?_⟩) | (refine wpx_st hS rfl _ _ _ rfl rfl _ _ rfl ?_; (repeat (first | refine sxh ?_ | refine sxn ?_)); refine ⟨_, (by first | exact shA rfl | exact shI rfl | exact shB rfl | exact shS rfl | exact shP rfl | exact shF rfl | exact shN rfl), _, siz_any2 rfl, (by exact rfl), (by exact rfl), (by exact rfl), ?_⟩; clear hS; intro _ hS; dsimp only [blit, List.set, sx4, sx5, Value.cells, sx6] at hS))
  refine (refHas_any s sd b _ (unhide HSW)).mono ?_
  rintro r u ⟨rfl, rfl⟩
  rw [unhide HH]
  go_wp2_with (first | (refine wpx_box hS rfl _ _ rfl _ rfl _ (by intro _; simp only [Act.put, sx1, sx2, sx3]; first | done | exact rfl) ?_; clear hS; intro _ _ hS; dsimp only [blit, List.set, sx4, sx5, Value.cells, sx6] at hS) | (refine wpx_alloc hS rfl _ rfl _ (zer_any2 rfl) _ (by intro _; simp only [Act.put, sx1, sx2, sx3]; first | done | exact rfl) ?_; clear hS; intro _ _ hS; dsimp only [blit, List.set, sx4, sx5, Value.cells, sx6] at hS) | (refine wpx_ld hS rfl _ _ rfl _ _ rfl ?_; (repeat (first | refine sxh ?_ | refine sxn ?_)); first | refine .inl ⟨_, one_any2 rfl, rfl, _, (by simp only [Act.put, sx1, sx2, sx3]; first | done | exact rfl), ?_⟩ | refine .inr ⟨_, _, row_any2 rfl, rfl, (by dsimp only [cutL, List.drop, List.take]; first | done | exact rfl), _, (by simp only [Act.put, sx1, sx2, sx3]; first | done | exact rfl), ?_⟩) | (refine wpx_st hS rfl _ _ _ rfl rfl _ _ rfl ?_; (repeat (first | refine sxh ?_ | refine sxn ?_)); refine ⟨_, (by first | exact shA rfl | exact shI rfl | exact shB rfl | exact shS rfl | exact shP rfl | exact shF rfl | exact shN rfl), _, siz_any2 rfl, (by exact rfl), (by exact rfl), (by exact rfl), ?_⟩; clear hS; intro _ hS; dsimp only [blit, List.set, sx4, sx5, Value.cells, sx6] at hS))
  have hZ := hS.get 1 rfl
  exact bodyPost_ret (v := .agg #[.int .i64 sl, .int .i64 sd, .int .i64 b, .int .u64 (sn : Nat), .int .i64 nx, .int .u64 (s : Nat), .int .i64 2]) (by simp [results, Try.results43, go_sem, hZ.cell 0 _ rfl, hZ.cell 1 _ rfl, hZ.cell 2 _ rfl, hZ.cell 3 _ rfl, hZ.cell 4 _ rfl, hZ.cell 5 _ rfl, hZ.cell 6 _ rfl]) rfl ⟨rfl, hS.bel⟩

set_option maxHeartbeats 2000000 in
theorem rJudge_3 (sl sd b nx : Int) (sn s : Nat) (w : World) (hs : Um.Word s) (hd0 : -1 ≤ sd) (hd1 : sd ≤ 2) (hh : Um.hasN s sd b = false) (h2 : Um.stN s ≠ 2) (ha : Um.anyN s (1 - sd) = true) : Calls Try.prog 43 #[.agg #[.int .i64 sl, .int .i64 sd, .int .i64 b, .int .u64 (sn : Nat), .int .i64 nx, .int .u64 (s : Nat), .int .i64 0]] w fun r w' => r = .returned (.agg #[.int .i64 sl, .int .i64 sd, .int .i64 b, .int .u64 (sn : Nat), .int .i64 nx, .int .u64 (s : Nat), .int .i64 3]) ∧ Below w.heap.size w w' := by
  have hS := Sx.new w
  have HSW := hide hs
  have HH := hide hh
  clear hh
  have s1 : ¬ ((Um.stN s : Nat) : Int) = 2 := by omega
  have s2 : (((Um.stN s : Nat) : Int) != 2) = true := by simpa using s1
  have HA := hide ha
  clear ha h2
  clear hs
  go_enter Try.func43, Try.ntmps43
  go_wp2_with (first | (refine wpx_box hS rfl _ _ rfl _ rfl _ (by intro _; simp only [Act.put, sx1, sx2, sx3]; first | done | exact rfl) ?_; clear hS; intro _ _ hS; dsimp only [blit, List.set, sx4, sx5, Value.cells, sx6] at hS) | (refine wpx_alloc hS rfl _ rfl _ (zer_any2 rfl) _ (by intro _; simp only [Act.put, sx1, sx2, sx3]; first | done | exact rfl) ?_; clear hS; intro _ _ hS; dsimp only [blit, List.set, sx4, sx5, Value.cells, sx6] at hS) | (refine wpx_ld hS rfl _ _ rfl _ _ rfl ?_; (repeat (first | refine sxh ?_ | refine sxn ?_)); first | refine .inl ⟨_, one_any2 rfl, rfl, _, (by simp only [Act.put, sx1, sx2, sx3]; first | done | exact rfl), ?_⟩ | refine .inr ⟨_, _, row_any2 rfl, rfl, (by dsimp only [cutL, List.drop, List.take]; first | done | exact rfl), _, (by simp only [Act.put, sx1, sx2, sx3]; first | done | exact rfl), ?_⟩) | (refine wpx_st hS rfl _ _ _ rfl rfl _ _ rfl ?_; (repeat (first | refine sxh ?_ | refine sxn ?_)); refine ⟨_, (by first | exact shA rfl | exact shI rfl | exact shB rfl | exact shS rfl | exact shP rfl | exact shF rfl | exact shN rfl), _, siz_any2 rfl, (by exact rfl), (by exact rfl), (by exact rfl), ?_⟩; clear hS; intro _ hS; dsimp only [blit, List.set, sx4, sx5, Value.cells, sx6] at hS))
  refine (refHas_any s sd b _ (unhide HSW)).mono ?_
  rintro r u ⟨rfl, rfl⟩
  rw [unhide HH]
  go_wp2_with (first | (refine wpx_box hS rfl _ _ rfl _ rfl _ (by intro _; simp only [Act.put, sx1, sx2, sx3]; first | done | exact rfl) ?_; clear hS; intro _ _ hS; dsimp only [blit, List.set, sx4, sx5, Value.cells, sx6] at hS) | (refine wpx_alloc hS rfl _ rfl _ (zer_any2 rfl) _ (by intro _; simp only [Act.put, sx1, sx2, sx3]; first | done | exact rfl) ?_; clear hS; intro _ _ hS; dsimp only [blit, List.set, sx4, sx5, Value.cells, sx6] at hS) | (refine wpx_ld hS rfl _ _ rfl _ _ rfl ?_; (repeat (first | refine sxh ?_ | refine sxn ?_)); first | refine .inl ⟨_, one_any2 rfl, rfl, _, (by simp only [Act.put, sx1, sx2, sx3]; first | done | exact rfl), ?_⟩ | refine .inr ⟨_, _, row_any2 rfl, rfl, (by dsimp only [cutL, List.drop, List.take]; first | done | exact rfl), _, (by simp only [Act.put, sx1, sx2, sx3]; first | done | exact rfl), ?_⟩) | (refine wpx_st hS rfl _ _ _ rfl rfl _ _ rfl ?_; (repeat (first | refine sxh ?_ | refine sxn ?_)); refine ⟨_, (by first | exact shA rfl | exact shI rfl | exact shB rfl | exact shS rfl | exact shP rfl | exact shF rfl | exact shN rfl), _, siz_any2 rfl, (by exact rfl), (by exact rfl), (by exact rfl), ?_⟩; clear hS; intro _ hS; dsimp only [blit, List.set, sx4, sx5, Value.cells, sx6] at hS))
  refine (rState_b s _ (unhide HSW)).mono ?_
  rintro r u ⟨rfl, hb⟩
  replace hS := hS.call hb
  clear hb
  go_wp2_with (first | (refine wpx_box hS rfl _ _ rfl _ rfl _ (by intro _; simp only [Act.put, sx1, sx2, sx3]; first | done | exact rfl) ?_; clear hS; intro _ _ hS; dsimp only [blit, List.set, sx4, sx5, Value.cells, sx6] at hS) | (refine wpx_alloc hS rfl _ rfl _ (zer_any2 rfl) _ (by intro _; simp only [Act.put, sx1, sx2, sx3]; first | done | exact rfl) ?_; clear hS; intro _ _ hS; dsimp only [blit, List.set, sx4, sx5, Value.cells, sx6] at hS) | (refine wpx_ld hS rfl _ _ rfl _ _ rfl ?_; (repeat (first | refine sxh ?_ | refine sxn ?_)); first | refine .inl ⟨_, one_any2 rfl, rfl, _, (by simp only [Act.put, sx1, sx2, sx3]; first | done | exact rfl), ?_⟩ | refine .inr ⟨_, _, row_any2 rfl, rfl, (by dsimp only [cutL, List.drop, List.take]; first | done | exact rfl), _, (by simp only [Act.put, sx1, sx2, sx3]; first | done | exact rfl), ?_⟩) | (refine wpx_st hS rfl _ _ _ rfl rfl _ _ rfl ?_; (repeat (first | refine sxh ?_ | refine sxn ?_)); refine ⟨_, (by first | exact shA rfl | exact shI rfl | exact shB rfl | exact shS rfl | exact shP rfl | exact shF rfl | exact shN rfl), _, siz_any2 rfl, (by exact rfl), (by exact rfl), (by exact rfl), ?_⟩; clear hS; intro _ hS; dsimp only [blit, List.set, sx4, sx5, Value.cells, sx6] at hS))
  refine (refAny_any s (1 - sd) _ (unhide HSW)).mono ?_
  rintro r u ⟨rfl, n, rfl⟩
  replace hS := hS.drewN n
  rw [unhide HA]
  go_wp2_with (first | (refine wpx_box hS rfl _ _ rfl _ rfl _ (by intro _; simp only [Act.put, sx1, sx2, sx3]; first | done | exact rfl) ?_; clear hS; intro _ _ hS; dsimp only [blit, List.set, sx4, sx5, Value.cells, sx6] at hS) | (refine wpx_alloc hS rfl _ rfl _ (zer_any2 rfl) _ (by intro _; simp only [Act.put, sx1, sx2, sx3]; first | done | exact rfl) ?_; clear hS; intro _ _ hS; dsimp only [blit, List.set, sx4, sx5, Value.cells, sx6] at hS) | (refine wpx_ld hS rfl _ _ rfl _ _ rfl ?_; (repeat (first | refine sxh ?_ | refine sxn ?_)); first | refine .inl ⟨_, one_any2 rfl, rfl, _, (by simp only [Act.put, sx1, sx2, sx3]; first | done | exact rfl), ?_⟩ | refine .inr ⟨_, _, row_any2 rfl, rfl, (by dsimp only [cutL, List.drop, List.take]; first | done | exact rfl), _, (by simp only [Act.put, sx1, sx2, sx3]; first | done | exact rfl), ?_⟩) | (refine wpx_st hS rfl _ _ _ rfl rfl _ _ rfl ?_; (repeat (first | refine sxh ?_ | refine sxn ?_)); refine ⟨_, (by first | exact shA rfl | exact shI rfl | exact shB rfl | exact shS rfl | exact shP rfl | exact shF rfl | exact shN rfl), _, siz_any2 rfl, (by exact rfl), (by exact rfl), (by exact rfl), ?_⟩; clear hS; intro _ hS; dsimp only [blit, List.set, sx4, sx5, Value.cells, sx6] at hS))
  have hZ := hS.get 1 rfl
  exact bodyPost_ret (v := .agg #[.int .i64 sl, .int .i64 sd, .int .i64 b, .int .u64 (sn : Nat), .int .i64 nx, .int .u64 (s : Nat), .int .i64 3]) (by simp [results, Try.results43, go_sem, hZ.cell 0 _ rfl, hZ.cell 1 _ rfl, hZ.cell 2 _ rfl, hZ.cell 3 _ rfl, hZ.cell 4 _ rfl, hZ.cell 5 _ rfl, hZ.cell 6 _ rfl]) rfl ⟨rfl, hS.bel⟩

set_option maxHeartbeats 2000000 in
theorem rJudge_0b (sl sd b nx : Int) (sn s : Nat) (w : World) (hs : Um.Word s) (hd0 : -1 ≤ sd) (hd1 : sd ≤ 2) (hh : Um.hasN s sd b = false) (h2 : Um.stN s ≠ 2) (ha : Um.anyN s (1 - sd) = false) : Calls Try.prog 43 #[.agg #[.int .i64 sl, .int .i64 sd, .int .i64 b, .int .u64 (sn : Nat), .int .i64 nx, .int .u64 (s : Nat), .int .i64 0]] w fun r w' => r = .returned (.agg #[.int .i64 sl, .int .i64 sd, .int .i64 b, .int .u64 (sn : Nat), .int .i64 2, .int .u64 (s : Nat), .int .i64 0]) ∧ Below w.heap.size w w' := by
  have hS := Sx.new w
  have HSW := hide hs
  have HH := hide hh
  clear hh
  have s1 : ¬ ((Um.stN s : Nat) : Int) = 2 := by omega
  have s2 : (((Um.stN s : Nat) : Int) != 2) = true := by simpa using s1
  have HA := hide ha
  clear ha h2
  clear hs
  go_enter Try.func43, Try.ntmps43
  go_wp2_with (first | (refine wpx_box hS rfl _ _ rfl _ rfl _ (by intro _; simp only [Act.put, sx1, sx2, sx3]; first | done | exact rfl) ?_; clear hS; intro _ _ hS; dsimp only [blit, List.set, sx4, sx5, Value.cells, sx6] at hS) | (refine wpx_alloc hS rfl _ rfl _ (zer_any2 rfl) _ (by intro _; simp only [Act.put, sx1, sx2, sx3]; first | done | exact rfl) ?_; clear hS; intro _ _ hS; dsimp only [blit, List.set, sx4, sx5, Value.cells, sx6] at hS) | (refine wpx_ld hS rfl _ _ rfl _ _ rfl ?_; (repeat (first | refine sxh ?_ | refine sxn ?_)); first | refine .inl ⟨_, one_any2 rfl, rfl, _, (by simp only [Act.put, sx1, sx2, sx3]; first | done | exact rfl), ?_⟩ | refine .inr ⟨_, _, row_any2 rfl, rfl, (by dsimp only [cutL, List.drop, List.take]; first | done | exact rfl), _, (by simp only [Act.put, sx1, sx2, sx3]; first | done | exact rfl), ?_⟩) | (refine wpx_st hS rfl _ _ _ rfl rfl _ _ rfl ?_; (repeat (first | refine sxh ?_ | refine sxn ?_)); refine ⟨_, (by first | exact shA rfl | exact shI rfl | exact shB rfl | exact shS rfl | exact shP rfl | exact shF rfl | exact shN rfl), _, siz_any2 rfl, (by exact rfl), (by exact rfl), (by exact rfl), ?_⟩; clear hS; intro _ hS; dsimp only [blit, List.set, sx4, sx5, Value.cells, sx6] at hS))
  refine (refHas_any s sd b _ (unhide HSW)).mono ?_
  rintro r u ⟨rfl, rfl⟩
  rw [unhide HH]
  go_wp2_with (first | (refine wpx_box hS rfl _ _ rfl _ rfl _ (by intro _; simp only [Act.put, sx1, sx2, sx3]; first | done | exact rfl) ?_; clear hS; intro _ _ hS; dsimp only [blit, List.set, sx4, sx5, Value.cells, sx6] at hS) | (refine wpx_alloc hS rfl _ rfl _ (zer_any2 rfl) _ (by intro _; simp only [Act.put, sx1, sx2, sx3]; first | done | exact rfl) ?_; clear hS; intro _ _ hS; dsimp only [blit, List.set, sx4, sx5, Value.cells, sx6] at hS) | (refine wpx_ld hS rfl _ _ rfl _ _ rfl ?_; (repeat (first | refine sxh ?_ | refine sxn ?_)); first | refine .inl ⟨_, one_any2 rfl, rfl, _, (by simp only [Act.put, sx1, sx2, sx3]; first | done | exact rfl), ?_⟩ | refine .inr ⟨_, _, row_any2 rfl, rfl, (by dsimp only [cutL, List.drop, List.take]; first | done | exact rfl), _, (by simp only [Act.put, sx1, sx2, sx3]; first | done | exact rfl), ?_⟩) | (refine wpx_st hS rfl _ _ _ rfl rfl _ _ rfl ?_; (repeat (first | refine sxh ?_ | refine sxn ?_)); refine ⟨_, (by first | exact shA rfl | exact shI rfl | exact shB rfl | exact shS rfl | exact shP rfl | exact shF rfl | exact shN rfl), _, siz_any2 rfl, (by exact rfl), (by exact rfl), (by exact rfl), ?_⟩; clear hS; intro _ hS; dsimp only [blit, List.set, sx4, sx5, Value.cells, sx6] at hS))
  refine (rState_b s _ (unhide HSW)).mono ?_
  rintro r u ⟨rfl, hb⟩
  replace hS := hS.call hb
  clear hb
  go_wp2_with (first | (refine wpx_box hS rfl _ _ rfl _ rfl _ (by intro _; simp only [Act.put, sx1, sx2, sx3]; first | done | exact rfl) ?_; clear hS; intro _ _ hS; dsimp only [blit, List.set, sx4, sx5, Value.cells, sx6] at hS) | (refine wpx_alloc hS rfl _ rfl _ (zer_any2 rfl) _ (by intro _; simp only [Act.put, sx1, sx2, sx3]; first | done | exact rfl) ?_; clear hS; intro _ _ hS; dsimp only [blit, List.set, sx4, sx5, Value.cells, sx6] at hS) | (refine wpx_ld hS rfl _ _ rfl _ _ rfl ?_; (repeat (first | refine sxh ?_ | refine sxn ?_)); first | refine .inl ⟨_, one_any2 rfl, rfl, _, (by simp only [Act.put, sx1, sx2, sx3]; first | done | exact rfl), ?_⟩ | refine .inr ⟨_, _, row_any2 rfl, rfl, (by dsimp only [cutL, List.drop, List.take]; first | done | exact rfl), _, (by simp only [Act.put, sx1, sx2, sx3]; first | done | exact rfl), ?_⟩) | (refine wpx_st hS rfl _ _ _ rfl rfl _ _ rfl ?_; (repeat (first | refine sxh ?_ | refine sxn ?_)); refine ⟨_, (by first | exact shA rfl | exact shI rfl | exact shB rfl | exact shS rfl | exact shP rfl | exact shF rfl | exact shN rfl), _, siz_any2 rfl, (by exact rfl), (by exact rfl), (by exact rfl), ?_⟩; clear hS; intro _ hS; dsimp only [blit, List.set, sx4, sx5, Value.cells, sx6] at hS))
  refine (refAny_any s (1 - sd) _ (unhide HSW)).mono ?_
  rintro r u ⟨rfl, n, rfl⟩
  replace hS := hS.drewN n
  rw [unhide HA]
  go_wp2_with (first | (refine wpx_box hS rfl _ _ rfl _ rfl _ (by intro _; simp only [Act.put, sx1, sx2, sx3]; first | done | exact rfl) ?_; clear hS; intro _ _ hS; dsimp only [blit, List.set, sx4, sx5, Value.cells, sx6] at hS) | (refine wpx_alloc hS rfl _ rfl _ (zer_any2 rfl) _ (by intro _; simp only [Act.put, sx1, sx2, sx3]; first | done | exact rfl) ?_; clear hS; intro _ _ hS; dsimp only [blit, List.set, sx4, sx5, Value.cells, sx6] at hS) | (refine wpx_ld hS rfl _ _ rfl _ _ rfl ?_; (repeat (first | refine sxh ?_ | refine sxn ?_)); first | refine .inl ⟨_, one_any2 rfl, rfl, _, (by simp only [Act.put, sx1, sx2, sx3]; first | done | exact rfl), ?_⟩ | refine .inr ⟨_, _, row_any2 rfl, rfl, (by dsimp only [cutL, List.drop, List.take]; first | done | exact rfl), _, (by simp only [Act.put, sx1, sx2, sx3]; first | done | exact rfl), ?_⟩) | (refine wpx_st hS rfl _ _ _ rfl rfl _ _ rfl ?_; (repeat (first | refine sxh ?_ | refine sxn ?_)); refine ⟨_, (by first | exact shA rfl | exact shI rfl | exact shB rfl | exact shS rfl | exact shP rfl | exact shF rfl | exact shN rfl), _, siz_any2 rfl, (by exact rfl), (by exact rfl), (by exact rfl), ?_⟩; clear hS; intro _ hS; dsimp only [blit, List.set, sx4, sx5, Value.cells, sx6] at hS))
  have hZ := hS.get 1 rfl
  exact bodyPost_ret (v := .agg #[.int .i64 sl, .int .i64 sd, .int .i64 b, .int .u64 (sn : Nat), .int .i64 2, .int .u64 (s : Nat), .int .i64 0]) (by simp [results, Try.results43, go_sem, hZ.cell 0 _ rfl, hZ.cell 1 _ rfl, hZ.cell 2 _ rfl, hZ.cell 3 _ rfl, hZ.cell 4 _ rfl, hZ.cell 5 _ rfl, hZ.cell 6 _ rfl]) rfl ⟨rfl, hS.bel⟩

set_option maxHeartbeats 2000000 in
theorem rJudge_0a (sl sd b nx : Int) (sn s : Nat) (w : World) (hs : Um.Word s) (hd0 : -1 ≤ sd) (hd1 : sd ≤ 2) (hh : Um.hasN s sd b = false) (h2 : Um.stN s = 2) : Calls Try.prog 43 #[.agg #[.int .i64 sl, .int .i64 sd, .int .i64 b, .int .u64 (sn : Nat), .int .i64 nx, .int .u64 (s : Nat), .int .i64 0]] w fun r w' => r = .returned (.agg #[.int .i64 sl, .int .i64 sd, .int .i64 b, .int .u64 (sn : Nat), .int .i64 2, .int .u64 (s : Nat), .int .i64 0]) ∧ Below w.heap.size w w' := by
  have hS := Sx.new w
  have HSW := hide hs
  have HH := hide hh
  clear hh
  have H2 := hide h2
  clear h2
  clear hs
  go_enter Try.func43, Try.ntmps43
  go_wp2_with (first | (refine wpx_box hS rfl _ _ rfl _ rfl _ (by intro _; simp only [Act.put, sx1, sx2, sx3]; first | done | exact rfl) ?_; clear hS; intro _ _ hS; dsimp only [blit, List.set, sx4, sx5, Value.cells, sx6] at hS) | (refine wpx_alloc hS rfl _ rfl _ (zer_any2 rfl) _ (by intro _; simp only [Act.put, sx1, sx2, sx3]; first | done | exact rfl) ?_; clear hS; intro _ _ hS; dsimp only [blit, List.set, sx4, sx5, Value.cells, sx6] at hS) | (refine wpx_ld hS rfl _ _ rfl _ _ rfl ?_; (repeat (first | refine sxh ?_ | refine sxn ?_)); first | refine .inl ⟨_, one_any2 rfl, rfl, _, (by simp only [Act.put, sx1, sx2, sx3]; first | done | exact rfl), ?_⟩ | refine .inr ⟨_, _, row_any2 rfl, rfl, (by dsimp only [cutL, List.drop, List.take]; first | done | exact rfl), _, (by simp only [Act.put, sx1, sx2, sx3]; first | done | exact rfl), ?_⟩) | (refine wpx_st hS rfl _ _ _ rfl rfl _ _ rfl ?_; (repeat (first | refine sxh ?_ | refine sxn ?_)); refine ⟨_, (by first | exact shA rfl | exact shI rfl | exact shB rfl | exact shS rfl | exact shP rfl | exact shF rfl | exact shN rfl), _, siz_any2 rfl, (by exact rfl), (by exact rfl), (by exact rfl), ?_⟩; clear hS; intro _ hS; dsimp only [blit, List.set, sx4, sx5, Value.cells, sx6] at hS))
  refine (refHas_any s sd b _ (unhide HSW)).mono ?_
  rintro r u ⟨rfl, rfl⟩
  rw [unhide HH]
  go_wp2_with (first | (refine wpx_box hS rfl _ _ rfl _ rfl _ (by intro _; simp only [Act.put, sx1, sx2, sx3]; first | done | exact rfl) ?_; clear hS; intro _ _ hS; dsimp only [blit, List.set, sx4, sx5, Value.cells, sx6] at hS) | (refine wpx_alloc hS rfl _ rfl _ (zer_any2 rfl) _ (by intro _; simp only [Act.put, sx1, sx2, sx3]; first | done | exact rfl) ?_; clear hS; intro _ _ hS; dsimp only [blit, List.set, sx4, sx5, Value.cells, sx6] at hS) | (refine wpx_ld hS rfl _ _ rfl _ _ rfl ?_; (repeat (first | refine sxh ?_ | refine sxn ?_)); first | refine .inl ⟨_, one_any2 rfl, rfl, _, (by simp only [Act.put, sx1, sx2, sx3]; first | done | exact rfl), ?_⟩ | refine .inr ⟨_, _, row_any2 rfl, rfl, (by dsimp only [cutL, List.drop, List.take]; first | done | exact rfl), _, (by simp only [Act.put, sx1, sx2, sx3]; first | done | exact rfl), ?_⟩) | (refine wpx_st hS rfl _ _ _ rfl rfl _ _ rfl ?_; (repeat (first | refine sxh ?_ | refine sxn ?_)); refine ⟨_, (by first | exact shA rfl | exact shI rfl | exact shB rfl | exact shS rfl | exact shP rfl | exact shF rfl | exact shN rfl), _, siz_any2 rfl, (by exact rfl), (by exact rfl), (by exact rfl), ?_⟩; clear hS; intro _ hS; dsimp only [blit, List.set, sx4, sx5, Value.cells, sx6] at hS))
  refine (state_lit10 (unhide HSW) (unhide H2) _).mono ?_
  rintro r u ⟨rfl, hb⟩
  replace hS := hS.call hb
  clear hb
  go_wp2_with (first | (refine wpx_box hS rfl _ _ rfl _ rfl _ (by intro _; simp only [Act.put, sx1, sx2, sx3]; first | done | exact rfl) ?_; clear hS; intro _ _ hS; dsimp only [blit, List.set, sx4, sx5, Value.cells, sx6] at hS) | (refine wpx_alloc hS rfl _ rfl _ (zer_any2 rfl) _ (by intro _; simp only [Act.put, sx1, sx2, sx3]; first | done | exact rfl) ?_; clear hS; intro _ _ hS; dsimp only [blit, List.set, sx4, sx5, Value.cells, sx6] at hS) | (refine wpx_ld hS rfl _ _ rfl _ _ rfl ?_; (repeat (first | refine sxh ?_ | refine sxn ?_)); first | refine .inl ⟨_, one_any2 rfl, rfl, _, (by simp only [Act.put, sx1, sx2, sx3]; first | done | exact rfl), ?_⟩ | refine .inr ⟨_, _, row_any2 rfl, rfl, (by dsimp only [cutL, List.drop, List.take]; first | done | exact rfl), _, (by simp only [Act.put, sx1, sx2, sx3]; first | done | exact rfl), ?_⟩) | (refine wpx_st hS rfl _ _ _ rfl rfl _ _ rfl ?_; (repeat (first | refine sxh ?_ | refine sxn ?_)); refine ⟨_, (by first | exact shA rfl | exact shI rfl | exact shB rfl | exact shS rfl | exact shP rfl | exact shF rfl | exact shN rfl), _, siz_any2 rfl, (by exact rfl), (by exact rfl), (by exact rfl), ?_⟩; clear hS; intro _ hS; dsimp only [blit, List.set, sx4, sx5, Value.cells, sx6] at hS))
  have hZ := hS.get 1 rfl
  exact bodyPost_ret (v := .agg #[.int .i64 sl, .int .i64 sd, .int .i64 b, .int .u64 (sn : Nat), .int .i64 2, .int .u64 (s : Nat), .int .i64 0]) (by simp [results, Try.results43, go_sem, hZ.cell 0 _ rfl, hZ.cell 1 _ rfl, hZ.cell 2 _ rfl, hZ.cell 3 _ rfl, hZ.cell 4 _ rfl, hZ.cell 5 _ rfl, hZ.cell 6 _ rfl]) rfl ⟨rfl, hS.bel⟩

theorem rJudge_any (sl sd b nx nx2 r2 : Int) (sn s : Nat) (w : World) (hs : Um.Word s) (hd0 : -1 ≤ sd) (hd1 : sd ≤ 2) (hj : Jg sd b s nx nx2 r2) : Calls Try.prog 43 #[.agg #[.int .i64 sl, .int .i64 sd, .int .i64 b, .int .u64 (sn : Nat), .int .i64 nx, .int .u64 (s : Nat), .int .i64 0]] w fun r w' => r = .returned (.agg #[.int .i64 sl, .int .i64 sd, .int .i64 b, .int .u64 (sn : Nat), .int .i64 nx2, .int .u64 (s : Nat), .int .i64 r2]) ∧ Below w.heap.size w w' := by
  cases hh : Um.hasN s sd b with
  | true =>
    obtain ⟨rfl, rfl⟩ := hj.1 hh
    exact rJudge_2 sl sd b _ sn s w hs hd0 hd1 hh
  | false =>
    by_cases h2 : Um.stN s = 2
    · obtain ⟨rfl, rfl⟩ := hj.2.2 hh (.inl h2)
      exact rJudge_0a sl sd b _ sn s w hs hd0 hd1 hh h2
    · cases ha : Um.anyN s (1 - sd) with
      | true =>
        obtain ⟨rfl, rfl⟩ := hj.2.1 hh h2 ha
        exact rJudge_3 sl sd b _ sn s w hs hd0 hd1 hh h2 ha
      | false =>
        obtain ⟨rfl, rfl⟩ := hj.2.2 hh (.inr ha)
        exact rJudge_0b sl sd b _ sn s w hs hd0 hd1 hh h2 ha

end Go.Proofs.Ytcpmclidndmgeaa
