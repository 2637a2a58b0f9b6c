/-
  The walks of the program's grace: a new one, is it done, did one hold, its steps.
-/
import Derived.Test.YtjicfonpldobdaaPinA
import Derived.Lib.QuietBelow
namespace Go.Proofs.Ytjicfonpldobdaa
set_option maxRecDepth 100000
open Go.RowKit Go.Sort

/-- a grace's cells -/
def grcL (G : Nat) (own : Int) (ret : Nat) (oth : Int) (later : Bool) : List Value :=
  [.int .i64 own, .int .u64 ret, .int .i64 oth, cond later .nilFunc (.func (.func 55) #[.pointer (some ⟨G, 0, none⟩)] #[])]

theorem set_same {α : Type} {l : List α} {k : Nat} {x : α} (h : l[k]? = some x) : l.set k x = l := by
  obtain ⟨h1, h2⟩ := List.getElem?_eq_some_iff.1 h
  subst h2
  exact List.set_getElem_self h1

theorem field_thr (a0 a1 a2 a3 a4 : Value) (w : World) : Sem.run Try.prog (Instr.field 24 (.agg #[a0, a1, a2, a3, a4]) 0) w = .ok a0 w := by
  simp [Instr.field, go_sem, asAgg]

section
variable {bs : List Nat} {w0 w : World} {l e : List (Nat × List Value)} {B C G : Nat} {c : Um.Cf} {m : Um.Mm} {own oth : Int} {ret : Nat}

set_option maxHeartbeats 2000000 in
theorem gGoTo_x (hS : Sx bs w0 w l e) (k : Nat) (nx : Value) (hk : l[k]? = some (G, [.int .i64 own, .int .u64 ret, .int .i64 oth, nx])) (t : Int) (ht : 0 ≤ t ∧ t ≤ 1000) :
    Calls Try.prog 56 #[.pointer (some ⟨G, 0, none⟩), .int .i64 t] w fun r w' => r = .returned (.tuple #[]) ∧ Sx bs w0 w' (putL l [(k, G, [.int .i64 own, .int .u64 ret, .int .i64 (Um.goTo own t), nx])]) e := by
  have HS := hide hS
  have HK := hide hk
  have hL := hS.enter1 k hk
  clear hS hk
  have hS := hL
  clear hL
  by_cases e1 : t = own
  · obtain ⟨x, hx⟩ : ∃ x, x = Um.goTo own t := ⟨_, rfl⟩
    have hx' : x = t + 1 := by rw [hx]; unfold Um.goTo; rw [if_pos e1]
    rw [← hx]
    have hq : wrap64 (t + 1) = x := by rw [hx']; unfold wrap64; omega
    clear hx hx'
    have HT := hide ht
    clear ht
    subst e1
    go_enter Try.func56, Try.ntmps56
    go_wp2_with (first | (refine wpx_box hS rfl _ _ rfl _ rfl _ (by intro _; simp only [Act.put, List.setIfInBounds_toArray, List.set_cons_zero, List.set_cons_succ]; first | done | exact rfl) ?_; clear hS; intro _ _ hS; dsimp only [blit, List.set, List.cons_append, List.nil_append, Value.cells, List.toList_toArray] at hS) | (refine wpx_alloc hS rfl _ rfl _ (zer_any2 rfl) _ (by intro _; simp only [Act.put, List.setIfInBounds_toArray, List.set_cons_zero, List.set_cons_succ]; first | done | exact rfl) ?_; clear hS; intro _ _ hS; dsimp only [blit, List.set, List.cons_append, List.nil_append, Value.cells, List.toList_toArray] at hS) | (refine wpx_ld hS rfl _ _ rfl _ _ rfl ?_; (first | refine ⟨0, _, rfl, ?_⟩ | refine ⟨1, _, rfl, ?_⟩ | refine ⟨2, _, rfl, ?_⟩ | refine ⟨3, _, rfl, ?_⟩ | refine ⟨4, _, rfl, ?_⟩ | refine ⟨5, _, rfl, ?_⟩ | refine ⟨6, _, rfl, ?_⟩ | refine ⟨7, _, rfl, ?_⟩ | refine ⟨8, _, rfl, ?_⟩ | refine ⟨9, _, rfl, ?_⟩); first | refine .inl ⟨_, one_any2 rfl, rfl, _, (by simp only [Act.put, List.setIfInBounds_toArray, List.set_cons_zero, List.set_cons_succ]; first | done | exact rfl), ?_⟩ | refine .inr ⟨_, _, row_any2 rfl, rfl, (by dsimp only [cutL, List.drop, List.take]; first | done | exact rfl), _, (by simp only [Act.put, List.setIfInBounds_toArray, List.set_cons_zero, List.set_cons_succ]; first | done | exact rfl), ?_⟩) | (refine wpx_st hS rfl _ _ _ rfl rfl _ _ rfl ?_; (first | refine ⟨0, _, rfl, ?_⟩ | refine ⟨1, _, rfl, ?_⟩ | refine ⟨2, _, rfl, ?_⟩ | refine ⟨3, _, rfl, ?_⟩ | refine ⟨4, _, rfl, ?_⟩ | refine ⟨5, _, rfl, ?_⟩ | refine ⟨6, _, rfl, ?_⟩ | refine ⟨7, _, rfl, ?_⟩ | refine ⟨8, _, rfl, ?_⟩ | refine ⟨9, _, rfl, ?_⟩); refine ⟨_, (by first | exact shA rfl | exact shI rfl | exact shB rfl | exact shS rfl | exact shP rfl | exact shF rfl | exact shN rfl), _, siz_any2 rfl, (by exact rfl), (by exact rfl), (by exact rfl), ?_⟩; clear hS; intro _ hS; dsimp only [blit, List.set, List.cons_append, List.nil_append, Value.cells, List.toList_toArray] at hS))
    rw [hq] at hS
    go_end0
    exact ⟨rfl, (unhide HS).back1 k (unhide HK) hS⟩
  · obtain ⟨x, hx⟩ : ∃ x, x = Um.goTo own t := ⟨_, rfl⟩
    have hx' : x = t := by rw [hx]; unfold Um.goTo; rw [if_neg e1]
    rw [← hx]
    subst hx'
    have hE : (x == own) = false := by simpa using e1
    clear hx e1 ht
    go_enter Try.func56, Try.ntmps56
    go_wp2_with (first | (refine wpx_box hS rfl _ _ rfl _ rfl _ (by intro _; simp only [Act.put, List.setIfInBounds_toArray, List.set_cons_zero, List.set_cons_succ]; first | done | exact rfl) ?_; clear hS; intro _ _ hS; dsimp only [blit, List.set, List.cons_append, List.nil_append, Value.cells, List.toList_toArray] at hS) | (refine wpx_alloc hS rfl _ rfl _ (zer_any2 rfl) _ (by intro _; simp only [Act.put, List.setIfInBounds_toArray, List.set_cons_zero, List.set_cons_succ]; first | done | exact rfl) ?_; clear hS; intro _ _ hS; dsimp only [blit, List.set, List.cons_append, List.nil_append, Value.cells, List.toList_toArray] at hS) | (refine wpx_ld hS rfl _ _ rfl _ _ rfl ?_; (first | refine ⟨0, _, rfl, ?_⟩ | refine ⟨1, _, rfl, ?_⟩ | refine ⟨2, _, rfl, ?_⟩ | refine ⟨3, _, rfl, ?_⟩ | refine ⟨4, _, rfl, ?_⟩ | refine ⟨5, _, rfl, ?_⟩ | refine ⟨6, _, rfl, ?_⟩ | refine ⟨7, _, rfl, ?_⟩ | refine ⟨8, _, rfl, ?_⟩ | refine ⟨9, _, rfl, ?_⟩); first | refine .inl ⟨_, one_any2 rfl, rfl, _, (by simp only [Act.put, List.setIfInBounds_toArray, List.set_cons_zero, List.set_cons_succ]; first | done | exact rfl), ?_⟩ | refine .inr ⟨_, _, row_any2 rfl, rfl, (by dsimp only [cutL, List.drop, List.take]; first | done | exact rfl), _, (by simp only [Act.put, List.setIfInBounds_toArray, List.set_cons_zero, List.set_cons_succ]; first | done | exact rfl), ?_⟩) | (refine wpx_st hS rfl _ _ _ rfl rfl _ _ rfl ?_; (first | refine ⟨0, _, rfl, ?_⟩ | refine ⟨1, _, rfl, ?_⟩ | refine ⟨2, _, rfl, ?_⟩ | refine ⟨3, _, rfl, ?_⟩ | refine ⟨4, _, rfl, ?_⟩ | refine ⟨5, _, rfl, ?_⟩ | refine ⟨6, _, rfl, ?_⟩ | refine ⟨7, _, rfl, ?_⟩ | refine ⟨8, _, rfl, ?_⟩ | refine ⟨9, _, rfl, ?_⟩); refine ⟨_, (by first | exact shA rfl | exact shI rfl | exact shB rfl | exact shS rfl | exact shP rfl | exact shF rfl | exact shN rfl), _, siz_any2 rfl, (by exact rfl), (by exact rfl), (by exact rfl), ?_⟩; clear hS; intro _ hS; dsimp only [blit, List.set, List.cons_append, List.nil_append, Value.cells, List.toList_toArray] at hS))
    go_end0
    exact ⟨rfl, (unhide HS).back1 k (unhide HK) hS⟩

set_option maxHeartbeats 2000000 in
theorem gNew_x (hS : Sx bs w0 w l e) (own : Int) (ret : Nat) :
    Calls Try.prog 29 #[.int .i64 own, .int .u64 ret] w fun r w' => ∃ G, r = .returned (.pointer (some ⟨G, 0, none⟩)) ∧ Sx bs w0 w' (l ++ [(G, grcL G own ret (Um.goTo own 0) false)]) e := by
  have HS := hide hS
  clear hS
  have hS := Sx.new w
  go_enter Try.func29, Try.ntmps29
  go_wp2_with (first | (refine wpx_box hS rfl _ _ rfl _ rfl _ (by intro _; simp only [Act.put, List.setIfInBounds_toArray, List.set_cons_zero, List.set_cons_succ]; first | done | exact rfl) ?_; clear hS; intro _ _ hS; dsimp only [blit, List.set, List.cons_append, List.nil_append, Value.cells, List.toList_toArray] at hS) | (refine wpx_alloc hS rfl _ rfl _ (zer_any2 rfl) _ (by intro _; simp only [Act.put, List.setIfInBounds_toArray, List.set_cons_zero, List.set_cons_succ]; first | done | exact rfl) ?_; clear hS; intro _ _ hS; dsimp only [blit, List.set, List.cons_append, List.nil_append, Value.cells, List.toList_toArray] at hS) | (refine wpx_ld hS rfl _ _ rfl _ _ rfl ?_; (first | refine ⟨0, _, rfl, ?_⟩ | refine ⟨1, _, rfl, ?_⟩ | refine ⟨2, _, rfl, ?_⟩ | refine ⟨3, _, rfl, ?_⟩ | refine ⟨4, _, rfl, ?_⟩ | refine ⟨5, _, rfl, ?_⟩ | refine ⟨6, _, rfl, ?_⟩ | refine ⟨7, _, rfl, ?_⟩ | refine ⟨8, _, rfl, ?_⟩ | refine ⟨9, _, rfl, ?_⟩); first | refine .inl ⟨_, one_any2 rfl, rfl, _, (by simp only [Act.put, List.setIfInBounds_toArray, List.set_cons_zero, List.set_cons_succ]; first | done | exact rfl), ?_⟩ | refine .inr ⟨_, _, row_any2 rfl, rfl, (by dsimp only [cutL, List.drop, List.take]; first | done | exact rfl), _, (by simp only [Act.put, List.setIfInBounds_toArray, List.set_cons_zero, List.set_cons_succ]; first | done | exact rfl), ?_⟩) | (refine wpx_st hS rfl _ _ _ rfl rfl _ _ rfl ?_; (first | refine ⟨0, _, rfl, ?_⟩ | refine ⟨1, _, rfl, ?_⟩ | refine ⟨2, _, rfl, ?_⟩ | refine ⟨3, _, rfl, ?_⟩ | refine ⟨4, _, rfl, ?_⟩ | refine ⟨5, _, rfl, ?_⟩ | refine ⟨6, _, rfl, ?_⟩ | refine ⟨7, _, rfl, ?_⟩ | refine ⟨8, _, rfl, ?_⟩ | refine ⟨9, _, rfl, ?_⟩); refine ⟨_, (by first | exact shA rfl | exact shI rfl | exact shB rfl | exact shS rfl | exact shP rfl | exact shF rfl | exact shN rfl), _, siz_any2 rfl, (by exact rfl), (by exact rfl), (by exact rfl), ?_⟩; clear hS; intro _ hS; dsimp only [blit, List.set, List.cons_append, List.nil_append, Value.cells, List.toList_toArray] at hS))
  rename_i G _ _ _ _ _ _
  refine (gGoTo_x hS 0 _ rfl 0 (by decide)).mono ?_
  rintro r u ⟨rfl, hS2⟩
  clear hS
  have hS := hS2
  clear hS2
  dsimp only [putL, List.set] at hS
  have HS2 := hide hS
  clear hS
  go_wp2
  go_ret
  have hS := unhide HS2
  exact ⟨G, rfl, (unhide HS).add hS.bel (hS.get 0 rfl) ((hS.low _ (List.mem_of_getElem? (i := 0) rfl)).resolve_left (by simp))⟩

set_option maxHeartbeats 1000000 in
theorem gLater_blk {later : Bool} (hk : BlkAt w G (grcL G own ret oth later)) : Calls Try.prog 32 #[.pointer (some ⟨G, 0, none⟩)] w fun r w' => r = .returned (.bool later) ∧ w' = w := by
  have h2 := hk.cell 3 _ rfl
  have hE := eqFn
  have hE0 := eqNoFn
  clear hk
  cases later with
  | false =>
    dsimp only [cond_false] at h2
    go_enter Try.func32, Try.ntmps32
    go_wp2
    go_ret
    exact ⟨rfl, rfl⟩
  | true =>
    dsimp only [cond_true] at h2
    go_enter Try.func32, Try.ntmps32
    go_wp2
    go_ret
    exact ⟨rfl, rfl⟩

set_option maxHeartbeats 1000000 in
theorem gHolds_blk {nx : Value} (hk : BlkAt w G [.int .i64 own, .int .u64 ret, .int .i64 oth, nx]) (p : Nat) (hp : Um.Word p) : Calls Try.prog 68 #[.pointer (some ⟨G, 0, none⟩), .int .u64 (p : Nat)] w fun r w' => r = .returned (.bool (Um.holdsW p ret)) ∧ w' = w := by
  have h2 := hk.cell 1 _ rfl
  clear hk
  by_cases h0 : p = 0
  · subst h0
    go_enter Try.func68, Try.ntmps68
    go_wp2
    go_ret
    exact ⟨rfl, rfl⟩
  · obtain ⟨q, rfl⟩ : ∃ q, p = q + 1 := ⟨p - 1, by omega⟩
    have e1 : IntKind.u64.wrap ((((q + 1 : Nat) : Int)) - 1) = (q : Int) := by rw [IntKind.wrap_u64]; unfold Um.Word at hp; omega
    have e2 : ¬ (((q + 1 : Nat) : Int)) = 0 := by omega
    have e3 : ((((q + 1 : Nat) : Int)) != 0) = true := by simpa using e2
    have e4 : Um.holdsW (q + 1) ret = decide (q ≤ ret) := by
      unfold Um.holdsW
      simp
    rw [e4]
    clear e4 h0 hp
    generalize ((q + 1 : Nat) : Int) = z at *
    go_enter Try.func68, Try.ntmps68
    go_wp2
    go_ret
    exact ⟨rfl, rfl⟩

theorem config_x (hS : Sx bs w0 w l e) (i j : Nat) (hi : l[i]? = some (B, memL c C m)) (hj : l[j]? = some (C, rowW m.ws c.n)) (hij : i ≠ j) (hr : c.r = true) (hw : WordsOk c m) : Calls Try.prog 57 #[.pointer (some ⟨B, 0, none⟩)] w fun r w' => r = .returned (.agg #[.int .i64 (c.t), .int .i64 (c.s), .int .i64 (c.k), .int .i64 (c.g), .int .u64 (c.q : Int)]) ∧ Below w.heap.size w w' :=
  mConfig_any (hS.mem i j hi hj hij hr hw)

set_option maxHeartbeats 2000000 in
theorem gDone_x (hS : Sx bs w0 w l e) (i j k : Nat) (hi : l[i]? = some (B, memL c C m)) (hj : l[j]? = some (C, rowW m.ws c.n)) (hij : i ≠ j) (hr : c.r = true) (hw : WordsOk c m) {later : Bool} (hk : l[k]? = some (G, grcL G own ret oth later)) :
    Calls Try.prog 30 #[.pointer (some ⟨G, 0, none⟩), .pointer (some ⟨B, 0, none⟩)] w fun r w' => r = .returned (.bool (Um.gdone c oth later)) ∧ Below w.heap.size w w' := by
  have HL := hide (fun d os => Calls.regrown_of ((gLater_blk ((hS.get k hk).below (below_regrown w d os))).mono (fun r w' h => ⟨h.1, h.2 ▸ Below.refl _ _⟩)))
  have HC := hide (fun d os => Calls.regrown_of (config_x (hS.call (below_regrown w d os)) i j hi hj hij hr hw))
  have k2 := cell_regrown ((hS.get k hk).cell 2 _ rfl)
  have hF := field_thr
  clear hS hi hj hij hr hw hk
  cases later with
  | true =>
    show Calls _ _ _ _ fun r w' => r = .returned (.bool true) ∧ Below w.heap.size w w'
    go_enter Try.func30, Try.ntmps30
    go_wp2_with fail
    refine wp_region_quiet_below (by kernel_rfl) (by kernel_rfl) ?_
    repeat (go_big_quiet_step (first | (go_at_call 32; exact (unhide HL) _ _) | (go_at_call 57; exact (unhide HC) _ _)))
    refine wpQuiet_nil ?_
    intro _ hw'
    obtain ⟨⟨dq, osq⟩, hw''⟩ := hw'
    subst hw''
    have hQ := below_regrown w dq osq
    go_wp2
    go_ret
    exact ⟨rfl, hQ⟩
  | false =>
    have e1 : Um.gdone c oth false = decide (c.t ≤ oth) := rfl
    rw [e1]
    go_enter Try.func30, Try.ntmps30
    go_wp2_with fail
    refine wp_region_quiet_below (by kernel_rfl) (by kernel_rfl) ?_
    repeat (go_big_quiet_step (first | (go_at_call 32; exact (unhide HL) _ _) | (go_at_call 57; exact (unhide HC) _ _)))
    refine wpQuiet_nil ?_
    intro _ hw'
    obtain ⟨⟨dq, osq⟩, hw''⟩ := hw'
    subst hw''
    have hQ := below_regrown w dq osq
    go_wp2
    go_ret
    exact ⟨rfl, hQ⟩

set_option maxHeartbeats 4000000 in
theorem gLook_x (hS : Sx bs w0 w l e) (i j k : Nat) (hi : l[i]? = some (B, memL c C m)) (hj : l[j]? = some (C, rowW m.ws c.n)) (hk : l[k]? = some (G, grcL G own ret oth false)) (hij : i ≠ j) (hik : i ≠ k) (hjk : j ≠ k) (hr : c.r = true) (hw : WordsOk c m) (ho : 0 ≤ oth ∧ oth < c.t) (M : Um.Mm) (hM : M = Um.mtouch c m 1 3 oth 0 0) :
    Calls Try.prog 55 #[.pointer (some ⟨G, 0, none⟩), .pointer (some ⟨B, 0, none⟩)] w fun r w' => r = .returned (.tuple #[]) ∧ WordsOk c M ∧ Sx bs w0 w' (putL l [(i, B, memL c C M), (j, C, rowW M.ws c.n), (k, G, cond (Um.holdsW M.l.old ret) (grcL G own ret oth true) (grcL G own ret (Um.goTo own (oth + 1)) false))]) e := by
  have hb := c.rb hr
  have hp : Um.Word M.l.old := by rw [hM]; exact Um.old_word hw
  have HP := hide hp
  have HS := hide hS
  have HI := hide (And.intro hi (And.intro hj hk))
  have hL := hS.enter3 i j k hi hj hk hij hik hjk
  have HR := hide hr
  have HW := hide hw
  have HM := hide hM
  have HO := hide (show 0 ≤ oth ∧ oth ≤ 900 by omega)
  have hq : wrap64 (oth + 1) = oth + 1 := by unfold wrap64; omega
  clear hS hi hj hk hr hw hM ho hb hp
  have hS := hL
  clear hL
  dsimp only [grcL, cond_false] at hS
  cases hh : Um.holdsW M.l.old ret with
  | true =>
    have HH := hide hh
    clear hh
    go_enter Try.func55, Try.ntmps55
    go_wp2_with (first | (refine wpx_box hS rfl _ _ rfl _ rfl _ (by intro _; simp only [Act.put, List.setIfInBounds_toArray, List.set_cons_zero, List.set_cons_succ]; first | done | exact rfl) ?_; clear hS; intro _ _ hS; dsimp only [blit, List.set, List.cons_append, List.nil_append, Value.cells, List.toList_toArray] at hS) | (refine wpx_alloc hS rfl _ rfl _ (zer_any2 rfl) _ (by intro _; simp only [Act.put, List.setIfInBounds_toArray, List.set_cons_zero, List.set_cons_succ]; first | done | exact rfl) ?_; clear hS; intro _ _ hS; dsimp only [blit, List.set, List.cons_append, List.nil_append, Value.cells, List.toList_toArray] at hS) | (refine wpx_ld hS rfl _ _ rfl _ _ rfl ?_; (first | refine ⟨0, _, rfl, ?_⟩ | refine ⟨1, _, rfl, ?_⟩ | refine ⟨2, _, rfl, ?_⟩ | refine ⟨3, _, rfl, ?_⟩ | refine ⟨4, _, rfl, ?_⟩ | refine ⟨5, _, rfl, ?_⟩ | refine ⟨6, _, rfl, ?_⟩ | refine ⟨7, _, rfl, ?_⟩ | refine ⟨8, _, rfl, ?_⟩ | refine ⟨9, _, rfl, ?_⟩); first | refine .inl ⟨_, one_any2 rfl, rfl, _, (by simp only [Act.put, List.setIfInBounds_toArray, List.set_cons_zero, List.set_cons_succ]; first | done | exact rfl), ?_⟩ | refine .inr ⟨_, _, row_any2 rfl, rfl, (by dsimp only [cutL, List.drop, List.take]; first | done | exact rfl), _, (by simp only [Act.put, List.setIfInBounds_toArray, List.set_cons_zero, List.set_cons_succ]; first | done | exact rfl), ?_⟩) | (refine wpx_st hS rfl _ _ _ rfl rfl _ _ rfl ?_; (first | refine ⟨0, _, rfl, ?_⟩ | refine ⟨1, _, rfl, ?_⟩ | refine ⟨2, _, rfl, ?_⟩ | refine ⟨3, _, rfl, ?_⟩ | refine ⟨4, _, rfl, ?_⟩ | refine ⟨5, _, rfl, ?_⟩ | refine ⟨6, _, rfl, ?_⟩ | refine ⟨7, _, rfl, ?_⟩ | refine ⟨8, _, rfl, ?_⟩ | refine ⟨9, _, rfl, ?_⟩); refine ⟨_, (by first | exact shA rfl | exact shI rfl | exact shB rfl | exact shS rfl | exact shP rfl | exact shF rfl | exact shN rfl), _, siz_any2 rfl, (by exact rfl), (by exact rfl), (by exact rfl), ?_⟩; clear hS; intro _ hS; dsimp only [blit, List.set, List.cons_append, List.nil_append, Value.cells, List.toList_toArray] at hS))
    refine (pSpot_any _ _).mono ?_
    rintro r u1 ⟨rfl, hb1⟩
    replace hS := hS.call hb1
    clear hb1
    go_wp2_with fail
    refine (mLoad_x hS 0 1 rfl rfl (by decide) (unhide HR) (unhide HW) 3 oth (by have := unhide HO; omega) (by have := unhide HO; omega) M (unhide HM)).mono ?_
    rintro r u2 ⟨rfl, hW2, hS2⟩
    clear hS
    have hS := hS2
    have HW2 := hide hW2
    clear hS2 hW2 HM
    dsimp only [putL, List.set] at hS
    go_wp2_with fail
    refine (gHolds_blk (hS.get 2 rfl) M.l.old (unhide HP)).mono ?_
    rintro r u3 ⟨rfl, rfl⟩
    rw [unhide HH]
    go_wp2_with (first | (refine wpx_box hS rfl _ _ rfl _ rfl _ (by intro _; simp only [Act.put, List.setIfInBounds_toArray, List.set_cons_zero, List.set_cons_succ]; first | done | exact rfl) ?_; clear hS; intro _ _ hS; dsimp only [blit, List.set, List.cons_append, List.nil_append, Value.cells, List.toList_toArray] at hS) | (refine wpx_alloc hS rfl _ rfl _ (zer_any2 rfl) _ (by intro _; simp only [Act.put, List.setIfInBounds_toArray, List.set_cons_zero, List.set_cons_succ]; first | done | exact rfl) ?_; clear hS; intro _ _ hS; dsimp only [blit, List.set, List.cons_append, List.nil_append, Value.cells, List.toList_toArray] at hS) | (refine wpx_ld hS rfl _ _ rfl _ _ rfl ?_; (first | refine ⟨0, _, rfl, ?_⟩ | refine ⟨1, _, rfl, ?_⟩ | refine ⟨2, _, rfl, ?_⟩ | refine ⟨3, _, rfl, ?_⟩ | refine ⟨4, _, rfl, ?_⟩ | refine ⟨5, _, rfl, ?_⟩ | refine ⟨6, _, rfl, ?_⟩ | refine ⟨7, _, rfl, ?_⟩ | refine ⟨8, _, rfl, ?_⟩ | refine ⟨9, _, rfl, ?_⟩); first | refine .inl ⟨_, one_any2 rfl, rfl, _, (by simp only [Act.put, List.setIfInBounds_toArray, List.set_cons_zero, List.set_cons_succ]; first | done | exact rfl), ?_⟩ | refine .inr ⟨_, _, row_any2 rfl, rfl, (by dsimp only [cutL, List.drop, List.take]; first | done | exact rfl), _, (by simp only [Act.put, List.setIfInBounds_toArray, List.set_cons_zero, List.set_cons_succ]; first | done | exact rfl), ?_⟩) | (refine wpx_st hS rfl _ _ _ rfl rfl _ _ rfl ?_; (first | refine ⟨0, _, rfl, ?_⟩ | refine ⟨1, _, rfl, ?_⟩ | refine ⟨2, _, rfl, ?_⟩ | refine ⟨3, _, rfl, ?_⟩ | refine ⟨4, _, rfl, ?_⟩ | refine ⟨5, _, rfl, ?_⟩ | refine ⟨6, _, rfl, ?_⟩ | refine ⟨7, _, rfl, ?_⟩ | refine ⟨8, _, rfl, ?_⟩ | refine ⟨9, _, rfl, ?_⟩); refine ⟨_, (by first | exact shA rfl | exact shI rfl | exact shB rfl | exact shS rfl | exact shP rfl | exact shF rfl | exact shN rfl), _, siz_any2 rfl, (by exact rfl), (by exact rfl), (by exact rfl), ?_⟩; clear hS; intro _ hS; dsimp only [blit, List.set, List.cons_append, List.nil_append, Value.cells, List.toList_toArray] at hS))
    refine bodyPost_ret (v := .tuple #[]) (by simp [results, Try.results55, go_sem]) rfl ?_
    exact ⟨rfl, unhide HW2, (unhide HS).back3 i j k (unhide HI).1 (unhide HI).2.1 (unhide HI).2.2 hS⟩
  | false =>
    have HH := hide hh
    clear hh
    go_enter Try.func55, Try.ntmps55
    go_wp2_with (first | (refine wpx_box hS rfl _ _ rfl _ rfl _ (by intro _; simp only [Act.put, List.setIfInBounds_toArray, List.set_cons_zero, List.set_cons_succ]; first | done | exact rfl) ?_; clear hS; intro _ _ hS; dsimp only [blit, List.set, List.cons_append, List.nil_append, Value.cells, List.toList_toArray] at hS) | (refine wpx_alloc hS rfl _ rfl _ (zer_any2 rfl) _ (by intro _; simp only [Act.put, List.setIfInBounds_toArray, List.set_cons_zero, List.set_cons_succ]; first | done | exact rfl) ?_; clear hS; intro _ _ hS; dsimp only [blit, List.set, List.cons_append, List.nil_append, Value.cells, List.toList_toArray] at hS) | (refine wpx_ld hS rfl _ _ rfl _ _ rfl ?_; (first | refine ⟨0, _, rfl, ?_⟩ | refine ⟨1, _, rfl, ?_⟩ | refine ⟨2, _, rfl, ?_⟩ | refine ⟨3, _, rfl, ?_⟩ | refine ⟨4, _, rfl, ?_⟩ | refine ⟨5, _, rfl, ?_⟩ | refine ⟨6, _, rfl, ?_⟩ | refine ⟨7, _, rfl, ?_⟩ | refine ⟨8, _, rfl, ?_⟩ | refine ⟨9, _, rfl, ?_⟩); first | refine .inl ⟨_, one_any2 rfl, rfl, _, (by simp only [Act.put, List.setIfInBounds_toArray, List.set_cons_zero, List.set_cons_succ]; first | done | exact rfl), ?_⟩ | refine .inr ⟨_, _, row_any2 rfl, rfl, (by dsimp only [cutL, List.drop, List.take]; first | done | exact rfl), _, (by simp only [Act.put, List.setIfInBounds_toArray, List.set_cons_zero, List.set_cons_succ]; first | done | exact rfl), ?_⟩) | (refine wpx_st hS rfl _ _ _ rfl rfl _ _ rfl ?_; (first | refine ⟨0, _, rfl, ?_⟩ | refine ⟨1, _, rfl, ?_⟩ | refine ⟨2, _, rfl, ?_⟩ | refine ⟨3, _, rfl, ?_⟩ | refine ⟨4, _, rfl, ?_⟩ | refine ⟨5, _, rfl, ?_⟩ | refine ⟨6, _, rfl, ?_⟩ | refine ⟨7, _, rfl, ?_⟩ | refine ⟨8, _, rfl, ?_⟩ | refine ⟨9, _, rfl, ?_⟩); refine ⟨_, (by first | exact shA rfl | exact shI rfl | exact shB rfl | exact shS rfl | exact shP rfl | exact shF rfl | exact shN rfl), _, siz_any2 rfl, (by exact rfl), (by exact rfl), (by exact rfl), ?_⟩; clear hS; intro _ hS; dsimp only [blit, List.set, List.cons_append, List.nil_append, Value.cells, List.toList_toArray] at hS))
    refine (pSpot_any _ _).mono ?_
    rintro r u1 ⟨rfl, hb1⟩
    replace hS := hS.call hb1
    clear hb1
    go_wp2_with fail
    refine (mLoad_x hS 0 1 rfl rfl (by decide) (unhide HR) (unhide HW) 3 oth (by have := unhide HO; omega) (by have := unhide HO; omega) M (unhide HM)).mono ?_
    rintro r u2 ⟨rfl, hW2, hS2⟩
    clear hS
    have hS := hS2
    have HW2 := hide hW2
    clear hS2 hW2 HM
    dsimp only [putL, List.set] at hS
    go_wp2_with fail
    refine (gHolds_blk (hS.get 2 rfl) M.l.old (unhide HP)).mono ?_
    rintro r u3 ⟨rfl, rfl⟩
    rw [unhide HH]
    go_wp2_with (first | (refine wpx_box hS rfl _ _ rfl _ rfl _ (by intro _; simp only [Act.put, List.setIfInBounds_toArray, List.set_cons_zero, List.set_cons_succ]; first | done | exact rfl) ?_; clear hS; intro _ _ hS; dsimp only [blit, List.set, List.cons_append, List.nil_append, Value.cells, List.toList_toArray] at hS) | (refine wpx_alloc hS rfl _ rfl _ (zer_any2 rfl) _ (by intro _; simp only [Act.put, List.setIfInBounds_toArray, List.set_cons_zero, List.set_cons_succ]; first | done | exact rfl) ?_; clear hS; intro _ _ hS; dsimp only [blit, List.set, List.cons_append, List.nil_append, Value.cells, List.toList_toArray] at hS) | (refine wpx_ld hS rfl _ _ rfl _ _ rfl ?_; (first | refine ⟨0, _, rfl, ?_⟩ | refine ⟨1, _, rfl, ?_⟩ | refine ⟨2, _, rfl, ?_⟩ | refine ⟨3, _, rfl, ?_⟩ | refine ⟨4, _, rfl, ?_⟩ | refine ⟨5, _, rfl, ?_⟩ | refine ⟨6, _, rfl, ?_⟩ | refine ⟨7, _, rfl, ?_⟩ | refine ⟨8, _, rfl, ?_⟩ | refine ⟨9, _, rfl, ?_⟩); first | refine .inl ⟨_, one_any2 rfl, rfl, _, (by simp only [Act.put, List.setIfInBounds_toArray, List.set_cons_zero, List.set_cons_succ]; first | done | exact rfl), ?_⟩ | refine .inr ⟨_, _, row_any2 rfl, rfl, (by dsimp only [cutL, List.drop, List.take]; first | done | exact rfl), _, (by simp only [Act.put, List.setIfInBounds_toArray, List.set_cons_zero, List.set_cons_succ]; first | done | exact rfl), ?_⟩) | (refine wpx_st hS rfl _ _ _ rfl rfl _ _ rfl ?_; (first | refine ⟨0, _, rfl, ?_⟩ | refine ⟨1, _, rfl, ?_⟩ | refine ⟨2, _, rfl, ?_⟩ | refine ⟨3, _, rfl, ?_⟩ | refine ⟨4, _, rfl, ?_⟩ | refine ⟨5, _, rfl, ?_⟩ | refine ⟨6, _, rfl, ?_⟩ | refine ⟨7, _, rfl, ?_⟩ | refine ⟨8, _, rfl, ?_⟩ | refine ⟨9, _, rfl, ?_⟩); refine ⟨_, (by first | exact shA rfl | exact shI rfl | exact shB rfl | exact shS rfl | exact shP rfl | exact shF rfl | exact shN rfl), _, siz_any2 rfl, (by exact rfl), (by exact rfl), (by exact rfl), ?_⟩; clear hS; intro _ hS; dsimp only [blit, List.set, List.cons_append, List.nil_append, Value.cells, List.toList_toArray] at hS))
    refine (gGoTo_x hS 2 _ rfl (oth + 1) (by have := unhide HO; omega)).mono ?_
    rintro r u4 ⟨rfl, hS4⟩
    clear hS
    have H4 := hide hS4
    clear hS4
    go_wp2
    go_end0
    exact ⟨rfl, unhide HW2, (unhide HS).back3 i j k (unhide HI).1 (unhide HI).2.1 (unhide HI).2.2 (unhide H4)⟩

set_option maxHeartbeats 4000000 in
theorem gStep_x (hS : Sx bs w0 w l e) (i j k : Nat) (s S : Um.Gs) (hi : l[i]? = some (B, memL c C s.m)) (hj : l[j]? = some (C, rowW s.m.ws c.n)) (hk : l[k]? = some (G, grcL G own ret s.oth s.later)) (hij : i ≠ j) (hik : i ≠ k) (hjk : j ≠ k) (hr : c.r = true) (hw : WordsOk c s.m) (ho : 0 ≤ s.oth) (hs : S = Um.gask c own ret s) :
    Calls Try.prog 33 #[.pointer (some ⟨G, 0, none⟩), .pointer (some ⟨B, 0, none⟩)] w fun r w' => r = .returned (.tuple #[]) ∧ WordsOk c S.m ∧ Sx bs w0 w' (putL l [(i, B, memL c C S.m), (j, C, rowW S.m.ws c.n), (k, G, grcL G own ret S.oth S.later)]) e := by
  have HD := hide (gDone_x hS i j k hi hj hij hr hw hk)
  cases hd : Um.gdone c s.oth s.later with
  | true =>
    have hSs : S = s := by rw [hs]; unfold Um.gask; rw [if_pos hd]
    subst hSs
    have HE : Hid (∀ w', Below w.heap.size w w' → WordsOk c S.m ∧ Sx bs w0 w' (putL l [(i, B, memL c C S.m), (j, C, rowW S.m.ws c.n), (k, G, grcL G own ret S.oth S.later)]) e) := by
      refine hide fun w' hb => ⟨hw, ?_⟩
      have h := hS.call hb
      unfold putL putL putL putL
      dsimp only
      rw [set_same hi, set_same hj, set_same hk]
      exact h
    rw [hd] at HD
    clear hS hi hj hk hij hik hjk hr hw ho hs hd
    go_enter Try.func33, Try.ntmps33
    go_wp2_with fail
    refine (unhide HD).mono ?_
    rintro r u ⟨rfl, hb⟩
    have HE2 := hide ((unhide HE) _ hb)
    clear hb HE
    go_wp2
    go_end0
    exact ⟨rfl, unhide HE2⟩
  | false =>
    have hl : s.later = false := by
      unfold Um.gdone at hd
      cases h : s.later with
      | false => rfl
      | true => rw [h] at hd; simp at hd
    have hlt : s.oth < c.t := by
      unfold Um.gdone at hd
      rw [hl] at hd
      simpa using hd
    have e1 : S.m = Um.mtouch c s.m 1 3 s.oth 0 0 := by
      rw [hs]; unfold Um.gask; rw [if_neg (by rw [hd]; simp)]
      split <;> rfl
    have e2 : grcL G own ret S.oth S.later = cond (Um.holdsW S.m.l.old ret) (grcL G own ret s.oth true) (grcL G own ret (Um.goTo own (s.oth + 1)) false) := by
      rw [e1, hs]; unfold Um.gask; rw [if_neg (by rw [hd]; simp)]
      split
      · rename_i h; rw [h]; rfl
      · rename_i h; rw [Bool.eq_false_iff.2 h]; rfl
    have HC := hide (fun w' (hb : Below w.heap.size w w') => gLook_x (hS.call hb) i j k hi hj (by rw [hl] at hk; exact hk) hij hik hjk hr hw ⟨ho, hlt⟩ S.m e1)
    have h3 := fun w' (hb : Below w.heap.size w w') => ((hS.get k hk).below hb).cell 3 _ rfl
    rw [hl] at h3
    dsimp only [cond_false] at h3
    have H3 := hide h3
    rw [hd] at HD
    rw [e2]
    clear hS hi hj hk hij hik hjk hr hw ho hs hd e1 e2 hl hlt h3
    go_enter Try.func33, Try.ntmps33
    go_wp2_with fail
    refine (unhide HD).mono ?_
    rintro r u ⟨rfl, hb⟩
    have h4 := (unhide H3) _ hb
    have HC2 := hide ((unhide HC) _ hb)
    clear HC H3 hb
    go_wp2_with fail
    refine (unhide HC2).mono ?_
    rintro r u2 ⟨rfl, hW2, hS2⟩
    have H2 := hide hS2
    have HW2 := hide hW2
    clear hS2 hW2 h4
    go_wp2
    go_end0
    exact ⟨rfl, unhide HW2, unhide H2⟩

end

end Go.Proofs.Ytjicfonpldobdaa
