/-
  Texts that the laws stand on, merged (OpenB, HelpMath4, HelpMath5, OpenMath2).
-/
import Derived.Test.YtkiaogbddfjkkaaM12
import Derived.Test.YtkiaogbddfjkkaaM14
import Derived.Test.YtkiaogbddfjkkaaM15

/-
  The walks of the program's beginning: its six steps.
-/
namespace Go.Proofs.Ytkiaogbddfjkkaa
set_option maxRecDepth 100000
open Go.RowKit Go.Sort

theorem move1_b (x : Nat) (w : World) (hx : Um.Word x) : Calls Try.prog 77 #[.int .u64 x, .int .i64 1, .bool false] w fun e w' => e = .returned (.int .u64 (Um.moveN x 1 false : Nat)) ∧ Below w.heap.size w w' := same_below (move_any x 1 false w hx)

theorem move2_b (x : Nat) (w : World) (hx : Um.Word x) : Calls Try.prog 77 #[.int .u64 x, .int .i64 2, .bool false] w fun e w' => e = .returned (.int .u64 (Um.moveN x 2 false : Nat)) ∧ Below w.heap.size w w' := same_below (move_any x 2 false w hx)

theorem makeF_b (s g : Int) (w : World) : Calls Try.prog 95 #[.int .i64 s, .int .i64 g] w fun e w' => e = .returned (.tuple #[.int .u64 (Um.mkN s g : Nat), .bool (Um.mok s g)]) ∧ Below w.heap.size w w' := kMake_any s g w

section
variable {bs : List Nat} {w0 w : World} {l e : List (Nat × List Value)} {B C P K : Nat} {c : Um.Cf} {m : Um.Mm} {sl te : Int} {s q th tn : Nat} {nt : Option Addr} {nx : Value}

theorem oAnother_x (hS : Sx bs w0 w l e) (i j k n : Nat) (hi : l[i]? = some (B, memL c C m)) (hj : l[j]? = some (C, rowW m.ws c.n)) (hk : l[k]? = some (P, [.func (.func 61) #[] #[.pointer (some ⟨K, 0, none⟩)], .int .i64 sl, .int .u64 (s : Nat), .int .u64 (q : Nat), .pointer nt, nx, .int .i64 te, .int .u64 (th : Nat), .int .u64 (tn : Nat)])) (hn : l[n]? = some (K, [.int .i64 sl])) (hij : i ≠ j) (hik : i ≠ k) (hjk : j ≠ k) (hin : i ≠ n) (hjn : j ≠ n) (hkn : k ≠ n) (hr : c.r = true) (hw : WordsOk c m) (h0 : 0 ≤ sl) (h1 : sl ≤ 20) {te2 : Int} {th2 tn2 : Nat} {fl : Bool} (hG : Gof c.s sl te th tn fl te2 th2 tn2) : Calls Try.prog 66 #[.pointer (some ⟨P, 0, none⟩), .pointer (some ⟨B, 0, none⟩)] w fun r w' => r = .returned (.tuple #[]) ∧ Sx bs w0 w' (putL l [(i, B, memL c C m), (j, C, rowW m.ws c.n), (k, P, [.func (.func 61) #[] #[.pointer (some ⟨K, 0, none⟩)], .int .i64 (sl + 1), .int .u64 (s : Nat), .int .u64 (q : Nat), .pointer nt, (cond fl .nilFunc (.func (.func 37) #[.pointer (some ⟨P, 0, none⟩)] #[])), .int .i64 te2, .int .u64 (th2 : Nat), .int .u64 (tn2 : Nat)]), (n, K, [.int .i64 (sl + 1)])]) e := by
  by_cases hs : c.s ≤ sl + 1
  · obtain ⟨rfl, rfl, rfl, rfl⟩ := hG.1 hs
    exact oAnother_f hS i j k n hi hj hk hn hij hik hjk hin hjn hkn hr hw h0 h1 hs
  · obtain ⟨rfl, rfl, rfl, rfl⟩ := hG.2 hs
    exact oAnother_n hS i j k n hi hj hk hn hij hik hjk hin hjn hkn hr hw h0 h1 hs

set_option maxHeartbeats 4000000 in
theorem oLook_t (hS : Sx bs w0 w l e) (i j k : Nat) (hi : l[i]? = some (B, memL c C m)) (hj : l[j]? = some (C, rowW m.ws c.n)) (hk : l[k]? = some (P, [.func (.func 61) #[] #[.pointer (some ⟨K, 0, none⟩)], .int .i64 sl, .int .u64 (s : Nat), .int .u64 (q : Nat), .pointer nt, .func (.func 37) #[.pointer (some ⟨P, 0, none⟩)] #[], .int .i64 te, .int .u64 (th : Nat), .int .u64 (tn : Nat)])) (hij : i ≠ j) (hik : i ≠ k) (hjk : j ≠ k) (hr : c.r = true) (hw : WordsOk c m) (h0 : 0 ≤ sl) (h1 : sl ≤ 20) (M : Um.Mm) (hM : M = Um.mtouch c m 1 4 sl 0 0) (h3 : Um.stN M.l.old = 0) (h4 : ((Um.gnN M.l.old : Nat) : Int) ≤ c.g) :
    Calls Try.prog 37 #[.pointer (some ⟨P, 0, none⟩), .pointer (some ⟨B, 0, none⟩)] w fun r w' => r = .returned (.tuple #[]) ∧ WordsOk c M ∧ Sx bs w0 w' (putL l [(i, B, memL c C M), (j, C, rowW M.ws c.n), (k, P, [.func (.func 61) #[] #[.pointer (some ⟨K, 0, none⟩)], .int .i64 sl, .int .u64 (M.l.old : Nat), .int .u64 (q : Nat), .pointer nt, .func (.func 65) #[.pointer (some ⟨P, 0, none⟩)] #[], .int .i64 te, .int .u64 (th : Nat), .int .u64 (tn : Nat)])]) e := by
  have hst : ((Um.part M.l.old 27 3 : Nat) : Int) = 0 := by have h9 : Um.stN M.l.old = Um.part M.l.old 27 3 := rfl; omega
  have hgd : decide (((Um.part M.l.old 30 32 : Nat) : Int) ≤ c.g) = true := decide_eq_true h4
  have HO := hide (show Um.Word (Um.mtouch c m 1 4 sl 0 0).l.old from Um.old_word hw)
  rw [← hM] at HO
  have HST := hide hst
  have HGD := hide hgd
  clear hst h3 hgd h4
  have HS := hide hS
  have HI := hide (And.intro hi (And.intro hj hk))
  have hL := hS.enter3 i j k hi hj hk hij hik hjk
  have HR := hide hr
  have HW := hide hw
  have HM := hide hM
  have HBD := hide (show -9223372036854775808 ≤ sl ∧ sl ≤ 9223372036854775807 by omega)
  clear hS hi hj hk hr hw hM 
  have hS := hL
  clear hL
  have hf := field_cfgG
  go_enter Try.func37, Try.ntmps37
  go_wp2_with fail
  refine (oSpot_any (hS.get 2 rfl) 4).mono ?_
  rintro r u ⟨rfl, hb⟩
  replace hS := hS.call hb
  clear hb
  go_wp2_with fail
  refine (mLoad_x hS 0 1 rfl rfl (by decide) (unhide HR) (unhide HW) 4 sl (unhide HBD).1 (unhide HBD).2 M (unhide HM)).mono ?_
  rintro r u ⟨rfl, hWn, hSn⟩
  clear hS
  have hS := hSn
  clear hSn
  dsimp only [putL, List.set, List.cons_append, List.nil_append] at hS
  have HW6 := hide hWn
  clear hWn
  go_wp2_with (first | (refine wpx_box hS rfl _ _ rfl _ rfl _ (by intro _; simp only [Act.put, List.setIfInBounds_toArray, List.set_cons_zero, List.set_cons_succ]; first | done | exact rfl) ?_; clear hS; intro _ _ hS; dsimp only [blit, List.set, List.cons_append, List.nil_append, Value.cells, List.toList_toArray] at hS) | (refine wpx_alloc hS rfl _ rfl _ (zer_any2 rfl) _ (by intro _; simp only [Act.put, List.setIfInBounds_toArray, List.set_cons_zero, List.set_cons_succ]; first | done | exact rfl) ?_; clear hS; intro _ _ hS; dsimp only [blit, List.set, List.cons_append, List.nil_append, Value.cells, List.toList_toArray] at hS) | (refine wpx_ld hS rfl _ _ rfl _ _ rfl ?_; (first | refine ⟨0, _, rfl, ?_⟩ | refine ⟨1, _, rfl, ?_⟩ | refine ⟨2, _, rfl, ?_⟩ | refine ⟨3, _, rfl, ?_⟩ | refine ⟨4, _, rfl, ?_⟩ | refine ⟨5, _, rfl, ?_⟩ | refine ⟨6, _, rfl, ?_⟩ | refine ⟨7, _, rfl, ?_⟩ | refine ⟨8, _, rfl, ?_⟩ | refine ⟨9, _, rfl, ?_⟩); first | refine .inl ⟨_, one_any2 rfl, rfl, _, (by simp only [Act.put, List.setIfInBounds_toArray, List.set_cons_zero, List.set_cons_succ]; first | done | exact rfl), ?_⟩ | refine .inr ⟨_, _, row_any2 rfl, rfl, (by dsimp only [cutL, List.drop, List.take]; first | done | exact rfl), _, (by simp only [Act.put, List.setIfInBounds_toArray, List.set_cons_zero, List.set_cons_succ]; first | done | exact rfl), ?_⟩) | (refine wpx_st hS rfl _ _ _ rfl rfl _ _ rfl ?_; (first | refine ⟨0, _, rfl, ?_⟩ | refine ⟨1, _, rfl, ?_⟩ | refine ⟨2, _, rfl, ?_⟩ | refine ⟨3, _, rfl, ?_⟩ | refine ⟨4, _, rfl, ?_⟩ | refine ⟨5, _, rfl, ?_⟩ | refine ⟨6, _, rfl, ?_⟩ | refine ⟨7, _, rfl, ?_⟩ | refine ⟨8, _, rfl, ?_⟩ | refine ⟨9, _, rfl, ?_⟩); refine ⟨_, (by first | exact shA rfl | exact shI rfl | exact shB rfl | exact shS rfl | exact shP rfl | exact shF rfl | exact shN rfl), _, siz_any2 rfl, (by exact rfl), (by exact rfl), (by exact rfl), ?_⟩; clear hS; intro _ hS; dsimp only [blit, List.set, List.cons_append, List.nil_append, Value.cells, List.toList_toArray] at hS))
  refine (unpack_any M.l.old _ (unhide HO)).mono ?_
  rintro r u ⟨rfl, hb⟩
  replace hS := hS.call hb
  clear hb
  rw [unhide HST]
  have hgd := unhide HGD
  go_wp2_with (first | (refine wpx_box hS rfl _ _ rfl _ rfl _ (by intro _; simp only [Act.put, List.setIfInBounds_toArray, List.set_cons_zero, List.set_cons_succ]; first | done | exact rfl) ?_; clear hS; intro _ _ hS; dsimp only [blit, List.set, List.cons_append, List.nil_append, Value.cells, List.toList_toArray] at hS) | (refine wpx_alloc hS rfl _ rfl _ (zer_any2 rfl) _ (by intro _; simp only [Act.put, List.setIfInBounds_toArray, List.set_cons_zero, List.set_cons_succ]; first | done | exact rfl) ?_; clear hS; intro _ _ hS; dsimp only [blit, List.set, List.cons_append, List.nil_append, Value.cells, List.toList_toArray] at hS) | (refine wpx_ld hS rfl _ _ rfl _ _ rfl ?_; (first | refine ⟨0, _, rfl, ?_⟩ | refine ⟨1, _, rfl, ?_⟩ | refine ⟨2, _, rfl, ?_⟩ | refine ⟨3, _, rfl, ?_⟩ | refine ⟨4, _, rfl, ?_⟩ | refine ⟨5, _, rfl, ?_⟩ | refine ⟨6, _, rfl, ?_⟩ | refine ⟨7, _, rfl, ?_⟩ | refine ⟨8, _, rfl, ?_⟩ | refine ⟨9, _, rfl, ?_⟩); first | refine .inl ⟨_, one_any2 rfl, rfl, _, (by simp only [Act.put, List.setIfInBounds_toArray, List.set_cons_zero, List.set_cons_succ]; first | done | exact rfl), ?_⟩ | refine .inr ⟨_, _, row_any2 rfl, rfl, (by dsimp only [cutL, List.drop, List.take]; first | done | exact rfl), _, (by simp only [Act.put, List.setIfInBounds_toArray, List.set_cons_zero, List.set_cons_succ]; first | done | exact rfl), ?_⟩) | (refine wpx_st hS rfl _ _ _ rfl rfl _ _ rfl ?_; (first | refine ⟨0, _, rfl, ?_⟩ | refine ⟨1, _, rfl, ?_⟩ | refine ⟨2, _, rfl, ?_⟩ | refine ⟨3, _, rfl, ?_⟩ | refine ⟨4, _, rfl, ?_⟩ | refine ⟨5, _, rfl, ?_⟩ | refine ⟨6, _, rfl, ?_⟩ | refine ⟨7, _, rfl, ?_⟩ | refine ⟨8, _, rfl, ?_⟩ | refine ⟨9, _, rfl, ?_⟩); refine ⟨_, (by first | exact shA rfl | exact shI rfl | exact shB rfl | exact shS rfl | exact shP rfl | exact shF rfl | exact shN rfl), _, siz_any2 rfl, (by exact rfl), (by exact rfl), (by exact rfl), ?_⟩; clear hS; intro _ hS; dsimp only [blit, List.set, List.cons_append, List.nil_append, Value.cells, List.toList_toArray] at hS))
  obtain ⟨u, rfl⟩ := nameW hS
  have HCF := hide (fun d os => Calls.regrown_of (config9_x (hS.call (below_regrown u d os)) 0 1 rfl rfl (by decide) (unhide HR) (unhide HW6)))
  have kA := cell_regrown ((hS.get 3 rfl).cell 0 _ rfl)
  have kB := cell_regrown ((hS.get 3 rfl).cell 1 _ rfl)
  have HSQ := hide hS
  clear hS
  refine wp_region_quiet_below (by kernel_rfl) (by kernel_rfl) ?_
  repeat (go_big_quiet_step (first | (go_at_call 64; exact (unhide HCF) _ _)))
  refine wpQuiet_nil ?_
  intro _ hw'
  obtain ⟨⟨dq, osq⟩, hw''⟩ := hw'
  subst hw''
  have hS := (unhide HSQ).call (below_regrown u dq osq)
  clear HSQ kA kB
  generalize grow (redrawn u dq) osq = u9 at *
  clear HCF
  go_wp2_with (first | (refine wpx_box hS rfl _ _ rfl _ rfl _ (by intro _; simp only [Act.put, List.setIfInBounds_toArray, List.set_cons_zero, List.set_cons_succ]; first | done | exact rfl) ?_; clear hS; intro _ _ hS; dsimp only [blit, List.set, List.cons_append, List.nil_append, Value.cells, List.toList_toArray] at hS) | (refine wpx_alloc hS rfl _ rfl _ (zer_any2 rfl) _ (by intro _; simp only [Act.put, List.setIfInBounds_toArray, List.set_cons_zero, List.set_cons_succ]; first | done | exact rfl) ?_; clear hS; intro _ _ hS; dsimp only [blit, List.set, List.cons_append, List.nil_append, Value.cells, List.toList_toArray] at hS) | (refine wpx_ld hS rfl _ _ rfl _ _ rfl ?_; (first | refine ⟨0, _, rfl, ?_⟩ | refine ⟨1, _, rfl, ?_⟩ | refine ⟨2, _, rfl, ?_⟩ | refine ⟨3, _, rfl, ?_⟩ | refine ⟨4, _, rfl, ?_⟩ | refine ⟨5, _, rfl, ?_⟩ | refine ⟨6, _, rfl, ?_⟩ | refine ⟨7, _, rfl, ?_⟩ | refine ⟨8, _, rfl, ?_⟩ | refine ⟨9, _, rfl, ?_⟩); first | refine .inl ⟨_, one_any2 rfl, rfl, _, (by simp only [Act.put, List.setIfInBounds_toArray, List.set_cons_zero, List.set_cons_succ]; first | done | exact rfl), ?_⟩ | refine .inr ⟨_, _, row_any2 rfl, rfl, (by dsimp only [cutL, List.drop, List.take]; first | done | exact rfl), _, (by simp only [Act.put, List.setIfInBounds_toArray, List.set_cons_zero, List.set_cons_succ]; first | done | exact rfl), ?_⟩) | (refine wpx_st hS rfl _ _ _ rfl rfl _ _ rfl ?_; (first | refine ⟨0, _, rfl, ?_⟩ | refine ⟨1, _, rfl, ?_⟩ | refine ⟨2, _, rfl, ?_⟩ | refine ⟨3, _, rfl, ?_⟩ | refine ⟨4, _, rfl, ?_⟩ | refine ⟨5, _, rfl, ?_⟩ | refine ⟨6, _, rfl, ?_⟩ | refine ⟨7, _, rfl, ?_⟩ | refine ⟨8, _, rfl, ?_⟩ | refine ⟨9, _, rfl, ?_⟩); refine ⟨_, (by first | exact shA rfl | exact shI rfl | exact shB rfl | exact shS rfl | exact shP rfl | exact shF rfl | exact shN rfl), _, siz_any2 rfl, (by exact rfl), (by exact rfl), (by exact rfl), ?_⟩; clear hS; intro _ hS; dsimp only [blit, List.set, List.cons_append, List.nil_append, Value.cells, List.toList_toArray] at hS))
  first | go_end0 | ((try simp only [Exit.inBlock, Exit.then]); refine bodyPost_ret (results_none rfl _ _ _) rfl ?_)
  exact ⟨rfl, unhide HW6, (unhide HS).back3 i j k (unhide HI).1 (unhide HI).2.1 (unhide HI).2.2 hS⟩

set_option maxHeartbeats 4000000 in
theorem oLook_b (hS : Sx bs w0 w l e) (i j k n : Nat) (hi : l[i]? = some (B, memL c C m)) (hj : l[j]? = some (C, rowW m.ws c.n)) (hk : l[k]? = some (P, [.func (.func 61) #[] #[.pointer (some ⟨K, 0, none⟩)], .int .i64 sl, .int .u64 (s : Nat), .int .u64 (q : Nat), .pointer nt, .func (.func 37) #[.pointer (some ⟨P, 0, none⟩)] #[], .int .i64 te, .int .u64 (th : Nat), .int .u64 (tn : Nat)])) (hn : l[n]? = some (K, [.int .i64 sl])) (hij : i ≠ j) (hik : i ≠ k) (hjk : j ≠ k) (hin : i ≠ n) (hjn : j ≠ n) (hkn : k ≠ n) (hr : c.r = true) (hw : WordsOk c m) (h0 : 0 ≤ sl) (h1 : sl ≤ 20) (M : Um.Mm) (hM : M = Um.mtouch c m 1 4 sl 0 0) (h3 : Um.stN M.l.old ≠ 0) {te2 : Int} {th2 tn2 : Nat} {fl : Bool} (hG : Gof c.s sl te th tn fl te2 th2 tn2) :
    Calls Try.prog 37 #[.pointer (some ⟨P, 0, none⟩), .pointer (some ⟨B, 0, none⟩)] w fun r w' => r = .returned (.tuple #[]) ∧ WordsOk c M ∧ Sx bs w0 w' (putL l [(i, B, memL c C M), (j, C, rowW M.ws c.n), (k, P, [.func (.func 61) #[] #[.pointer (some ⟨K, 0, none⟩)], .int .i64 (sl + 1), .int .u64 (M.l.old : Nat), .int .u64 (q : Nat), .pointer nt, (cond fl .nilFunc (.func (.func 37) #[.pointer (some ⟨P, 0, none⟩)] #[])), .int .i64 te2, .int .u64 (th2 : Nat), .int .u64 (tn2 : Nat)]), (n, K, [.int .i64 (sl + 1)])]) e := by
  have hst : ¬ ((Um.part M.l.old 27 3 : Nat) : Int) = 0 := by have h9 : Um.stN M.l.old = Um.part M.l.old 27 3 := rfl; omega
  have HO := hide (show Um.Word (Um.mtouch c m 1 4 sl 0 0).l.old from Um.old_word hw)
  rw [← hM] at HO
  have HST := hide hst
  clear hst h3
  have HS := hide hS
  have HI := hide (And.intro hi (And.intro hj (And.intro hk hn)))
  have hL := hS.enter4 i j k n hi hj hk hn hij hik hjk hin hjn hkn
  have HR := hide hr
  have HW := hide hw
  have HM := hide hM
  have HBD := hide (show -9223372036854775808 ≤ sl ∧ sl ≤ 9223372036854775807 by omega)
  have HG := hide hG
  clear hS hi hj hk hr hw hM hn hG
  have hS := hL
  clear hL
  have hf := field_cfgG
  go_enter Try.func37, Try.ntmps37
  go_wp2_with fail
  refine (oSpot_any (hS.get 2 rfl) 4).mono ?_
  rintro r u ⟨rfl, hb⟩
  replace hS := hS.call hb
  clear hb
  go_wp2_with fail
  refine (mLoad_x hS 0 1 rfl rfl (by decide) (unhide HR) (unhide HW) 4 sl (unhide HBD).1 (unhide HBD).2 M (unhide HM)).mono ?_
  rintro r u ⟨rfl, hWn, hSn⟩
  clear hS
  have hS := hSn
  clear hSn
  dsimp only [putL, List.set, List.cons_append, List.nil_append] at hS
  have HW6 := hide hWn
  clear hWn
  go_wp2_with (first | (refine wpx_box hS rfl _ _ rfl _ rfl _ (by intro _; simp only [Act.put, List.setIfInBounds_toArray, List.set_cons_zero, List.set_cons_succ]; first | done | exact rfl) ?_; clear hS; intro _ _ hS; dsimp only [blit, List.set, List.cons_append, List.nil_append, Value.cells, List.toList_toArray] at hS) | (refine wpx_alloc hS rfl _ rfl _ (zer_any2 rfl) _ (by intro _; simp only [Act.put, List.setIfInBounds_toArray, List.set_cons_zero, List.set_cons_succ]; first | done | exact rfl) ?_; clear hS; intro _ _ hS; dsimp only [blit, List.set, List.cons_append, List.nil_append, Value.cells, List.toList_toArray] at hS) | (refine wpx_ld hS rfl _ _ rfl _ _ rfl ?_; (first | refine ⟨0, _, rfl, ?_⟩ | refine ⟨1, _, rfl, ?_⟩ | refine ⟨2, _, rfl, ?_⟩ | refine ⟨3, _, rfl, ?_⟩ | refine ⟨4, _, rfl, ?_⟩ | refine ⟨5, _, rfl, ?_⟩ | refine ⟨6, _, rfl, ?_⟩ | refine ⟨7, _, rfl, ?_⟩ | refine ⟨8, _, rfl, ?_⟩ | refine ⟨9, _, rfl, ?_⟩); first | refine .inl ⟨_, one_any2 rfl, rfl, _, (by simp only [Act.put, List.setIfInBounds_toArray, List.set_cons_zero, List.set_cons_succ]; first | done | exact rfl), ?_⟩ | refine .inr ⟨_, _, row_any2 rfl, rfl, (by dsimp only [cutL, List.drop, List.take]; first | done | exact rfl), _, (by simp only [Act.put, List.setIfInBounds_toArray, List.set_cons_zero, List.set_cons_succ]; first | done | exact rfl), ?_⟩) | (refine wpx_st hS rfl _ _ _ rfl rfl _ _ rfl ?_; (first | refine ⟨0, _, rfl, ?_⟩ | refine ⟨1, _, rfl, ?_⟩ | refine ⟨2, _, rfl, ?_⟩ | refine ⟨3, _, rfl, ?_⟩ | refine ⟨4, _, rfl, ?_⟩ | refine ⟨5, _, rfl, ?_⟩ | refine ⟨6, _, rfl, ?_⟩ | refine ⟨7, _, rfl, ?_⟩ | refine ⟨8, _, rfl, ?_⟩ | refine ⟨9, _, rfl, ?_⟩); refine ⟨_, (by first | exact shA rfl | exact shI rfl | exact shB rfl | exact shS rfl | exact shP rfl | exact shF rfl | exact shN rfl), _, siz_any2 rfl, (by exact rfl), (by exact rfl), (by exact rfl), ?_⟩; clear hS; intro _ hS; dsimp only [blit, List.set, List.cons_append, List.nil_append, Value.cells, List.toList_toArray] at hS))
  refine (unpack_any M.l.old _ (unhide HO)).mono ?_
  rintro r u ⟨rfl, hb⟩
  replace hS := hS.call hb
  clear hb
  have hst := unhide HST
  have hst5 : (((Um.part M.l.old 27 3 : Nat) : Int) == 0) = false := by simpa using hst
  go_wp2_with (first | (refine wpx_box hS rfl _ _ rfl _ rfl _ (by intro _; simp only [Act.put, List.setIfInBounds_toArray, List.set_cons_zero, List.set_cons_succ]; first | done | exact rfl) ?_; clear hS; intro _ _ hS; dsimp only [blit, List.set, List.cons_append, List.nil_append, Value.cells, List.toList_toArray] at hS) | (refine wpx_alloc hS rfl _ rfl _ (zer_any2 rfl) _ (by intro _; simp only [Act.put, List.setIfInBounds_toArray, List.set_cons_zero, List.set_cons_succ]; first | done | exact rfl) ?_; clear hS; intro _ _ hS; dsimp only [blit, List.set, List.cons_append, List.nil_append, Value.cells, List.toList_toArray] at hS) | (refine wpx_ld hS rfl _ _ rfl _ _ rfl ?_; (first | refine ⟨0, _, rfl, ?_⟩ | refine ⟨1, _, rfl, ?_⟩ | refine ⟨2, _, rfl, ?_⟩ | refine ⟨3, _, rfl, ?_⟩ | refine ⟨4, _, rfl, ?_⟩ | refine ⟨5, _, rfl, ?_⟩ | refine ⟨6, _, rfl, ?_⟩ | refine ⟨7, _, rfl, ?_⟩ | refine ⟨8, _, rfl, ?_⟩ | refine ⟨9, _, rfl, ?_⟩); first | refine .inl ⟨_, one_any2 rfl, rfl, _, (by simp only [Act.put, List.setIfInBounds_toArray, List.set_cons_zero, List.set_cons_succ]; first | done | exact rfl), ?_⟩ | refine .inr ⟨_, _, row_any2 rfl, rfl, (by dsimp only [cutL, List.drop, List.take]; first | done | exact rfl), _, (by simp only [Act.put, List.setIfInBounds_toArray, List.set_cons_zero, List.set_cons_succ]; first | done | exact rfl), ?_⟩) | (refine wpx_st hS rfl _ _ _ rfl rfl _ _ rfl ?_; (first | refine ⟨0, _, rfl, ?_⟩ | refine ⟨1, _, rfl, ?_⟩ | refine ⟨2, _, rfl, ?_⟩ | refine ⟨3, _, rfl, ?_⟩ | refine ⟨4, _, rfl, ?_⟩ | refine ⟨5, _, rfl, ?_⟩ | refine ⟨6, _, rfl, ?_⟩ | refine ⟨7, _, rfl, ?_⟩ | refine ⟨8, _, rfl, ?_⟩ | refine ⟨9, _, rfl, ?_⟩); refine ⟨_, (by first | exact shA rfl | exact shI rfl | exact shB rfl | exact shS rfl | exact shP rfl | exact shF rfl | exact shN rfl), _, siz_any2 rfl, (by exact rfl), (by exact rfl), (by exact rfl), ?_⟩; clear hS; intro _ hS; dsimp only [blit, List.set, List.cons_append, List.nil_append, Value.cells, List.toList_toArray] at hS))
  obtain ⟨u, rfl⟩ := nameW hS
  have HCF := hide (fun d os => Calls.regrown_of (config9_x (hS.call (below_regrown u d os)) 0 1 rfl rfl (by decide) (unhide HR) (unhide HW6)))
  have kA := cell_regrown ((hS.get 4 rfl).cell 0 _ rfl)
  have kB := cell_regrown ((hS.get 4 rfl).cell 1 _ rfl)
  have HSQ := hide hS
  clear hS
  refine wp_region_quiet_below (by kernel_rfl) (by kernel_rfl) ?_
  repeat (go_big_quiet_step (first | (go_at_call 64; exact (unhide HCF) _ _)))
  refine wpQuiet_nil ?_
  intro _ hw'
  obtain ⟨⟨dq, osq⟩, hw''⟩ := hw'
  subst hw''
  have hS := (unhide HSQ).call (below_regrown u dq osq)
  clear HSQ kA kB
  generalize grow (redrawn u dq) osq = u9 at *
  clear HCF
  go_wp2_with fail
  refine (oAnother_x hS 0 1 2 3 rfl rfl rfl rfl (by decide) (by decide) (by decide) (by decide) (by decide) (by decide) (unhide HR) (unhide HW6) h0 h1 (unhide HG)).mono ?_
  rintro r u ⟨rfl, hSn⟩
  clear hS
  have hS := hSn
  clear hSn
  dsimp only [putL, List.set, List.cons_append, List.nil_append] at hS
  go_wp2_with fail
  first | go_end0 | ((try simp only [Exit.inBlock, Exit.then]); refine bodyPost_ret (results_none rfl _ _ _) rfl ?_)
  exact ⟨rfl, unhide HW6, (unhide HS).back4 i j k n (unhide HI).1 (unhide HI).2.1 (unhide HI).2.2.1 (unhide HI).2.2.2 hS⟩

set_option maxHeartbeats 4000000 in
theorem oLook_c (hS : Sx bs w0 w l e) (i j k n : Nat) (hi : l[i]? = some (B, memL c C m)) (hj : l[j]? = some (C, rowW m.ws c.n)) (hk : l[k]? = some (P, [.func (.func 61) #[] #[.pointer (some ⟨K, 0, none⟩)], .int .i64 sl, .int .u64 (s : Nat), .int .u64 (q : Nat), .pointer nt, .func (.func 37) #[.pointer (some ⟨P, 0, none⟩)] #[], .int .i64 te, .int .u64 (th : Nat), .int .u64 (tn : Nat)])) (hn : l[n]? = some (K, [.int .i64 sl])) (hij : i ≠ j) (hik : i ≠ k) (hjk : j ≠ k) (hin : i ≠ n) (hjn : j ≠ n) (hkn : k ≠ n) (hr : c.r = true) (hw : WordsOk c m) (h0 : 0 ≤ sl) (h1 : sl ≤ 20) (M : Um.Mm) (hM : M = Um.mtouch c m 1 4 sl 0 0) (h3 : Um.stN M.l.old = 0) (h4 : ¬ ((Um.gnN M.l.old : Nat) : Int) ≤ c.g) {te2 : Int} {th2 tn2 : Nat} {fl : Bool} (hG : Gof c.s sl te th tn fl te2 th2 tn2) :
    Calls Try.prog 37 #[.pointer (some ⟨P, 0, none⟩), .pointer (some ⟨B, 0, none⟩)] w fun r w' => r = .returned (.tuple #[]) ∧ WordsOk c M ∧ Sx bs w0 w' (putL l [(i, B, memL c C M), (j, C, rowW M.ws c.n), (k, P, [.func (.func 61) #[] #[.pointer (some ⟨K, 0, none⟩)], .int .i64 (sl + 1), .int .u64 (M.l.old : Nat), .int .u64 (q : Nat), .pointer nt, (cond fl .nilFunc (.func (.func 37) #[.pointer (some ⟨P, 0, none⟩)] #[])), .int .i64 te2, .int .u64 (th2 : Nat), .int .u64 (tn2 : Nat)]), (n, K, [.int .i64 (sl + 1)])]) e := by
  have hst : ((Um.part M.l.old 27 3 : Nat) : Int) = 0 := by have h9 : Um.stN M.l.old = Um.part M.l.old 27 3 := rfl; omega
  have hgd : decide (((Um.part M.l.old 30 32 : Nat) : Int) ≤ c.g) = false := decide_eq_false h4
  have HO := hide (show Um.Word (Um.mtouch c m 1 4 sl 0 0).l.old from Um.old_word hw)
  rw [← hM] at HO
  have HST := hide hst
  have HGD := hide hgd
  clear hst h3 hgd h4
  have HS := hide hS
  have HI := hide (And.intro hi (And.intro hj (And.intro hk hn)))
  have hL := hS.enter4 i j k n hi hj hk hn hij hik hjk hin hjn hkn
  have HR := hide hr
  have HW := hide hw
  have HM := hide hM
  have HBD := hide (show -9223372036854775808 ≤ sl ∧ sl ≤ 9223372036854775807 by omega)
  have HG := hide hG
  clear hS hi hj hk hr hw hM hn hG
  have hS := hL
  clear hL
  have hf := field_cfgG
  go_enter Try.func37, Try.ntmps37
  go_wp2_with fail
  refine (oSpot_any (hS.get 2 rfl) 4).mono ?_
  rintro r u ⟨rfl, hb⟩
  replace hS := hS.call hb
  clear hb
  go_wp2_with fail
  refine (mLoad_x hS 0 1 rfl rfl (by decide) (unhide HR) (unhide HW) 4 sl (unhide HBD).1 (unhide HBD).2 M (unhide HM)).mono ?_
  rintro r u ⟨rfl, hWn, hSn⟩
  clear hS
  have hS := hSn
  clear hSn
  dsimp only [putL, List.set, List.cons_append, List.nil_append] at hS
  have HW6 := hide hWn
  clear hWn
  go_wp2_with (first | (refine wpx_box hS rfl _ _ rfl _ rfl _ (by intro _; simp only [Act.put, List.setIfInBounds_toArray, List.set_cons_zero, List.set_cons_succ]; first | done | exact rfl) ?_; clear hS; intro _ _ hS; dsimp only [blit, List.set, List.cons_append, List.nil_append, Value.cells, List.toList_toArray] at hS) | (refine wpx_alloc hS rfl _ rfl _ (zer_any2 rfl) _ (by intro _; simp only [Act.put, List.setIfInBounds_toArray, List.set_cons_zero, List.set_cons_succ]; first | done | exact rfl) ?_; clear hS; intro _ _ hS; dsimp only [blit, List.set, List.cons_append, List.nil_append, Value.cells, List.toList_toArray] at hS) | (refine wpx_ld hS rfl _ _ rfl _ _ rfl ?_; (first | refine ⟨0, _, rfl, ?_⟩ | refine ⟨1, _, rfl, ?_⟩ | refine ⟨2, _, rfl, ?_⟩ | refine ⟨3, _, rfl, ?_⟩ | refine ⟨4, _, rfl, ?_⟩ | refine ⟨5, _, rfl, ?_⟩ | refine ⟨6, _, rfl, ?_⟩ | refine ⟨7, _, rfl, ?_⟩ | refine ⟨8, _, rfl, ?_⟩ | refine ⟨9, _, rfl, ?_⟩); first | refine .inl ⟨_, one_any2 rfl, rfl, _, (by simp only [Act.put, List.setIfInBounds_toArray, List.set_cons_zero, List.set_cons_succ]; first | done | exact rfl), ?_⟩ | refine .inr ⟨_, _, row_any2 rfl, rfl, (by dsimp only [cutL, List.drop, List.take]; first | done | exact rfl), _, (by simp only [Act.put, List.setIfInBounds_toArray, List.set_cons_zero, List.set_cons_succ]; first | done | exact rfl), ?_⟩) | (refine wpx_st hS rfl _ _ _ rfl rfl _ _ rfl ?_; (first | refine ⟨0, _, rfl, ?_⟩ | refine ⟨1, _, rfl, ?_⟩ | refine ⟨2, _, rfl, ?_⟩ | refine ⟨3, _, rfl, ?_⟩ | refine ⟨4, _, rfl, ?_⟩ | refine ⟨5, _, rfl, ?_⟩ | refine ⟨6, _, rfl, ?_⟩ | refine ⟨7, _, rfl, ?_⟩ | refine ⟨8, _, rfl, ?_⟩ | refine ⟨9, _, rfl, ?_⟩); refine ⟨_, (by first | exact shA rfl | exact shI rfl | exact shB rfl | exact shS rfl | exact shP rfl | exact shF rfl | exact shN rfl), _, siz_any2 rfl, (by exact rfl), (by exact rfl), (by exact rfl), ?_⟩; clear hS; intro _ hS; dsimp only [blit, List.set, List.cons_append, List.nil_append, Value.cells, List.toList_toArray] at hS))
  refine (unpack_any M.l.old _ (unhide HO)).mono ?_
  rintro r u ⟨rfl, hb⟩
  replace hS := hS.call hb
  clear hb
  rw [unhide HST]
  have hgd := unhide HGD
  go_wp2_with (first | (refine wpx_box hS rfl _ _ rfl _ rfl _ (by intro _; simp only [Act.put, List.setIfInBounds_toArray, List.set_cons_zero, List.set_cons_succ]; first | done | exact rfl) ?_; clear hS; intro _ _ hS; dsimp only [blit, List.set, List.cons_append, List.nil_append, Value.cells, List.toList_toArray] at hS) | (refine wpx_alloc hS rfl _ rfl _ (zer_any2 rfl) _ (by intro _; simp only [Act.put, List.setIfInBounds_toArray, List.set_cons_zero, List.set_cons_succ]; first | done | exact rfl) ?_; clear hS; intro _ _ hS; dsimp only [blit, List.set, List.cons_append, List.nil_append, Value.cells, List.toList_toArray] at hS) | (refine wpx_ld hS rfl _ _ rfl _ _ rfl ?_; (first | refine ⟨0, _, rfl, ?_⟩ | refine ⟨1, _, rfl, ?_⟩ | refine ⟨2, _, rfl, ?_⟩ | refine ⟨3, _, rfl, ?_⟩ | refine ⟨4, _, rfl, ?_⟩ | refine ⟨5, _, rfl, ?_⟩ | refine ⟨6, _, rfl, ?_⟩ | refine ⟨7, _, rfl, ?_⟩ | refine ⟨8, _, rfl, ?_⟩ | refine ⟨9, _, rfl, ?_⟩); first | refine .inl ⟨_, one_any2 rfl, rfl, _, (by simp only [Act.put, List.setIfInBounds_toArray, List.set_cons_zero, List.set_cons_succ]; first | done | exact rfl), ?_⟩ | refine .inr ⟨_, _, row_any2 rfl, rfl, (by dsimp only [cutL, List.drop, List.take]; first | done | exact rfl), _, (by simp only [Act.put, List.setIfInBounds_toArray, List.set_cons_zero, List.set_cons_succ]; first | done | exact rfl), ?_⟩) | (refine wpx_st hS rfl _ _ _ rfl rfl _ _ rfl ?_; (first | refine ⟨0, _, rfl, ?_⟩ | refine ⟨1, _, rfl, ?_⟩ | refine ⟨2, _, rfl, ?_⟩ | refine ⟨3, _, rfl, ?_⟩ | refine ⟨4, _, rfl, ?_⟩ | refine ⟨5, _, rfl, ?_⟩ | refine ⟨6, _, rfl, ?_⟩ | refine ⟨7, _, rfl, ?_⟩ | refine ⟨8, _, rfl, ?_⟩ | refine ⟨9, _, rfl, ?_⟩); refine ⟨_, (by first | exact shA rfl | exact shI rfl | exact shB rfl | exact shS rfl | exact shP rfl | exact shF rfl | exact shN rfl), _, siz_any2 rfl, (by exact rfl), (by exact rfl), (by exact rfl), ?_⟩; clear hS; intro _ hS; dsimp only [blit, List.set, List.cons_append, List.nil_append, Value.cells, List.toList_toArray] at hS))
  obtain ⟨u, rfl⟩ := nameW hS
  have HCF := hide (fun d os => Calls.regrown_of (config9_x (hS.call (below_regrown u d os)) 0 1 rfl rfl (by decide) (unhide HR) (unhide HW6)))
  have kA := cell_regrown ((hS.get 4 rfl).cell 0 _ rfl)
  have kB := cell_regrown ((hS.get 4 rfl).cell 1 _ rfl)
  have HSQ := hide hS
  clear hS
  refine wp_region_quiet_below (by kernel_rfl) (by kernel_rfl) ?_
  repeat (go_big_quiet_step (first | (go_at_call 64; exact (unhide HCF) _ _)))
  refine wpQuiet_nil ?_
  intro _ hw'
  obtain ⟨⟨dq, osq⟩, hw''⟩ := hw'
  subst hw''
  have hS := (unhide HSQ).call (below_regrown u dq osq)
  clear HSQ kA kB
  generalize grow (redrawn u dq) osq = u9 at *
  clear HCF
  go_wp2_with fail
  refine (oAnother_x hS 0 1 2 3 rfl rfl rfl rfl (by decide) (by decide) (by decide) (by decide) (by decide) (by decide) (unhide HR) (unhide HW6) h0 h1 (unhide HG)).mono ?_
  rintro r u ⟨rfl, hSn⟩
  clear hS
  have hS := hSn
  clear hSn
  dsimp only [putL, List.set, List.cons_append, List.nil_append] at hS
  go_wp2_with fail
  first | go_end0 | ((try simp only [Exit.inBlock, Exit.then]); refine bodyPost_ret (results_none rfl _ _ _) rfl ?_)
  exact ⟨rfl, unhide HW6, (unhide HS).back4 i j k n (unhide HI).1 (unhide HI).2.1 (unhide HI).2.2.1 (unhide HI).2.2.2 hS⟩

set_option maxHeartbeats 4000000 in
theorem oTake_t (hS : Sx bs w0 w l e) (i j k : Nat) (hi : l[i]? = some (B, memL c C m)) (hj : l[j]? = some (C, rowW m.ws c.n)) (hk : l[k]? = some (P, [.func (.func 61) #[] #[.pointer (some ⟨K, 0, none⟩)], .int .i64 sl, .int .u64 (s : Nat), .int .u64 (q : Nat), .pointer nt, .func (.func 65) #[.pointer (some ⟨P, 0, none⟩)] #[], .int .i64 te, .int .u64 (th : Nat), .int .u64 (tn : Nat)])) (hij : i ≠ j) (hik : i ≠ k) (hjk : j ≠ k) (hr : c.r = true) (hw : WordsOk c m) (h0 : 0 ≤ sl) (h1 : sl ≤ 20) (M : Um.Mm) (hM : M = Um.mtouch c m 3 4 sl s (Um.moveN s 1 false)) (hs : Um.Word s) (hd : M.l.done = true) :
    Calls Try.prog 65 #[.pointer (some ⟨P, 0, none⟩), .pointer (some ⟨B, 0, none⟩)] w fun r w' => r = .returned (.tuple #[]) ∧ WordsOk c M ∧ Sx bs w0 w' (putL l [(i, B, memL c C M), (j, C, rowW M.ws c.n), (k, P, [.func (.func 61) #[] #[.pointer (some ⟨K, 0, none⟩)], .int .i64 sl, .int .u64 (s : Nat), .int .u64 (q : Nat), .pointer nt, .func (.func 78) #[.pointer (some ⟨P, 0, none⟩)] #[], .int .i64 te, .int .u64 (th : Nat), .int .u64 (tn : Nat)])]) e := by
  have HS := hide hS
  have HI := hide (And.intro hi (And.intro hj hk))
  have hL := hS.enter3 i j k hi hj hk hij hik hjk
  have HR := hide hr
  have HW := hide hw
  have HM := hide hM
  have HBD := hide (show -9223372036854775808 ≤ sl ∧ sl ≤ 9223372036854775807 by omega)
  have HSW := hide hs
  have HD := hide hd
  clear hS hi hj hk hr hw hM hs hd
  have hS := hL
  clear hL
  have k1 := fun w' (h : BlkAt w' P [.func (.func 61) #[] #[.pointer (some ⟨K, 0, none⟩)], .int .i64 sl, .int .u64 (s : Nat), .int .u64 (q : Nat), .pointer nt, .func (.func 65) #[.pointer (some ⟨P, 0, none⟩)] #[], .int .i64 te, .int .u64 (th : Nat), .int .u64 (tn : Nat)]) => h.cell 1 _ rfl
  have k2 := fun w' (h : BlkAt w' P [.func (.func 61) #[] #[.pointer (some ⟨K, 0, none⟩)], .int .i64 sl, .int .u64 (s : Nat), .int .u64 (q : Nat), .pointer nt, .func (.func 65) #[.pointer (some ⟨P, 0, none⟩)] #[], .int .i64 te, .int .u64 (th : Nat), .int .u64 (tn : Nat)]) => h.cell 2 _ rfl
  have HP := hide (hS.get 2 rfl)
  go_enter Try.func65, Try.ntmps65
  go_wp2_with fail
  have HS3 := hide hS
  clear hS
  go_region_held3 (fun w' => BlkAt w' P [.func (.func 61) #[] #[.pointer (some ⟨K, 0, none⟩)], .int .i64 sl, .int .u64 (s : Nat), .int .u64 (q : Nat), .pointer nt, .func (.func 65) #[.pointer (some ⟨P, 0, none⟩)] #[], .int .i64 te, .int .u64 (th : Nat), .int .u64 (tn : Nat)]) (first | exact (unhide HP).drew | exact BlkAt.below (by assumption) (by assumption) | assumption) (first | (go_at_call 62; refine (oSpot_any (by assumption) _).mono ?_; rintro e u5 ⟨rfl, hb5⟩) | (go_at_call 77; refine (move1_b s _ (unhide HSW)).mono ?_; rintro e u6 ⟨rfl, hb6⟩) | (go_at_call 76; refine (mSwap_x (((unhide HS3).undrew hb5).call hb6) 0 1 rfl rfl (by decide) (unhide HR) (unhide HW) 4 sl s (Um.moveN s 1 false) (Um.move_word (unhide HSW) (by decide)) (unhide HBD).1 (unhide HBD).2 M (unhide HM)).mono ?_; rintro e u7 ⟨rfl, hW6, hS6⟩; have hP6 := hS6.get 2 rfl))
  have hS := hS6
  have HW6 := hide hW6
  clear hS6 hP6 hW6 k1 k2 HS3 HP
  dsimp only [putL, List.set] at hS
  simp only [unhide HD]
  clear HD
  go_wp2_with (first | (refine wpx_box hS rfl _ _ rfl _ rfl _ (by intro _; simp only [Act.put, List.setIfInBounds_toArray, List.set_cons_zero, List.set_cons_succ]; first | done | exact rfl) ?_; clear hS; intro _ _ hS; dsimp only [blit, List.set, List.cons_append, List.nil_append, Value.cells, List.toList_toArray] at hS) | (refine wpx_alloc hS rfl _ rfl _ (zer_any2 rfl) _ (by intro _; simp only [Act.put, List.setIfInBounds_toArray, List.set_cons_zero, List.set_cons_succ]; first | done | exact rfl) ?_; clear hS; intro _ _ hS; dsimp only [blit, List.set, List.cons_append, List.nil_append, Value.cells, List.toList_toArray] at hS) | (refine wpx_ld hS rfl _ _ rfl _ _ rfl ?_; (first | refine ⟨0, _, rfl, ?_⟩ | refine ⟨1, _, rfl, ?_⟩ | refine ⟨2, _, rfl, ?_⟩ | refine ⟨3, _, rfl, ?_⟩ | refine ⟨4, _, rfl, ?_⟩ | refine ⟨5, _, rfl, ?_⟩ | refine ⟨6, _, rfl, ?_⟩ | refine ⟨7, _, rfl, ?_⟩ | refine ⟨8, _, rfl, ?_⟩ | refine ⟨9, _, rfl, ?_⟩); first | refine .inl ⟨_, one_any2 rfl, rfl, _, (by simp only [Act.put, List.setIfInBounds_toArray, List.set_cons_zero, List.set_cons_succ]; first | done | exact rfl), ?_⟩ | refine .inr ⟨_, _, row_any2 rfl, rfl, (by dsimp only [cutL, List.drop, List.take]; first | done | exact rfl), _, (by simp only [Act.put, List.setIfInBounds_toArray, List.set_cons_zero, List.set_cons_succ]; first | done | exact rfl), ?_⟩) | (refine wpx_st hS rfl _ _ _ rfl rfl _ _ rfl ?_; (first | refine ⟨0, _, rfl, ?_⟩ | refine ⟨1, _, rfl, ?_⟩ | refine ⟨2, _, rfl, ?_⟩ | refine ⟨3, _, rfl, ?_⟩ | refine ⟨4, _, rfl, ?_⟩ | refine ⟨5, _, rfl, ?_⟩ | refine ⟨6, _, rfl, ?_⟩ | refine ⟨7, _, rfl, ?_⟩ | refine ⟨8, _, rfl, ?_⟩ | refine ⟨9, _, rfl, ?_⟩); refine ⟨_, (by first | exact shA rfl | exact shI rfl | exact shB rfl | exact shS rfl | exact shP rfl | exact shF rfl | exact shN rfl), _, siz_any2 rfl, (by exact rfl), (by exact rfl), (by exact rfl), ?_⟩; clear hS; intro _ hS; dsimp only [blit, List.set, List.cons_append, List.nil_append, Value.cells, List.toList_toArray] at hS))
  first | go_end0 | ((try simp only [Exit.inBlock, Exit.then]); refine bodyPost_ret (results_none rfl _ _ _) rfl ?_)
  exact ⟨rfl, unhide HW6, (unhide HS).back3 i j k (unhide HI).1 (unhide HI).2.1 (unhide HI).2.2 hS⟩

set_option maxHeartbeats 4000000 in
theorem oTake_f (hS : Sx bs w0 w l e) (i j k n : Nat) (hi : l[i]? = some (B, memL c C m)) (hj : l[j]? = some (C, rowW m.ws c.n)) (hk : l[k]? = some (P, [.func (.func 61) #[] #[.pointer (some ⟨K, 0, none⟩)], .int .i64 sl, .int .u64 (s : Nat), .int .u64 (q : Nat), .pointer nt, .func (.func 65) #[.pointer (some ⟨P, 0, none⟩)] #[], .int .i64 te, .int .u64 (th : Nat), .int .u64 (tn : Nat)])) (hn : l[n]? = some (K, [.int .i64 sl])) (hij : i ≠ j) (hik : i ≠ k) (hjk : j ≠ k) (hin : i ≠ n) (hjn : j ≠ n) (hkn : k ≠ n) (hr : c.r = true) (hw : WordsOk c m) (h0 : 0 ≤ sl) (h1 : sl ≤ 20) (M : Um.Mm) (hM : M = Um.mtouch c m 3 4 sl s (Um.moveN s 1 false)) (hs : Um.Word s) (hd : M.l.done = false) {te2 : Int} {th2 tn2 : Nat} {fl : Bool} (hG : Gof c.s sl te th tn fl te2 th2 tn2) :
    Calls Try.prog 65 #[.pointer (some ⟨P, 0, none⟩), .pointer (some ⟨B, 0, none⟩)] w fun r w' => r = .returned (.tuple #[]) ∧ WordsOk c M ∧ Sx bs w0 w' (putL l [(i, B, memL c C M), (j, C, rowW M.ws c.n), (k, P, [.func (.func 61) #[] #[.pointer (some ⟨K, 0, none⟩)], .int .i64 (sl + 1), .int .u64 (s : Nat), .int .u64 (q : Nat), .pointer nt, (cond fl .nilFunc (.func (.func 37) #[.pointer (some ⟨P, 0, none⟩)] #[])), .int .i64 te2, .int .u64 (th2 : Nat), .int .u64 (tn2 : Nat)]), (n, K, [.int .i64 (sl + 1)])]) e := by
  have HS := hide hS
  have HI := hide (And.intro hi (And.intro hj (And.intro hk hn)))
  have hL := hS.enter4 i j k n hi hj hk hn hij hik hjk hin hjn hkn
  have HR := hide hr
  have HW := hide hw
  have HM := hide hM
  have HBD := hide (show -9223372036854775808 ≤ sl ∧ sl ≤ 9223372036854775807 by omega)
  have HSW := hide hs
  have HD := hide hd
  have HG := hide hG
  clear hS hi hj hk hr hw hM hn hs hd hG
  have hS := hL
  clear hL
  have k1 := fun w' (h : BlkAt w' P [.func (.func 61) #[] #[.pointer (some ⟨K, 0, none⟩)], .int .i64 sl, .int .u64 (s : Nat), .int .u64 (q : Nat), .pointer nt, .func (.func 65) #[.pointer (some ⟨P, 0, none⟩)] #[], .int .i64 te, .int .u64 (th : Nat), .int .u64 (tn : Nat)]) => h.cell 1 _ rfl
  have k2 := fun w' (h : BlkAt w' P [.func (.func 61) #[] #[.pointer (some ⟨K, 0, none⟩)], .int .i64 sl, .int .u64 (s : Nat), .int .u64 (q : Nat), .pointer nt, .func (.func 65) #[.pointer (some ⟨P, 0, none⟩)] #[], .int .i64 te, .int .u64 (th : Nat), .int .u64 (tn : Nat)]) => h.cell 2 _ rfl
  have HP := hide (hS.get 2 rfl)
  go_enter Try.func65, Try.ntmps65
  go_wp2_with fail
  have HS3 := hide hS
  clear hS
  go_region_held3 (fun w' => BlkAt w' P [.func (.func 61) #[] #[.pointer (some ⟨K, 0, none⟩)], .int .i64 sl, .int .u64 (s : Nat), .int .u64 (q : Nat), .pointer nt, .func (.func 65) #[.pointer (some ⟨P, 0, none⟩)] #[], .int .i64 te, .int .u64 (th : Nat), .int .u64 (tn : Nat)]) (first | exact (unhide HP).drew | exact BlkAt.below (by assumption) (by assumption) | assumption) (first | (go_at_call 62; refine (oSpot_any (by assumption) _).mono ?_; rintro e u5 ⟨rfl, hb5⟩) | (go_at_call 77; refine (move1_b s _ (unhide HSW)).mono ?_; rintro e u6 ⟨rfl, hb6⟩) | (go_at_call 76; refine (mSwap_x (((unhide HS3).undrew hb5).call hb6) 0 1 rfl rfl (by decide) (unhide HR) (unhide HW) 4 sl s (Um.moveN s 1 false) (Um.move_word (unhide HSW) (by decide)) (unhide HBD).1 (unhide HBD).2 M (unhide HM)).mono ?_; rintro e u7 ⟨rfl, hW6, hS6⟩; have hP6 := hS6.get 2 rfl))
  have hS := hS6
  have HW6 := hide hW6
  clear hS6 hP6 hW6 k1 k2 HS3 HP
  dsimp only [putL, List.set] at hS
  simp only [unhide HD]
  clear HD
  go_wp2_with fail
  refine (oAnother_x hS 0 1 2 3 rfl rfl rfl rfl (by decide) (by decide) (by decide) (by decide) (by decide) (by decide) (unhide HR) (unhide HW6) h0 h1 (unhide HG)).mono ?_
  rintro r u ⟨rfl, hSn⟩
  clear hS
  have hS := hSn
  clear hSn
  dsimp only [putL, List.set, List.cons_append, List.nil_append] at hS
  go_wp2_with fail
  first | go_end0 | ((try simp only [Exit.inBlock, Exit.then]); refine bodyPost_ret (results_none rfl _ _ _) rfl ?_)
  exact ⟨rfl, unhide HW6, (unhide HS).back4 i j k n (unhide HI).1 (unhide HI).2.1 (unhide HI).2.2.1 (unhide HI).2.2.2 hS⟩

set_option maxHeartbeats 4000000 in
theorem oTally_h (hS : Sx bs w0 w l e) (i j k : Nat) (hi : l[i]? = some (B, memL c C m)) (hj : l[j]? = some (C, rowW m.ws c.n)) (hk : l[k]? = some (P, [.func (.func 61) #[] #[.pointer (some ⟨K, 0, none⟩)], .int .i64 sl, .int .u64 (s : Nat), .int .u64 (q : Nat), .pointer nt, .func (.func 78) #[.pointer (some ⟨P, 0, none⟩)] #[], .int .i64 te, .int .u64 (th : Nat), .int .u64 (tn : Nat)])) (hij : i ≠ j) (hik : i ≠ k) (hjk : j ≠ k) (hr : c.r = true) (hw : WordsOk c m) (h0 : 0 ≤ sl) (h1 : sl ≤ 20) (M : Um.Mm) (hM : M = Um.mtouch c m 1 1 0 0 0) (hp : 0 ≤ Um.penN M.l.old) :
    Calls Try.prog 78 #[.pointer (some ⟨P, 0, none⟩), .pointer (some ⟨B, 0, none⟩)] w fun r w' => ∃ H, r = .returned (.tuple #[]) ∧ WordsOk c M ∧ Sx bs w0 w' (putL l [(i, B, memL c C M), (j, C, rowW M.ws c.n), (k, P, [.func (.func 61) #[] #[.pointer (some ⟨K, 0, none⟩)], .int .i64 sl, .int .u64 (s : Nat), .int .u64 (q : Nat), .pointer (some ⟨H, 0, none⟩), .func (.func 86) #[.pointer (some ⟨P, 0, none⟩)] #[], .int .i64 te, .int .u64 (th : Nat), .int .u64 (tn : Nat)])] ++ [(H, [.int .u64 (M.l.old : Nat), .int .u64 (0 : Nat), .func (.func 89) #[] #[]])]) e := by
  have HO := hide (show Um.Word (Um.mtouch c m 1 1 0 0 0).l.old from Um.old_word hw)
  rw [← hM] at HO
  have HS := hide hS
  have HI := hide (And.intro hi (And.intro hj hk))
  have hL := hS.enter3 i j k hi hj hk hij hik hjk
  have HR := hide hr
  have HW := hide hw
  have HM := hide hM
  have HBD := hide (show -9223372036854775808 ≤ sl ∧ sl ≤ 9223372036854775807 by omega)
  have HPN := hide hp
  clear hS hi hj hk hr hw hM hp
  have hS := hL
  clear hL
  go_enter Try.func78, Try.ntmps78
  go_wp2_with fail
  refine (mLoad_x hS 0 1 rfl rfl (by decide) (unhide HR) (unhide HW) 1 0 (by decide) (by decide) M (unhide HM)).mono ?_
  rintro r u ⟨rfl, hWn, hSn⟩
  clear hS
  have hS := hSn
  clear hSn
  dsimp only [putL, List.set, List.cons_append, List.nil_append] at hS
  have HW6 := hide hWn
  clear hWn
  go_wp2_with (first | (refine wpx_box hS rfl _ _ rfl _ rfl _ (by intro _; simp only [Act.put, List.setIfInBounds_toArray, List.set_cons_zero, List.set_cons_succ]; first | done | exact rfl) ?_; clear hS; intro _ _ hS; dsimp only [blit, List.set, List.cons_append, List.nil_append, Value.cells, List.toList_toArray] at hS) | (refine wpx_alloc hS rfl _ rfl _ (zer_any2 rfl) _ (by intro _; simp only [Act.put, List.setIfInBounds_toArray, List.set_cons_zero, List.set_cons_succ]; first | done | exact rfl) ?_; clear hS; intro _ _ hS; dsimp only [blit, List.set, List.cons_append, List.nil_append, Value.cells, List.toList_toArray] at hS) | (refine wpx_ld hS rfl _ _ rfl _ _ rfl ?_; (first | refine ⟨0, _, rfl, ?_⟩ | refine ⟨1, _, rfl, ?_⟩ | refine ⟨2, _, rfl, ?_⟩ | refine ⟨3, _, rfl, ?_⟩ | refine ⟨4, _, rfl, ?_⟩ | refine ⟨5, _, rfl, ?_⟩ | refine ⟨6, _, rfl, ?_⟩ | refine ⟨7, _, rfl, ?_⟩ | refine ⟨8, _, rfl, ?_⟩ | refine ⟨9, _, rfl, ?_⟩); first | refine .inl ⟨_, one_any2 rfl, rfl, _, (by simp only [Act.put, List.setIfInBounds_toArray, List.set_cons_zero, List.set_cons_succ]; first | done | exact rfl), ?_⟩ | refine .inr ⟨_, _, row_any2 rfl, rfl, (by dsimp only [cutL, List.drop, List.take]; first | done | exact rfl), _, (by simp only [Act.put, List.setIfInBounds_toArray, List.set_cons_zero, List.set_cons_succ]; first | done | exact rfl), ?_⟩) | (refine wpx_st hS rfl _ _ _ rfl rfl _ _ rfl ?_; (first | refine ⟨0, _, rfl, ?_⟩ | refine ⟨1, _, rfl, ?_⟩ | refine ⟨2, _, rfl, ?_⟩ | refine ⟨3, _, rfl, ?_⟩ | refine ⟨4, _, rfl, ?_⟩ | refine ⟨5, _, rfl, ?_⟩ | refine ⟨6, _, rfl, ?_⟩ | refine ⟨7, _, rfl, ?_⟩ | refine ⟨8, _, rfl, ?_⟩ | refine ⟨9, _, rfl, ?_⟩); refine ⟨_, (by first | exact shA rfl | exact shI rfl | exact shB rfl | exact shS rfl | exact shP rfl | exact shF rfl | exact shN rfl), _, siz_any2 rfl, (by exact rfl), (by exact rfl), (by exact rfl), ?_⟩; clear hS; intro _ hS; dsimp only [blit, List.set, List.cons_append, List.nil_append, Value.cells, List.toList_toArray] at hS))
  refine (tUnpack_any M.l.old _ (unhide HO)).mono ?_
  rintro r u ⟨rfl, hb⟩
  replace hS := hS.call hb
  clear hb
  have hp2 : decide (0 ≤ Um.penN M.l.old) = true := decide_eq_true (unhide HPN)
  go_wp2_with (first | (refine wpx_box hS rfl _ _ rfl _ rfl _ (by intro _; simp only [Act.put, List.setIfInBounds_toArray, List.set_cons_zero, List.set_cons_succ]; first | done | exact rfl) ?_; clear hS; intro _ _ hS; dsimp only [blit, List.set, List.cons_append, List.nil_append, Value.cells, List.toList_toArray] at hS) | (refine wpx_alloc hS rfl _ rfl _ (zer_any2 rfl) _ (by intro _; simp only [Act.put, List.setIfInBounds_toArray, List.set_cons_zero, List.set_cons_succ]; first | done | exact rfl) ?_; clear hS; intro _ _ hS; dsimp only [blit, List.set, List.cons_append, List.nil_append, Value.cells, List.toList_toArray] at hS) | (refine wpx_ld hS rfl _ _ rfl _ _ rfl ?_; (first | refine ⟨0, _, rfl, ?_⟩ | refine ⟨1, _, rfl, ?_⟩ | refine ⟨2, _, rfl, ?_⟩ | refine ⟨3, _, rfl, ?_⟩ | refine ⟨4, _, rfl, ?_⟩ | refine ⟨5, _, rfl, ?_⟩ | refine ⟨6, _, rfl, ?_⟩ | refine ⟨7, _, rfl, ?_⟩ | refine ⟨8, _, rfl, ?_⟩ | refine ⟨9, _, rfl, ?_⟩); first | refine .inl ⟨_, one_any2 rfl, rfl, _, (by simp only [Act.put, List.setIfInBounds_toArray, List.set_cons_zero, List.set_cons_succ]; first | done | exact rfl), ?_⟩ | refine .inr ⟨_, _, row_any2 rfl, rfl, (by dsimp only [cutL, List.drop, List.take]; first | done | exact rfl), _, (by simp only [Act.put, List.setIfInBounds_toArray, List.set_cons_zero, List.set_cons_succ]; first | done | exact rfl), ?_⟩) | (refine wpx_st hS rfl _ _ _ rfl rfl _ _ rfl ?_; (first | refine ⟨0, _, rfl, ?_⟩ | refine ⟨1, _, rfl, ?_⟩ | refine ⟨2, _, rfl, ?_⟩ | refine ⟨3, _, rfl, ?_⟩ | refine ⟨4, _, rfl, ?_⟩ | refine ⟨5, _, rfl, ?_⟩ | refine ⟨6, _, rfl, ?_⟩ | refine ⟨7, _, rfl, ?_⟩ | refine ⟨8, _, rfl, ?_⟩ | refine ⟨9, _, rfl, ?_⟩); refine ⟨_, (by first | exact shA rfl | exact shI rfl | exact shB rfl | exact shS rfl | exact shP rfl | exact shF rfl | exact shN rfl), _, siz_any2 rfl, (by exact rfl), (by exact rfl), (by exact rfl), ?_⟩; clear hS; intro _ hS; dsimp only [blit, List.set, List.cons_append, List.nil_append, Value.cells, List.toList_toArray] at hS))
  refine (hNew_0 hS (unhide HO) (unhide HPN)).mono ?_
  rintro r u ⟨H, rfl, hSn⟩
  clear hS
  have hS := hSn
  clear hSn
  dsimp only [putL, List.set, List.cons_append, List.nil_append] at hS
  go_wp2_with (first | (refine wpx_box hS rfl _ _ rfl _ rfl _ (by intro _; simp only [Act.put, List.setIfInBounds_toArray, List.set_cons_zero, List.set_cons_succ]; first | done | exact rfl) ?_; clear hS; intro _ _ hS; dsimp only [blit, List.set, List.cons_append, List.nil_append, Value.cells, List.toList_toArray] at hS) | (refine wpx_alloc hS rfl _ rfl _ (zer_any2 rfl) _ (by intro _; simp only [Act.put, List.setIfInBounds_toArray, List.set_cons_zero, List.set_cons_succ]; first | done | exact rfl) ?_; clear hS; intro _ _ hS; dsimp only [blit, List.set, List.cons_append, List.nil_append, Value.cells, List.toList_toArray] at hS) | (refine wpx_ld hS rfl _ _ rfl _ _ rfl ?_; (first | refine ⟨0, _, rfl, ?_⟩ | refine ⟨1, _, rfl, ?_⟩ | refine ⟨2, _, rfl, ?_⟩ | refine ⟨3, _, rfl, ?_⟩ | refine ⟨4, _, rfl, ?_⟩ | refine ⟨5, _, rfl, ?_⟩ | refine ⟨6, _, rfl, ?_⟩ | refine ⟨7, _, rfl, ?_⟩ | refine ⟨8, _, rfl, ?_⟩ | refine ⟨9, _, rfl, ?_⟩); first | refine .inl ⟨_, one_any2 rfl, rfl, _, (by simp only [Act.put, List.setIfInBounds_toArray, List.set_cons_zero, List.set_cons_succ]; first | done | exact rfl), ?_⟩ | refine .inr ⟨_, _, row_any2 rfl, rfl, (by dsimp only [cutL, List.drop, List.take]; first | done | exact rfl), _, (by simp only [Act.put, List.setIfInBounds_toArray, List.set_cons_zero, List.set_cons_succ]; first | done | exact rfl), ?_⟩) | (refine wpx_st hS rfl _ _ _ rfl rfl _ _ rfl ?_; (first | refine ⟨0, _, rfl, ?_⟩ | refine ⟨1, _, rfl, ?_⟩ | refine ⟨2, _, rfl, ?_⟩ | refine ⟨3, _, rfl, ?_⟩ | refine ⟨4, _, rfl, ?_⟩ | refine ⟨5, _, rfl, ?_⟩ | refine ⟨6, _, rfl, ?_⟩ | refine ⟨7, _, rfl, ?_⟩ | refine ⟨8, _, rfl, ?_⟩ | refine ⟨9, _, rfl, ?_⟩); refine ⟨_, (by first | exact shA rfl | exact shI rfl | exact shB rfl | exact shS rfl | exact shP rfl | exact shF rfl | exact shN rfl), _, siz_any2 rfl, (by exact rfl), (by exact rfl), (by exact rfl), ?_⟩; clear hS; intro _ hS; dsimp only [blit, List.set, List.cons_append, List.nil_append, Value.cells, List.toList_toArray] at hS))
  first | go_end0 | ((try simp only [Exit.inBlock, Exit.then]); refine bodyPost_ret (results_none rfl _ _ _) rfl ?_)
  have hH := hS.get 4 rfl
  have n0 := hS.ne 0 4 rfl rfl (by decide)
  have n1 := hS.ne 1 4 rfl rfl (by decide)
  have n2 := hS.ne 2 4 rfl rfl (by decide)
  refine ⟨H, rfl, unhide HW6, (unhide HS).more ((unhide HS).back3 i j k (unhide HI).1 (unhide HI).2.1 (unhide HI).2.2 hS) (putL_fst _ _ ?_) hH ((hS.low _ (List.mem_of_getElem? (i := 4) rfl)).resolve_left ?_)⟩
  · intro u hu
    rcases (by simpa using hu : u = (i, B, _) ∨ u = (j, C, _) ∨ u = (k, P, _)) with rfl | rfl | rfl
    · exact ⟨_, (unhide HI).1⟩
    · exact ⟨_, (unhide HI).2.1⟩
    · exact ⟨_, (unhide HI).2.2⟩
  · simp [n0.symm, n1.symm, n2.symm]

set_option maxHeartbeats 4000000 in
theorem oTally_n (hS : Sx bs w0 w l e) (i j k : Nat) (hi : l[i]? = some (B, memL c C m)) (hj : l[j]? = some (C, rowW m.ws c.n)) (hk : l[k]? = some (P, [.func (.func 61) #[] #[.pointer (some ⟨K, 0, none⟩)], .int .i64 sl, .int .u64 (s : Nat), .int .u64 (q : Nat), .pointer nt, .func (.func 78) #[.pointer (some ⟨P, 0, none⟩)] #[], .int .i64 te, .int .u64 (th : Nat), .int .u64 (tn : Nat)])) (hij : i ≠ j) (hik : i ≠ k) (hjk : j ≠ k) (hr : c.r = true) (hw : WordsOk c m) (h0 : 0 ≤ sl) (h1 : sl ≤ 20) (M : Um.Mm) (hM : M = Um.mtouch c m 1 1 0 0 0) (hp : ¬ 0 ≤ Um.penN M.l.old) :
    Calls Try.prog 78 #[.pointer (some ⟨P, 0, none⟩), .pointer (some ⟨B, 0, none⟩)] w fun r w' => r = .returned (.tuple #[]) ∧ WordsOk c M ∧ Sx bs w0 w' (putL l [(i, B, memL c C M), (j, C, rowW M.ws c.n), (k, P, [.func (.func 61) #[] #[.pointer (some ⟨K, 0, none⟩)], .int .i64 sl, .int .u64 (s : Nat), .int .u64 ((Um.seqN M.l.old) : Nat), .pointer nt, .func (.func 87) #[.pointer (some ⟨P, 0, none⟩)] #[], .int .i64 te, .int .u64 (th : Nat), .int .u64 (tn : Nat)])]) e := by
  have HO := hide (show Um.Word (Um.mtouch c m 1 1 0 0 0).l.old from Um.old_word hw)
  rw [← hM] at HO
  have HS := hide hS
  have HI := hide (And.intro hi (And.intro hj hk))
  have hL := hS.enter3 i j k hi hj hk hij hik hjk
  have HR := hide hr
  have HW := hide hw
  have HM := hide hM
  have HBD := hide (show -9223372036854775808 ≤ sl ∧ sl ≤ 9223372036854775807 by omega)
  have HPN := hide hp
  clear hS hi hj hk hr hw hM hp
  have hS := hL
  clear hL
  go_enter Try.func78, Try.ntmps78
  go_wp2_with fail
  refine (mLoad_x hS 0 1 rfl rfl (by decide) (unhide HR) (unhide HW) 1 0 (by decide) (by decide) M (unhide HM)).mono ?_
  rintro r u ⟨rfl, hWn, hSn⟩
  clear hS
  have hS := hSn
  clear hSn
  dsimp only [putL, List.set, List.cons_append, List.nil_append] at hS
  have HW6 := hide hWn
  clear hWn
  go_wp2_with (first | (refine wpx_box hS rfl _ _ rfl _ rfl _ (by intro _; simp only [Act.put, List.setIfInBounds_toArray, List.set_cons_zero, List.set_cons_succ]; first | done | exact rfl) ?_; clear hS; intro _ _ hS; dsimp only [blit, List.set, List.cons_append, List.nil_append, Value.cells, List.toList_toArray] at hS) | (refine wpx_alloc hS rfl _ rfl _ (zer_any2 rfl) _ (by intro _; simp only [Act.put, List.setIfInBounds_toArray, List.set_cons_zero, List.set_cons_succ]; first | done | exact rfl) ?_; clear hS; intro _ _ hS; dsimp only [blit, List.set, List.cons_append, List.nil_append, Value.cells, List.toList_toArray] at hS) | (refine wpx_ld hS rfl _ _ rfl _ _ rfl ?_; (first | refine ⟨0, _, rfl, ?_⟩ | refine ⟨1, _, rfl, ?_⟩ | refine ⟨2, _, rfl, ?_⟩ | refine ⟨3, _, rfl, ?_⟩ | refine ⟨4, _, rfl, ?_⟩ | refine ⟨5, _, rfl, ?_⟩ | refine ⟨6, _, rfl, ?_⟩ | refine ⟨7, _, rfl, ?_⟩ | refine ⟨8, _, rfl, ?_⟩ | refine ⟨9, _, rfl, ?_⟩); first | refine .inl ⟨_, one_any2 rfl, rfl, _, (by simp only [Act.put, List.setIfInBounds_toArray, List.set_cons_zero, List.set_cons_succ]; first | done | exact rfl), ?_⟩ | refine .inr ⟨_, _, row_any2 rfl, rfl, (by dsimp only [cutL, List.drop, List.take]; first | done | exact rfl), _, (by simp only [Act.put, List.setIfInBounds_toArray, List.set_cons_zero, List.set_cons_succ]; first | done | exact rfl), ?_⟩) | (refine wpx_st hS rfl _ _ _ rfl rfl _ _ rfl ?_; (first | refine ⟨0, _, rfl, ?_⟩ | refine ⟨1, _, rfl, ?_⟩ | refine ⟨2, _, rfl, ?_⟩ | refine ⟨3, _, rfl, ?_⟩ | refine ⟨4, _, rfl, ?_⟩ | refine ⟨5, _, rfl, ?_⟩ | refine ⟨6, _, rfl, ?_⟩ | refine ⟨7, _, rfl, ?_⟩ | refine ⟨8, _, rfl, ?_⟩ | refine ⟨9, _, rfl, ?_⟩); refine ⟨_, (by first | exact shA rfl | exact shI rfl | exact shB rfl | exact shS rfl | exact shP rfl | exact shF rfl | exact shN rfl), _, siz_any2 rfl, (by exact rfl), (by exact rfl), (by exact rfl), ?_⟩; clear hS; intro _ hS; dsimp only [blit, List.set, List.cons_append, List.nil_append, Value.cells, List.toList_toArray] at hS))
  refine (tUnpack_any M.l.old _ (unhide HO)).mono ?_
  rintro r u ⟨rfl, hb⟩
  replace hS := hS.call hb
  clear hb
  have hp2 : decide (0 ≤ Um.penN M.l.old) = false := decide_eq_false (by have := unhide HPN; omega)
  have hp3 := unhide HPN
  go_wp2_with (first | (refine wpx_box hS rfl _ _ rfl _ rfl _ (by intro _; simp only [Act.put, List.setIfInBounds_toArray, List.set_cons_zero, List.set_cons_succ]; first | done | exact rfl) ?_; clear hS; intro _ _ hS; dsimp only [blit, List.set, List.cons_append, List.nil_append, Value.cells, List.toList_toArray] at hS) | (refine wpx_alloc hS rfl _ rfl _ (zer_any2 rfl) _ (by intro _; simp only [Act.put, List.setIfInBounds_toArray, List.set_cons_zero, List.set_cons_succ]; first | done | exact rfl) ?_; clear hS; intro _ _ hS; dsimp only [blit, List.set, List.cons_append, List.nil_append, Value.cells, List.toList_toArray] at hS) | (refine wpx_ld hS rfl _ _ rfl _ _ rfl ?_; (first | refine ⟨0, _, rfl, ?_⟩ | refine ⟨1, _, rfl, ?_⟩ | refine ⟨2, _, rfl, ?_⟩ | refine ⟨3, _, rfl, ?_⟩ | refine ⟨4, _, rfl, ?_⟩ | refine ⟨5, _, rfl, ?_⟩ | refine ⟨6, _, rfl, ?_⟩ | refine ⟨7, _, rfl, ?_⟩ | refine ⟨8, _, rfl, ?_⟩ | refine ⟨9, _, rfl, ?_⟩); first | refine .inl ⟨_, one_any2 rfl, rfl, _, (by simp only [Act.put, List.setIfInBounds_toArray, List.set_cons_zero, List.set_cons_succ]; first | done | exact rfl), ?_⟩ | refine .inr ⟨_, _, row_any2 rfl, rfl, (by dsimp only [cutL, List.drop, List.take]; first | done | exact rfl), _, (by simp only [Act.put, List.setIfInBounds_toArray, List.set_cons_zero, List.set_cons_succ]; first | done | exact rfl), ?_⟩) | (refine wpx_st hS rfl _ _ _ rfl rfl _ _ rfl ?_; (first | refine ⟨0, _, rfl, ?_⟩ | refine ⟨1, _, rfl, ?_⟩ | refine ⟨2, _, rfl, ?_⟩ | refine ⟨3, _, rfl, ?_⟩ | refine ⟨4, _, rfl, ?_⟩ | refine ⟨5, _, rfl, ?_⟩ | refine ⟨6, _, rfl, ?_⟩ | refine ⟨7, _, rfl, ?_⟩ | refine ⟨8, _, rfl, ?_⟩ | refine ⟨9, _, rfl, ?_⟩); refine ⟨_, (by first | exact shA rfl | exact shI rfl | exact shB rfl | exact shS rfl | exact shP rfl | exact shF rfl | exact shN rfl), _, siz_any2 rfl, (by exact rfl), (by exact rfl), (by exact rfl), ?_⟩; clear hS; intro _ hS; dsimp only [blit, List.set, List.cons_append, List.nil_append, Value.cells, List.toList_toArray] at hS))
  first | go_end0 | ((try simp only [Exit.inBlock, Exit.then]); refine bodyPost_ret (results_none rfl _ _ _) rfl ?_)
  exact ⟨rfl, unhide HW6, (unhide HS).back3 i j k (unhide HI).1 (unhide HI).2.1 (unhide HI).2.2 hS⟩

set_option maxHeartbeats 4000000 in
theorem oHelp_t {A x : Nat} (hS : Sx bs w0 w l e) (i j k n : Nat) (h H : Um.Hs) (hH : H = Um.hstep c x h) (hi : l[i]? = some (B, memL c C h.m)) (hj : l[j]? = some (C, rowW h.m.ws c.n)) (hk : l[k]? = some (P, [.func (.func 61) #[] #[.pointer (some ⟨K, 0, none⟩)], .int .i64 sl, .int .u64 (s : Nat), .int .u64 (q : Nat), .pointer (some ⟨A, 0, none⟩), .func (.func 86) #[.pointer (some ⟨P, 0, none⟩)] #[], .int .i64 te, .int .u64 (th : Nat), .int .u64 (tn : Nat)])) (hn : l[n]? = some (A, hlpL x h.s h.nx)) (hij : i ≠ j) (hik : i ≠ k) (hjk : j ≠ k) (hin : i ≠ n) (hjn : j ≠ n) (hkn : k ≠ n) (hr : c.r = true) (ho : HOk c h) (hx : Um.Word x) (h4 : H.nx = 4) :
    Calls Try.prog 86 #[.pointer (some ⟨P, 0, none⟩), .pointer (some ⟨B, 0, none⟩)] w fun r w' => r = .returned (.tuple #[]) ∧ HOk c H ∧ Sx bs w0 w' (putL l [(i, B, memL c C H.m), (j, C, rowW H.m.ws c.n), (k, P, [.func (.func 61) #[] #[.pointer (some ⟨K, 0, none⟩)], .int .i64 sl, .int .u64 (s : Nat), .int .u64 (q : Nat), .pointer (some ⟨A, 0, none⟩), .func (.func 78) #[.pointer (some ⟨P, 0, none⟩)] #[], .int .i64 te, .int .u64 (th : Nat), .int .u64 (tn : Nat)]), (n, A, hlpL x H.s H.nx)]) e := by
  have HS := hide hS
  have HI := hide (And.intro hi (And.intro hj (And.intro hk hn)))
  have hL := hS.enter4 i j k n hi hj hk hn hij hik hjk hin hjn hkn
  have HR := hide hr
  have HO := hide ho
  have HX := hide hx
  have HH := hide hH
  have H4 := hide h4
  clear hS hi hj hk hr ho hx hH h4 hn
  have hS := hL
  clear hL
  go_enter Try.func86, Try.ntmps86
  go_wp2_with (first | (refine wpx_box hS rfl _ _ rfl _ rfl _ (by intro _; simp only [Act.put, List.setIfInBounds_toArray, List.set_cons_zero, List.set_cons_succ]; first | done | exact rfl) ?_; clear hS; intro _ _ hS; dsimp only [blit, List.set, List.cons_append, List.nil_append, Value.cells, List.toList_toArray] at hS) | (refine wpx_alloc hS rfl _ rfl _ (zer_any2 rfl) _ (by intro _; simp only [Act.put, List.setIfInBounds_toArray, List.set_cons_zero, List.set_cons_succ]; first | done | exact rfl) ?_; clear hS; intro _ _ hS; dsimp only [blit, List.set, List.cons_append, List.nil_append, Value.cells, List.toList_toArray] at hS) | (refine wpx_ld hS rfl _ _ rfl _ _ rfl ?_; (first | refine ⟨0, _, rfl, ?_⟩ | refine ⟨1, _, rfl, ?_⟩ | refine ⟨2, _, rfl, ?_⟩ | refine ⟨3, _, rfl, ?_⟩ | refine ⟨4, _, rfl, ?_⟩ | refine ⟨5, _, rfl, ?_⟩ | refine ⟨6, _, rfl, ?_⟩ | refine ⟨7, _, rfl, ?_⟩ | refine ⟨8, _, rfl, ?_⟩ | refine ⟨9, _, rfl, ?_⟩); first | refine .inl ⟨_, one_any2 rfl, rfl, _, (by simp only [Act.put, List.setIfInBounds_toArray, List.set_cons_zero, List.set_cons_succ]; first | done | exact rfl), ?_⟩ | refine .inr ⟨_, _, row_any2 rfl, rfl, (by dsimp only [cutL, List.drop, List.take]; first | done | exact rfl), _, (by simp only [Act.put, List.setIfInBounds_toArray, List.set_cons_zero, List.set_cons_succ]; first | done | exact rfl), ?_⟩) | (refine wpx_st hS rfl _ _ _ rfl rfl _ _ rfl ?_; (first | refine ⟨0, _, rfl, ?_⟩ | refine ⟨1, _, rfl, ?_⟩ | refine ⟨2, _, rfl, ?_⟩ | refine ⟨3, _, rfl, ?_⟩ | refine ⟨4, _, rfl, ?_⟩ | refine ⟨5, _, rfl, ?_⟩ | refine ⟨6, _, rfl, ?_⟩ | refine ⟨7, _, rfl, ?_⟩ | refine ⟨8, _, rfl, ?_⟩ | refine ⟨9, _, rfl, ?_⟩); refine ⟨_, (by first | exact shA rfl | exact shI rfl | exact shB rfl | exact shS rfl | exact shP rfl | exact shF rfl | exact shN rfl), _, siz_any2 rfl, (by exact rfl), (by exact rfl), (by exact rfl), ?_⟩; clear hS; intro _ hS; dsimp only [blit, List.set, List.cons_append, List.nil_append, Value.cells, List.toList_toArray] at hS))
  refine (hStep_any hS 0 1 3 h H (unhide HH) rfl rfl rfl (by decide) (by decide) (by decide) (unhide HR) (unhide HO) (unhide HX)).mono ?_
  rintro r u ⟨rfl, hOn, hSn⟩
  clear hS
  have hS := hSn
  clear hSn
  dsimp only [putL, List.set, List.cons_append, List.nil_append] at hS
  have HO6 := hide hOn
  clear hOn
  go_wp2_with (first | (refine wpx_box hS rfl _ _ rfl _ rfl _ (by intro _; simp only [Act.put, List.setIfInBounds_toArray, List.set_cons_zero, List.set_cons_succ]; first | done | exact rfl) ?_; clear hS; intro _ _ hS; dsimp only [blit, List.set, List.cons_append, List.nil_append, Value.cells, List.toList_toArray] at hS) | (refine wpx_alloc hS rfl _ rfl _ (zer_any2 rfl) _ (by intro _; simp only [Act.put, List.setIfInBounds_toArray, List.set_cons_zero, List.set_cons_succ]; first | done | exact rfl) ?_; clear hS; intro _ _ hS; dsimp only [blit, List.set, List.cons_append, List.nil_append, Value.cells, List.toList_toArray] at hS) | (refine wpx_ld hS rfl _ _ rfl _ _ rfl ?_; (first | refine ⟨0, _, rfl, ?_⟩ | refine ⟨1, _, rfl, ?_⟩ | refine ⟨2, _, rfl, ?_⟩ | refine ⟨3, _, rfl, ?_⟩ | refine ⟨4, _, rfl, ?_⟩ | refine ⟨5, _, rfl, ?_⟩ | refine ⟨6, _, rfl, ?_⟩ | refine ⟨7, _, rfl, ?_⟩ | refine ⟨8, _, rfl, ?_⟩ | refine ⟨9, _, rfl, ?_⟩); first | refine .inl ⟨_, one_any2 rfl, rfl, _, (by simp only [Act.put, List.setIfInBounds_toArray, List.set_cons_zero, List.set_cons_succ]; first | done | exact rfl), ?_⟩ | refine .inr ⟨_, _, row_any2 rfl, rfl, (by dsimp only [cutL, List.drop, List.take]; first | done | exact rfl), _, (by simp only [Act.put, List.setIfInBounds_toArray, List.set_cons_zero, List.set_cons_succ]; first | done | exact rfl), ?_⟩) | (refine wpx_st hS rfl _ _ _ rfl rfl _ _ rfl ?_; (first | refine ⟨0, _, rfl, ?_⟩ | refine ⟨1, _, rfl, ?_⟩ | refine ⟨2, _, rfl, ?_⟩ | refine ⟨3, _, rfl, ?_⟩ | refine ⟨4, _, rfl, ?_⟩ | refine ⟨5, _, rfl, ?_⟩ | refine ⟨6, _, rfl, ?_⟩ | refine ⟨7, _, rfl, ?_⟩ | refine ⟨8, _, rfl, ?_⟩ | refine ⟨9, _, rfl, ?_⟩); refine ⟨_, (by first | exact shA rfl | exact shI rfl | exact shB rfl | exact shS rfl | exact shP rfl | exact shF rfl | exact shN rfl), _, siz_any2 rfl, (by exact rfl), (by exact rfl), (by exact rfl), ?_⟩; clear hS; intro _ hS; dsimp only [blit, List.set, List.cons_append, List.nil_append, Value.cells, List.toList_toArray] at hS))
  refine (hDone_any hS 3 H.nx (unhide HO6).2.2 rfl).mono ?_
  rintro r u ⟨rfl, rfl⟩
  rw [decide_eq_true (unhide H4)]
  go_wp2_with (first | (refine wpx_box hS rfl _ _ rfl _ rfl _ (by intro _; simp only [Act.put, List.setIfInBounds_toArray, List.set_cons_zero, List.set_cons_succ]; first | done | exact rfl) ?_; clear hS; intro _ _ hS; dsimp only [blit, List.set, List.cons_append, List.nil_append, Value.cells, List.toList_toArray] at hS) | (refine wpx_alloc hS rfl _ rfl _ (zer_any2 rfl) _ (by intro _; simp only [Act.put, List.setIfInBounds_toArray, List.set_cons_zero, List.set_cons_succ]; first | done | exact rfl) ?_; clear hS; intro _ _ hS; dsimp only [blit, List.set, List.cons_append, List.nil_append, Value.cells, List.toList_toArray] at hS) | (refine wpx_ld hS rfl _ _ rfl _ _ rfl ?_; (first | refine ⟨0, _, rfl, ?_⟩ | refine ⟨1, _, rfl, ?_⟩ | refine ⟨2, _, rfl, ?_⟩ | refine ⟨3, _, rfl, ?_⟩ | refine ⟨4, _, rfl, ?_⟩ | refine ⟨5, _, rfl, ?_⟩ | refine ⟨6, _, rfl, ?_⟩ | refine ⟨7, _, rfl, ?_⟩ | refine ⟨8, _, rfl, ?_⟩ | refine ⟨9, _, rfl, ?_⟩); first | refine .inl ⟨_, one_any2 rfl, rfl, _, (by simp only [Act.put, List.setIfInBounds_toArray, List.set_cons_zero, List.set_cons_succ]; first | done | exact rfl), ?_⟩ | refine .inr ⟨_, _, row_any2 rfl, rfl, (by dsimp only [cutL, List.drop, List.take]; first | done | exact rfl), _, (by simp only [Act.put, List.setIfInBounds_toArray, List.set_cons_zero, List.set_cons_succ]; first | done | exact rfl), ?_⟩) | (refine wpx_st hS rfl _ _ _ rfl rfl _ _ rfl ?_; (first | refine ⟨0, _, rfl, ?_⟩ | refine ⟨1, _, rfl, ?_⟩ | refine ⟨2, _, rfl, ?_⟩ | refine ⟨3, _, rfl, ?_⟩ | refine ⟨4, _, rfl, ?_⟩ | refine ⟨5, _, rfl, ?_⟩ | refine ⟨6, _, rfl, ?_⟩ | refine ⟨7, _, rfl, ?_⟩ | refine ⟨8, _, rfl, ?_⟩ | refine ⟨9, _, rfl, ?_⟩); refine ⟨_, (by first | exact shA rfl | exact shI rfl | exact shB rfl | exact shS rfl | exact shP rfl | exact shF rfl | exact shN rfl), _, siz_any2 rfl, (by exact rfl), (by exact rfl), (by exact rfl), ?_⟩; clear hS; intro _ hS; dsimp only [blit, List.set, List.cons_append, List.nil_append, Value.cells, List.toList_toArray] at hS))
  first | go_end0 | ((try simp only [Exit.inBlock, Exit.then]); refine bodyPost_ret (results_none rfl _ _ _) rfl ?_)
  exact ⟨rfl, unhide HO6, (unhide HS).back4 i j k n (unhide HI).1 (unhide HI).2.1 (unhide HI).2.2.1 (unhide HI).2.2.2 hS⟩

set_option maxHeartbeats 4000000 in
theorem oHelp_n {A x : Nat} (hS : Sx bs w0 w l e) (i j k n : Nat) (h H : Um.Hs) (hH : H = Um.hstep c x h) (hi : l[i]? = some (B, memL c C h.m)) (hj : l[j]? = some (C, rowW h.m.ws c.n)) (hk : l[k]? = some (P, [.func (.func 61) #[] #[.pointer (some ⟨K, 0, none⟩)], .int .i64 sl, .int .u64 (s : Nat), .int .u64 (q : Nat), .pointer (some ⟨A, 0, none⟩), .func (.func 86) #[.pointer (some ⟨P, 0, none⟩)] #[], .int .i64 te, .int .u64 (th : Nat), .int .u64 (tn : Nat)])) (hn : l[n]? = some (A, hlpL x h.s h.nx)) (hij : i ≠ j) (hik : i ≠ k) (hjk : j ≠ k) (hin : i ≠ n) (hjn : j ≠ n) (hkn : k ≠ n) (hr : c.r = true) (ho : HOk c h) (hx : Um.Word x) (h4 : H.nx ≠ 4) :
    Calls Try.prog 86 #[.pointer (some ⟨P, 0, none⟩), .pointer (some ⟨B, 0, none⟩)] w fun r w' => r = .returned (.tuple #[]) ∧ HOk c H ∧ Sx bs w0 w' (putL l [(i, B, memL c C H.m), (j, C, rowW H.m.ws c.n), (k, P, [.func (.func 61) #[] #[.pointer (some ⟨K, 0, none⟩)], .int .i64 sl, .int .u64 (s : Nat), .int .u64 (q : Nat), .pointer (some ⟨A, 0, none⟩), .func (.func 86) #[.pointer (some ⟨P, 0, none⟩)] #[], .int .i64 te, .int .u64 (th : Nat), .int .u64 (tn : Nat)]), (n, A, hlpL x H.s H.nx)]) e := by
  have HS := hide hS
  have HI := hide (And.intro hi (And.intro hj (And.intro hk hn)))
  have hL := hS.enter4 i j k n hi hj hk hn hij hik hjk hin hjn hkn
  have HR := hide hr
  have HO := hide ho
  have HX := hide hx
  have HH := hide hH
  have H4 := hide h4
  clear hS hi hj hk hr ho hx hH h4 hn
  have hS := hL
  clear hL
  go_enter Try.func86, Try.ntmps86
  go_wp2_with (first | (refine wpx_box hS rfl _ _ rfl _ rfl _ (by intro _; simp only [Act.put, List.setIfInBounds_toArray, List.set_cons_zero, List.set_cons_succ]; first | done | exact rfl) ?_; clear hS; intro _ _ hS; dsimp only [blit, List.set, List.cons_append, List.nil_append, Value.cells, List.toList_toArray] at hS) | (refine wpx_alloc hS rfl _ rfl _ (zer_any2 rfl) _ (by intro _; simp only [Act.put, List.setIfInBounds_toArray, List.set_cons_zero, List.set_cons_succ]; first | done | exact rfl) ?_; clear hS; intro _ _ hS; dsimp only [blit, List.set, List.cons_append, List.nil_append, Value.cells, List.toList_toArray] at hS) | (refine wpx_ld hS rfl _ _ rfl _ _ rfl ?_; (first | refine ⟨0, _, rfl, ?_⟩ | refine ⟨1, _, rfl, ?_⟩ | refine ⟨2, _, rfl, ?_⟩ | refine ⟨3, _, rfl, ?_⟩ | refine ⟨4, _, rfl, ?_⟩ | refine ⟨5, _, rfl, ?_⟩ | refine ⟨6, _, rfl, ?_⟩ | refine ⟨7, _, rfl, ?_⟩ | refine ⟨8, _, rfl, ?_⟩ | refine ⟨9, _, rfl, ?_⟩); first | refine .inl ⟨_, one_any2 rfl, rfl, _, (by simp only [Act.put, List.setIfInBounds_toArray, List.set_cons_zero, List.set_cons_succ]; first | done | exact rfl), ?_⟩ | refine .inr ⟨_, _, row_any2 rfl, rfl, (by dsimp only [cutL, List.drop, List.take]; first | done | exact rfl), _, (by simp only [Act.put, List.setIfInBounds_toArray, List.set_cons_zero, List.set_cons_succ]; first | done | exact rfl), ?_⟩) | (refine wpx_st hS rfl _ _ _ rfl rfl _ _ rfl ?_; (first | refine ⟨0, _, rfl, ?_⟩ | refine ⟨1, _, rfl, ?_⟩ | refine ⟨2, _, rfl, ?_⟩ | refine ⟨3, _, rfl, ?_⟩ | refine ⟨4, _, rfl, ?_⟩ | refine ⟨5, _, rfl, ?_⟩ | refine ⟨6, _, rfl, ?_⟩ | refine ⟨7, _, rfl, ?_⟩ | refine ⟨8, _, rfl, ?_⟩ | refine ⟨9, _, rfl, ?_⟩); refine ⟨_, (by first | exact shA rfl | exact shI rfl | exact shB rfl | exact shS rfl | exact shP rfl | exact shF rfl | exact shN rfl), _, siz_any2 rfl, (by exact rfl), (by exact rfl), (by exact rfl), ?_⟩; clear hS; intro _ hS; dsimp only [blit, List.set, List.cons_append, List.nil_append, Value.cells, List.toList_toArray] at hS))
  refine (hStep_any hS 0 1 3 h H (unhide HH) rfl rfl rfl (by decide) (by decide) (by decide) (unhide HR) (unhide HO) (unhide HX)).mono ?_
  rintro r u ⟨rfl, hOn, hSn⟩
  clear hS
  have hS := hSn
  clear hSn
  dsimp only [putL, List.set, List.cons_append, List.nil_append] at hS
  have HO6 := hide hOn
  clear hOn
  go_wp2_with (first | (refine wpx_box hS rfl _ _ rfl _ rfl _ (by intro _; simp only [Act.put, List.setIfInBounds_toArray, List.set_cons_zero, List.set_cons_succ]; first | done | exact rfl) ?_; clear hS; intro _ _ hS; dsimp only [blit, List.set, List.cons_append, List.nil_append, Value.cells, List.toList_toArray] at hS) | (refine wpx_alloc hS rfl _ rfl _ (zer_any2 rfl) _ (by intro _; simp only [Act.put, List.setIfInBounds_toArray, List.set_cons_zero, List.set_cons_succ]; first | done | exact rfl) ?_; clear hS; intro _ _ hS; dsimp only [blit, List.set, List.cons_append, List.nil_append, Value.cells, List.toList_toArray] at hS) | (refine wpx_ld hS rfl _ _ rfl _ _ rfl ?_; (first | refine ⟨0, _, rfl, ?_⟩ | refine ⟨1, _, rfl, ?_⟩ | refine ⟨2, _, rfl, ?_⟩ | refine ⟨3, _, rfl, ?_⟩ | refine ⟨4, _, rfl, ?_⟩ | refine ⟨5, _, rfl, ?_⟩ | refine ⟨6, _, rfl, ?_⟩ | refine ⟨7, _, rfl, ?_⟩ | refine ⟨8, _, rfl, ?_⟩ | refine ⟨9, _, rfl, ?_⟩); first | refine .inl ⟨_, one_any2 rfl, rfl, _, (by simp only [Act.put, List.setIfInBounds_toArray, List.set_cons_zero, List.set_cons_succ]; first | done | exact rfl), ?_⟩ | refine .inr ⟨_, _, row_any2 rfl, rfl, (by dsimp only [cutL, List.drop, List.take]; first | done | exact rfl), _, (by simp only [Act.put, List.setIfInBounds_toArray, List.set_cons_zero, List.set_cons_succ]; first | done | exact rfl), ?_⟩) | (refine wpx_st hS rfl _ _ _ rfl rfl _ _ rfl ?_; (first | refine ⟨0, _, rfl, ?_⟩ | refine ⟨1, _, rfl, ?_⟩ | refine ⟨2, _, rfl, ?_⟩ | refine ⟨3, _, rfl, ?_⟩ | refine ⟨4, _, rfl, ?_⟩ | refine ⟨5, _, rfl, ?_⟩ | refine ⟨6, _, rfl, ?_⟩ | refine ⟨7, _, rfl, ?_⟩ | refine ⟨8, _, rfl, ?_⟩ | refine ⟨9, _, rfl, ?_⟩); refine ⟨_, (by first | exact shA rfl | exact shI rfl | exact shB rfl | exact shS rfl | exact shP rfl | exact shF rfl | exact shN rfl), _, siz_any2 rfl, (by exact rfl), (by exact rfl), (by exact rfl), ?_⟩; clear hS; intro _ hS; dsimp only [blit, List.set, List.cons_append, List.nil_append, Value.cells, List.toList_toArray] at hS))
  refine (hDone_any hS 3 H.nx (unhide HO6).2.2 rfl).mono ?_
  rintro r u ⟨rfl, rfl⟩
  rw [decide_eq_false (unhide H4)]
  go_wp2_with fail
  first | go_end0 | ((try simp only [Exit.inBlock, Exit.then]); refine bodyPost_ret (results_none rfl _ _ _) rfl ?_)
  exact ⟨rfl, unhide HO6, (unhide HS).back4 i j k n (unhide HI).1 (unhide HI).2.1 (unhide HI).2.2.1 (unhide HI).2.2.2 hS⟩

set_option maxHeartbeats 4000000 in
theorem oNote_x (hS : Sx bs w0 w l e) (i j k : Nat) (hi : l[i]? = some (B, memL c C m)) (hj : l[j]? = some (C, rowW m.ws c.n)) (hk : l[k]? = some (P, [.func (.func 61) #[] #[.pointer (some ⟨K, 0, none⟩)], .int .i64 sl, .int .u64 (s : Nat), .int .u64 (q : Nat), .pointer nt, .func (.func 87) #[.pointer (some ⟨P, 0, none⟩)] #[], .int .i64 te, .int .u64 (th : Nat), .int .u64 (tn : Nat)])) (hij : i ≠ j) (hik : i ≠ k) (hjk : j ≠ k) (hr : c.r = true) (hw : WordsOk c m) (h0 : 0 ≤ sl) (h1 : sl ≤ 20) (M : Um.Mm) (hM : M = Um.mtouch c m 2 5 sl 0 q) (hq : Um.Word q) :
    Calls Try.prog 87 #[.pointer (some ⟨P, 0, none⟩), .pointer (some ⟨B, 0, none⟩)] w fun r w' => r = .returned (.tuple #[]) ∧ WordsOk c M ∧ Sx bs w0 w' (putL l [(i, B, memL c C M), (j, C, rowW M.ws c.n), (k, P, [.func (.func 61) #[] #[.pointer (some ⟨K, 0, none⟩)], .int .i64 sl, .int .u64 (s : Nat), .int .u64 (q : Nat), .pointer nt, .func (.func 92) #[.pointer (some ⟨P, 0, none⟩)] #[], .int .i64 te, .int .u64 (th : Nat), .int .u64 (tn : Nat)])]) e := by
  have HS := hide hS
  have HI := hide (And.intro hi (And.intro hj hk))
  have hL := hS.enter3 i j k hi hj hk hij hik hjk
  have HR := hide hr
  have HW := hide hw
  have HM := hide hM
  have HBD := hide (show -9223372036854775808 ≤ sl ∧ sl ≤ 9223372036854775807 by omega)
  have HQW := hide hq
  clear hS hi hj hk hr hw hM hq
  have hS := hL
  clear hL
  have k3 := fun w' (h : BlkAt w' P [.func (.func 61) #[] #[.pointer (some ⟨K, 0, none⟩)], .int .i64 sl, .int .u64 (s : Nat), .int .u64 (q : Nat), .pointer nt, .func (.func 87) #[.pointer (some ⟨P, 0, none⟩)] #[], .int .i64 te, .int .u64 (th : Nat), .int .u64 (tn : Nat)]) => h.cell 3 _ rfl
  have HP := hide (hS.get 2 rfl)
  go_enter Try.func87, Try.ntmps87
  go_wp2_with fail
  have HS3 := hide hS
  clear hS
  go_region_held3 (fun w' => BlkAt w' P [.func (.func 61) #[] #[.pointer (some ⟨K, 0, none⟩)], .int .i64 sl, .int .u64 (s : Nat), .int .u64 (q : Nat), .pointer nt, .func (.func 87) #[.pointer (some ⟨P, 0, none⟩)] #[], .int .i64 te, .int .u64 (th : Nat), .int .u64 (tn : Nat)]) (first | exact (unhide HP).drew | exact BlkAt.below (by assumption) (by assumption) | assumption) (first | (go_at_call 62; refine (oSpot_any (by assumption) _).mono ?_; rintro e u5 ⟨rfl, hb5⟩) | (go_at_call 28; refine (mStore_x ((unhide HS3).undrew hb5) 0 1 rfl rfl (by decide) (unhide HR) (unhide HW) 5 sl q (unhide HQW) (unhide HBD).1 (unhide HBD).2 M (unhide HM)).mono ?_; rintro e u7 ⟨rfl, hW6, hS6⟩; have hP6 := hS6.get 2 rfl))
  have hS := hS6
  have HW6 := hide hW6
  clear hS6 hP6 hW6 k3 HS3 HP
  dsimp only [putL, List.set] at hS
  go_wp2_with (first | (refine wpx_box hS rfl _ _ rfl _ rfl _ (by intro _; simp only [Act.put, List.setIfInBounds_toArray, List.set_cons_zero, List.set_cons_succ]; first | done | exact rfl) ?_; clear hS; intro _ _ hS; dsimp only [blit, List.set, List.cons_append, List.nil_append, Value.cells, List.toList_toArray] at hS) | (refine wpx_alloc hS rfl _ rfl _ (zer_any2 rfl) _ (by intro _; simp only [Act.put, List.setIfInBounds_toArray, List.set_cons_zero, List.set_cons_succ]; first | done | exact rfl) ?_; clear hS; intro _ _ hS; dsimp only [blit, List.set, List.cons_append, List.nil_append, Value.cells, List.toList_toArray] at hS) | (refine wpx_ld hS rfl _ _ rfl _ _ rfl ?_; (first | refine ⟨0, _, rfl, ?_⟩ | refine ⟨1, _, rfl, ?_⟩ | refine ⟨2, _, rfl, ?_⟩ | refine ⟨3, _, rfl, ?_⟩ | refine ⟨4, _, rfl, ?_⟩ | refine ⟨5, _, rfl, ?_⟩ | refine ⟨6, _, rfl, ?_⟩ | refine ⟨7, _, rfl, ?_⟩ | refine ⟨8, _, rfl, ?_⟩ | refine ⟨9, _, rfl, ?_⟩); first | refine .inl ⟨_, one_any2 rfl, rfl, _, (by simp only [Act.put, List.setIfInBounds_toArray, List.set_cons_zero, List.set_cons_succ]; first | done | exact rfl), ?_⟩ | refine .inr ⟨_, _, row_any2 rfl, rfl, (by dsimp only [cutL, List.drop, List.take]; first | done | exact rfl), _, (by simp only [Act.put, List.setIfInBounds_toArray, List.set_cons_zero, List.set_cons_succ]; first | done | exact rfl), ?_⟩) | (refine wpx_st hS rfl _ _ _ rfl rfl _ _ rfl ?_; (first | refine ⟨0, _, rfl, ?_⟩ | refine ⟨1, _, rfl, ?_⟩ | refine ⟨2, _, rfl, ?_⟩ | refine ⟨3, _, rfl, ?_⟩ | refine ⟨4, _, rfl, ?_⟩ | refine ⟨5, _, rfl, ?_⟩ | refine ⟨6, _, rfl, ?_⟩ | refine ⟨7, _, rfl, ?_⟩ | refine ⟨8, _, rfl, ?_⟩ | refine ⟨9, _, rfl, ?_⟩); refine ⟨_, (by first | exact shA rfl | exact shI rfl | exact shB rfl | exact shS rfl | exact shP rfl | exact shF rfl | exact shN rfl), _, siz_any2 rfl, (by exact rfl), (by exact rfl), (by exact rfl), ?_⟩; clear hS; intro _ hS; dsimp only [blit, List.set, List.cons_append, List.nil_append, Value.cells, List.toList_toArray] at hS))
  first | go_end0 | ((try simp only [Exit.inBlock, Exit.then]); refine bodyPost_ret (results_none rfl _ _ _) rfl ?_)
  exact ⟨rfl, unhide HW6, (unhide HS).back3 i j k (unhide HI).1 (unhide HI).2.1 (unhide HI).2.2 hS⟩

set_option maxHeartbeats 4000000 in
theorem oStart_x (hS : Sx bs w0 w l e) (i j k : Nat) (hi : l[i]? = some (B, memL c C m)) (hj : l[j]? = some (C, rowW m.ws c.n)) (hk : l[k]? = some (P, [.func (.func 61) #[] #[.pointer (some ⟨K, 0, none⟩)], .int .i64 sl, .int .u64 (s : Nat), .int .u64 (q : Nat), .pointer nt, .func (.func 92) #[.pointer (some ⟨P, 0, none⟩)] #[], .int .i64 te, .int .u64 (th : Nat), .int .u64 (tn : Nat)])) (hij : i ≠ j) (hik : i ≠ k) (hjk : j ≠ k) (hr : c.r = true) (hw : WordsOk c m) (h0 : 0 ≤ sl) (h1 : sl ≤ 20) (M : Um.Mm) (hM : M = Um.mtouch c m 2 4 sl 0 (Um.moveN s 2 false)) (hs : Um.Word s) :
    Calls Try.prog 92 #[.pointer (some ⟨P, 0, none⟩), .pointer (some ⟨B, 0, none⟩)] w fun r w' => r = .returned (.tuple #[]) ∧ WordsOk c M ∧ Sx bs w0 w' (putL l [(i, B, memL c C M), (j, C, rowW M.ws c.n), (k, P, [.func (.func 61) #[] #[.pointer (some ⟨K, 0, none⟩)], .int .i64 sl, .int .u64 (s : Nat), .int .u64 (q : Nat), .pointer nt, .nilFunc, .int .i64 0, .int .u64 (Um.mkN sl (Um.gnN s) : Nat), .int .u64 (q : Nat)])]) e := by
  have HS := hide hS
  have HI := hide (And.intro hi (And.intro hj hk))
  have hL := hS.enter3 i j k hi hj hk hij hik hjk
  have HR := hide hr
  have HW := hide hw
  have HM := hide hM
  have HBD := hide (show -9223372036854775808 ≤ sl ∧ sl ≤ 9223372036854775807 by omega)
  have HSW := hide hs
  clear hS hi hj hk hr hw hM hs
  have hS := hL
  clear hL
  have hf0 := field_stat0
  have k2 := fun w' (h : BlkAt w' P [.func (.func 61) #[] #[.pointer (some ⟨K, 0, none⟩)], .int .i64 sl, .int .u64 (s : Nat), .int .u64 (q : Nat), .pointer nt, .func (.func 92) #[.pointer (some ⟨P, 0, none⟩)] #[], .int .i64 te, .int .u64 (th : Nat), .int .u64 (tn : Nat)]) => h.cell 2 _ rfl
  have HP := hide (hS.get 2 rfl)
  go_enter Try.func92, Try.ntmps92
  go_wp2_with fail
  have HS3 := hide hS
  clear hS
  go_region_held3 (fun w' => BlkAt w' P [.func (.func 61) #[] #[.pointer (some ⟨K, 0, none⟩)], .int .i64 sl, .int .u64 (s : Nat), .int .u64 (q : Nat), .pointer nt, .func (.func 92) #[.pointer (some ⟨P, 0, none⟩)] #[], .int .i64 te, .int .u64 (th : Nat), .int .u64 (tn : Nat)]) (first | exact (unhide HP).drew | exact BlkAt.below (by assumption) (by assumption) | assumption) (first | (go_at_call 62; refine (oSpot_any (by assumption) _).mono ?_; rintro e u5 ⟨rfl, hb5⟩) | (go_at_call 77; refine (move2_b s _ (unhide HSW)).mono ?_; rintro e u6 ⟨rfl, hb6⟩) | (go_at_call 28; refine (mStore_x (((unhide HS3).undrew hb5).call hb6) 0 1 rfl rfl (by decide) (unhide HR) (unhide HW) 4 sl (Um.moveN s 2 false) (Um.move_word (unhide HSW) (by decide)) (unhide HBD).1 (unhide HBD).2 M (unhide HM)).mono ?_; rintro e u7 ⟨rfl, hW6, hS6⟩; have hP6 := hS6.get 2 rfl))
  have hS := hS6
  have HW6 := hide hW6
  clear hS6 hP6 hW6 k2 HS3 HP
  dsimp only [putL, List.set] at hS
  go_wp2_with fail
  obtain ⟨u, rfl⟩ := nameW hS
  have kA := cell_regrown ((hS.get 2 rfl).cell 1 _ rfl)
  have kB := cell_regrown ((hS.get 2 rfl).cell 2 _ rfl)
  have HSQ := hide hS
  clear hS
  refine wp_region_quiet_below (by kernel_rfl) (by kernel_rfl) ?_
  repeat (go_big_quiet_step (first | (go_at_call 63; exact Calls.regrown_of (unpack_any s _ (unhide HSW))) | (go_at_call 95; exact Calls.regrown_of (makeF_b sl _ _))))
  refine wpQuiet_nil ?_
  intro _ hw'
  obtain ⟨⟨dq, osq⟩, hw''⟩ := hw'
  subst hw''
  have hS := (unhide HSQ).call (below_regrown u dq osq)
  clear HSQ kA kB
  generalize grow (redrawn u dq) osq = u9 at *
  go_wp2_with (first | (refine wpx_box hS rfl _ _ rfl _ rfl _ (by intro _; simp only [Act.put, List.setIfInBounds_toArray, List.set_cons_zero, List.set_cons_succ]; first | done | exact rfl) ?_; clear hS; intro _ _ hS; dsimp only [blit, List.set, List.cons_append, List.nil_append, Value.cells, List.toList_toArray] at hS) | (refine wpx_alloc hS rfl _ rfl _ (zer_any2 rfl) _ (by intro _; simp only [Act.put, List.setIfInBounds_toArray, List.set_cons_zero, List.set_cons_succ]; first | done | exact rfl) ?_; clear hS; intro _ _ hS; dsimp only [blit, List.set, List.cons_append, List.nil_append, Value.cells, List.toList_toArray] at hS) | (refine wpx_ld hS rfl _ _ rfl _ _ rfl ?_; (first | refine ⟨0, _, rfl, ?_⟩ | refine ⟨1, _, rfl, ?_⟩ | refine ⟨2, _, rfl, ?_⟩ | refine ⟨3, _, rfl, ?_⟩ | refine ⟨4, _, rfl, ?_⟩ | refine ⟨5, _, rfl, ?_⟩ | refine ⟨6, _, rfl, ?_⟩ | refine ⟨7, _, rfl, ?_⟩ | refine ⟨8, _, rfl, ?_⟩ | refine ⟨9, _, rfl, ?_⟩); first | refine .inl ⟨_, one_any2 rfl, rfl, _, (by simp only [Act.put, List.setIfInBounds_toArray, List.set_cons_zero, List.set_cons_succ]; first | done | exact rfl), ?_⟩ | refine .inr ⟨_, _, row_any2 rfl, rfl, (by dsimp only [cutL, List.drop, List.take]; first | done | exact rfl), _, (by simp only [Act.put, List.setIfInBounds_toArray, List.set_cons_zero, List.set_cons_succ]; first | done | exact rfl), ?_⟩) | (refine wpx_st hS rfl _ _ _ rfl rfl _ _ rfl ?_; (first | refine ⟨0, _, rfl, ?_⟩ | refine ⟨1, _, rfl, ?_⟩ | refine ⟨2, _, rfl, ?_⟩ | refine ⟨3, _, rfl, ?_⟩ | refine ⟨4, _, rfl, ?_⟩ | refine ⟨5, _, rfl, ?_⟩ | refine ⟨6, _, rfl, ?_⟩ | refine ⟨7, _, rfl, ?_⟩ | refine ⟨8, _, rfl, ?_⟩ | refine ⟨9, _, rfl, ?_⟩); refine ⟨_, (by first | exact shA rfl | exact shI rfl | exact shB rfl | exact shS rfl | exact shP rfl | exact shF rfl | exact shN rfl), _, siz_any2 rfl, (by exact rfl), (by exact rfl), (by exact rfl), ?_⟩; clear hS; intro _ hS; dsimp only [blit, List.set, List.cons_append, List.nil_append, Value.cells, List.toList_toArray] at hS))
  refine (oEnd_x hS 2 rfl 0 (Um.mkN sl (Um.gnN s)) q).mono ?_
  rintro r u ⟨rfl, hSn⟩
  clear hS
  have hS := hSn
  clear hSn
  dsimp only [putL, List.set, List.cons_append, List.nil_append] at hS
  go_wp2_with fail
  first | go_end0 | ((try simp only [Exit.inBlock, Exit.then]); refine bodyPost_ret (results_none rfl _ _ _) rfl ?_)
  exact ⟨rfl, unhide HW6, (unhide HS).back3 i j k (unhide HI).1 (unhide HI).2.1 (unhide HI).2.2 hS⟩

end

end Go.Proofs.Ytkiaogbddfjkkaa

/-
  Plain arithmetic of layer 8: alone, of the Tally's own word. No Go in sight.
-/
namespace Um
set_option maxRecDepth 100000

theorem alone_math {c : Cf} (hr : c.r = true) (m0 : Mm) (sl : Int) (hp0 : 0 ≤ sl) (hp1 : sl < c.s) (h60 : m0.ws 0 < 1152921504606846976) (hw : ∀ i, i < c.n → Word (m0.ws i))
    (x : Nat) (hx : x = m0.ws 0 / 16 * 16 + sl.toNat + 1) (ms : Mm) (hms : ms = mtouch c m0 2 1 0 0 x) (m1 : Mm) (hm1 : m1 = mtouch c ms 1 4 sl 0 0) (m2 : Mm) (hm2 : m2 = mtouch c m1 1 6 sl 0 0) (H : Hs) (hH : H = hit c x ⟨m2, hfst x, 0⟩ 20)
    (m3 : Mm) (hm3 : m3 = mtouch c H.m 1 4 sl 0 0) (m4 : Mm) (hm4 : m4 = mtouch c m3 1 6 sl 0 0) (m5 : Mm) (hm5 : m5 = mtouch c m4 1 1 0 0 0) :
    Word x ∧ Word m1.l.old ∧ (hit c x ⟨m2, hfst x, 0⟩ 4).nx = 4 ∧ H.nx = 4 ∧ m3.l.old = (if stN m1.l.old = 3 then comN m1.l.old else m1.l.old) ∧ m4.l.old = (if m2.l.old = 0 then seqN x else m2.l.old) ∧ m5.l.old = setlN x := by
  have hb := c.rb hr
  have hpen : penN x = sl := by unfold penN; omega
  have hxw : Word x := by unfold Word; omega
  obtain ⟨hi1, hi2⟩ := iS_pos hr (x := x) (by omega) (by omega)
  have hS : iS c x = c.cl 4 sl := by unfold iS; rw [hpen]
  have hN : iN c x = c.cl 6 sl := by unfold iN; rw [hpen]
  have hs0 : ms.ws 0 = x := by
    rw [hms, touch_hit (p := 0) (cl_tally hr)]
    show putW m0.ws 0 (trn 2 0 x (m0.ws 0)) 0 = x
    rw [putW_same]
    rfl
  have hw1 : m1.ws = ms.ws := by rw [hm1]; exact load_ws c ms 4 sl
  have hw2 : m2.ws = ms.ws := by rw [hm2]; exact (load_ws c m1 6 sl).trans hw1
  have hw3 : m3.ws = H.m.ws := by rw [hm3]; exact load_ws c H.m 4 sl
  have hw4 : m4.ws = H.m.ws := by rw [hm4]; exact (load_ws c m3 6 sl).trans hw3
  have hE := hit_ends hr (h := ⟨m2, hfst x, 0⟩) (mix_refl c x m2.ws) (knows_new hr x m2 0) (k := 20) (by decide)
  rw [← hH, hw2] at hE
  have ho1 : m1.l.old = ms.ws (iS c x).toNat := by rw [hm1, load_old, ← hS, if_pos (by omega)]
  have ho2 : m2.l.old = ms.ws (iN c x).toNat := by rw [hm2, load_old, ← hN, if_pos (by omega), hw1]
  have ho3 : m3.l.old = H.m.ws (iS c x).toNat := by rw [hm3, load_old, ← hS, if_pos (by omega)]
  have ho4 : m4.l.old = H.m.ws (iN c x).toNat := by rw [hm4, load_old, ← hN, if_pos (by omega), hw3]
  have ho5 : m5.l.old = H.m.ws 0 := by rw [hm5, load_old, cl_tally hr, if_pos (by decide), hw4]; rfl
  refine ⟨hxw, ?_, alone4 x m2 0 (by omega), hE.1, ?_, ?_, ?_⟩
  · rw [hm1]
    exact old_word (by rw [hms]; exact word_touch hw hxw)
  · rw [ho3, hE.2, tg_S hr (by omega), ho1]
  · rw [ho4, hE.2, tg_N hr (by omega), ho2]
  · rw [ho5, hE.2, tg_T, if_pos hs0]

end Um

/-
  Plain arithmetic of layer 8: conflicts that are laid meanwhile. No Go in sight.
-/
namespace Um
set_option maxRecDepth 100000

theorem put_ws (c : Cf) (m : Mm) (a b : Int) (v i : Nat) : (mtouch c m 2 a b 0 v).ws i = if (i : Int) = c.cl a b then v else m.ws i := by
  unfold mtouch
  split
  · rename_i h
    show putW m.ws (c.cl a b).toNat (trn 2 0 v (m.ws (c.cl a b).toNat)) i = _
    by_cases e : i = (c.cl a b).toNat
    · subst e
      rw [putW_same, if_pos (by omega)]
      rfl
    · rw [putW_other e, if_neg (by omega)]
  · rename_i h
    rw [if_neg (by omega)]
    rfl

theorem with_bits (x : Nat) (a b : Int) (j : Nat) (hj : 24 ≤ j) : (withN x a b).testBit j = x.testBit j := by
  unfold withN
  split
  · rename_i h
    have := bitAt_lt h
    rw [testBit_setN, if_neg (by omega)]
  · rfl

theorem st_with (x : Nat) (a b : Int) : stN (withN x a b) = stN x := by
  apply Nat.eq_of_testBit_eq
  intro j
  unfold stN
  rw [testBit_part, testBit_part, with_bits _ _ _ _ (by omega)]

theorem with_ok (x : Nat) {a b : Int} (ho : okS a b = true) : withN x a b = setN x (bitAt a b) true := by
  unfold withN
  exact if_pos ho

theorem com_with (x : Nat) (a b : Int) : comN (withN x a b) = withN (comN x) a b := by
  unfold comN
  rw [with_bits x a b 26 (by decide)]
  cases ho : okS a b with
  | false => rw [with_bad x a b ho, with_bad _ a b ho]
  | true =>
    have hlt := bitAt_lt ho
    rw [with_ok _ ho, with_ok _ ho]
    generalize x.testBit 26 = q
    generalize bitAt a b = k at *
    apply Nat.eq_of_testBit_eq
    intro j
    rw [move_bits (by decide), testBit_setN, testBit_setN, move_bits (by decide)]
    by_cases h : k = j
    · subst h
      rw [if_pos rfl, if_pos rfl, if_neg (show ¬ k = 26 by omega), if_neg (show ¬ (27 ≤ k ∧ k < 30) by omega)]
    · rw [if_neg h, if_neg h]

/-- a help, while conflicts are laid to its transaction; W: what its status will be -/
structure Sid (c : Cf) (x W : Nat) (m : Mm) (nx s : Nat) : Prop where
  le : nx ≤ 4
  low : nx ≤ 2 → stN (m.ws (iS c x).toNat) = 3 ∧ comN (m.ws (iS c x).toNat) = W
  high : 3 ≤ nx → m.ws (iS c x).toNat = W
  n0 : nx = 0 → m.ws (iN c x).toNat = 0
  n1 : 1 ≤ nx → m.ws (iN c x).toNat = seqN x

theorem Sid.ws {c : Cf} {x W : Nat} {m m' : Mm} {nx s : Nat} (h : Sid c x W m nx s) (e : m'.ws = m.ws) : Sid c x W m' nx s :=
  ⟨h.le, fun q => by rw [e]; exact h.low q, fun q => by rw [e]; exact h.high q, fun q => by rw [e]; exact h.n0 q, fun q => by rw [e]; exact h.n1 q⟩

theorem Sid.lay {c : Cf} {x W : Nat} {m : Mm} {nx s : Nat} (hi : 0 < iS c x ∧ iN c x = iS c x + 2) {sl : Int} (hpen : penN x = sl) (h : Sid c x W m nx s) (a b : Int) (S : Nat) (hS : S = m.ws (iS c x).toNat) (m' : Mm) (hm : m' = mtouch c m 2 4 sl 0 (withN S a b)) : Sid c x (withN W a b) m' nx s := by
  have e1 : m'.ws (iS c x).toNat = withN S a b := by
    rw [hm, put_ws, if_pos]
    show _ = c.cl 4 sl
    rw [← hpen]
    show _ = iS c x
    omega
  have e2 : m'.ws (iN c x).toNat = m.ws (iN c x).toNat := by
    rw [hm, put_ws, if_neg]
    show ¬ _ = c.cl 4 sl
    rw [← hpen]
    show ¬ _ = iS c x
    omega
  refine ⟨h.le, fun q => ?_, fun q => ?_, fun q => ?_, fun q => ?_⟩
  · rw [e1, st_with, com_with, hS, (h.low q).2]
    exact ⟨(h.low q).1, rfl⟩
  · rw [e1, hS, h.high q]
  · rw [e2]; exact h.n0 q
  · rw [e2]; exact h.n1 q

theorem sid_step {c : Cf} (hr : c.r = true) {x W : Nat} (hi : 0 < iS c x ∧ iN c x = iS c x + 2) {h : Hs} (hd : Sid c x W h.m h.nx h.s) : Sid c x W (hstep c x h).m (hstep c x h).nx (hstep c x h).s := by
  obtain ⟨hi1, hi2⟩ := hi
  have eS : (((iS c x).toNat : Nat) : Int) = iS c x := by omega
  have eN : (((iN c x).toNat : Nat) : Int) = iN c x := by omega
  have c6 : c.cl 6 (penN x) = iN c x := rfl
  have c4 : c.cl 4 (penN x) = iS c x := rfl
  obtain ⟨m, nx, s⟩ := h
  dsimp only at hd
  match nx, hd.le with
  | 0, _ =>
    show Sid c x W (mtouch c m 3 6 (penN x) 0 (seqN x)) 1 s
    have q1 : (mtouch c m 3 6 (penN x) 0 (seqN x)).ws (iS c x).toNat = m.ws (iS c x).toNat := by rw [swap_ws, if_neg (by rintro ⟨q, _⟩; omega)]
    have q2 : (mtouch c m 3 6 (penN x) 0 (seqN x)).ws (iN c x).toNat = seqN x := by rw [swap_ws, if_pos ⟨by omega, hd.n0 rfl⟩]
    exact ⟨by decide, fun _ => by rw [q1]; exact hd.low (by decide), fun q => absurd q (by decide), (fun q => by cases q), fun _ => q2⟩
  | 1, _ =>
    have hws : (mtouch c m 1 4 (penN x) 0 0).ws = m.ws := load_ws c m 4 (penN x)
    have hold : (mtouch c m 1 4 (penN x) 0 0).l.old = m.ws (iS c x).toNat := by rw [load_old, c4, if_pos (by omega)]
    have h3 := hd.low (by decide)
    have e0 : hstep c x ⟨m, 1, s⟩ = ⟨mtouch c m 1 4 (penN x) 0 0, 2, m.ws (iS c x).toNat⟩ := by
      show (⟨_, if stN (mtouch c m 1 4 (penN x) 0 0).l.old = 3 then 2 else 3, (mtouch c m 1 4 (penN x) 0 0).l.old⟩ : Hs) = _
      rw [hold, if_pos h3.1]
    rw [e0]
    exact ⟨(show 2 ≤ 4 by decide), fun _ => by rw [hws]; exact h3, (fun q => absurd (show 3 ≤ 2 from q) (by decide)), (fun q => by cases q), fun _ => by rw [hws]; exact hd.n1 (by decide)⟩
  | 2, _ =>
    have hdn := swap_done c m 4 (penN x) s (comN s)
    rw [c4] at hdn
    have q2 : (mtouch c m 3 4 (penN x) s (comN s)).ws (iN c x).toNat = m.ws (iN c x).toNat := by rw [swap_ws, if_neg (by rintro ⟨q, _⟩; omega)]
    by_cases he : m.ws (iS c x).toNat = s
    · have q1 : (mtouch c m 3 4 (penN x) s (comN s)).ws (iS c x).toNat = W := by rw [swap_ws, if_pos ⟨by omega, he⟩, ← he]; exact (hd.low (by decide)).2
      rw [decide_eq_true (show _ from ⟨by omega, he⟩)] at hdn
      have e0 : hstep c x ⟨m, 2, s⟩ = ⟨mtouch c m 3 4 (penN x) s (comN s), 3, s⟩ := by
        show (⟨_, cond (mtouch c m 3 4 (penN x) s (comN s)).l.done 3 1, s⟩ : Hs) = _
        rw [hdn]
        rfl
      rw [e0]
      exact ⟨(show 3 ≤ 4 by decide), (fun q => absurd (show 3 ≤ 2 from q) (by decide)), fun _ => q1, (fun q => by cases q), fun _ => by rw [q2]; exact hd.n1 (by decide)⟩
    · have q1 : (mtouch c m 3 4 (penN x) s (comN s)).ws (iS c x).toNat = m.ws (iS c x).toNat := by rw [swap_ws, if_neg (by rintro ⟨_, q⟩; exact he q)]
      rw [decide_eq_false (by rintro ⟨_, q⟩; exact he q)] at hdn
      have e0 : hstep c x ⟨m, 2, s⟩ = ⟨mtouch c m 3 4 (penN x) s (comN s), 1, s⟩ := by
        show (⟨_, cond (mtouch c m 3 4 (penN x) s (comN s)).l.done 3 1, s⟩ : Hs) = _
        rw [hdn]
        rfl
      rw [e0]
      exact ⟨(show 1 ≤ 4 by decide), fun _ => by rw [q1]; exact hd.low (by decide), (fun q => absurd (show 3 ≤ 1 from q) (by decide)), (fun q => by cases q), fun _ => by rw [q2]; exact hd.n1 (by decide)⟩
  | 3, _ =>
    show Sid c x W (mtouch c m 3 1 0 x (setlN x)) 4 s
    have ct := cl_tally hr
    have q1 : (mtouch c m 3 1 0 x (setlN x)).ws (iS c x).toNat = m.ws (iS c x).toNat := by rw [swap_ws, if_neg (by rintro ⟨q, _⟩; omega)]
    have q2 : (mtouch c m 3 1 0 x (setlN x)).ws (iN c x).toNat = m.ws (iN c x).toNat := by rw [swap_ws, if_neg (by rintro ⟨q, _⟩; omega)]
    exact ⟨by decide, fun q => absurd q (by decide), fun _ => by rw [q1]; exact hd.high (by decide), (fun q => by cases q), fun _ => by rw [q2]; exact hd.n1 (by decide)⟩
  | 4, _ => exact hd

/-- how many steps are left at most, alone -/
def mu (c : Cf) (x : Nat) (h : Hs) : Nat :=
  if h.nx = 0 then 4 else if h.nx = 1 then 3 else if h.nx = 2 then (if h.m.ws (iS c x).toNat = h.s then 2 else 4) else if h.nx = 3 then 1 else 0

theorem mu_step {c : Cf} {x W : Nat} (hi : 0 < iS c x ∧ iN c x = iS c x + 2) {h : Hs} (hd : Sid c x W h.m h.nx h.s) (hn : h.nx ≠ 4) : mu c x (hstep c x h) < mu c x h := by
  obtain ⟨hi1, hi2⟩ := hi
  have c4 : c.cl 4 (penN x) = iS c x := rfl
  obtain ⟨m, nx, s⟩ := h
  dsimp only at hd hn
  match nx, hd.le with
  | 0, _ =>
    show (3 : Nat) < 4
    decide
  | 1, _ =>
    have hws : (mtouch c m 1 4 (penN x) 0 0).ws = m.ws := load_ws c m 4 (penN x)
    have hold : (mtouch c m 1 4 (penN x) 0 0).l.old = m.ws (iS c x).toNat := by rw [load_old, c4, if_pos (by omega)]
    have h3 := hd.low (by decide)
    have e0 : hstep c x ⟨m, 1, s⟩ = ⟨mtouch c m 1 4 (penN x) 0 0, 2, m.ws (iS c x).toNat⟩ := by
      show (⟨_, if stN (mtouch c m 1 4 (penN x) 0 0).l.old = 3 then 2 else 3, (mtouch c m 1 4 (penN x) 0 0).l.old⟩ : Hs) = _
      rw [hold, if_pos h3.1]
    rw [e0]
    show (if (mtouch c m 1 4 (penN x) 0 0).ws (iS c x).toNat = m.ws (iS c x).toNat then 2 else 4) < 3
    rw [if_pos (by rw [hws])]
    decide
  | 2, _ =>
    have hdn := swap_done c m 4 (penN x) s (comN s)
    rw [c4] at hdn
    by_cases he : m.ws (iS c x).toNat = s
    · rw [decide_eq_true (show _ from ⟨by omega, he⟩)] at hdn
      have e0 : hstep c x ⟨m, 2, s⟩ = ⟨mtouch c m 3 4 (penN x) s (comN s), 3, s⟩ := by
        show (⟨_, cond (mtouch c m 3 4 (penN x) s (comN s)).l.done 3 1, s⟩ : Hs) = _
        rw [hdn]
        rfl
      rw [e0]
      show (1 : Nat) < if m.ws (iS c x).toNat = s then 2 else 4
      rw [if_pos he]
      decide
    · rw [decide_eq_false (by rintro ⟨_, q⟩; exact he q)] at hdn
      have e0 : hstep c x ⟨m, 2, s⟩ = ⟨mtouch c m 3 4 (penN x) s (comN s), 1, s⟩ := by
        show (⟨_, cond (mtouch c m 3 4 (penN x) s (comN s)).l.done 3 1, s⟩ : Hs) = _
        rw [hdn]
        rfl
      rw [e0]
      show (3 : Nat) < if m.ws (iS c x).toNat = s then 2 else 4
      rw [if_neg he]
      decide
  | 3, _ =>
    show (0 : Nat) < 1
    decide
  | 4, _ => exact absurd rfl hn

theorem sid_ends {c : Cf} (hr : c.r = true) {x W : Nat} (hi : 0 < iS c x ∧ iN c x = iS c x + 2) {h : Hs} (hd : Sid c x W h.m h.nx h.s) {k : Nat} (hk : 5 ≤ k) (H : Hs) (hH : H = hit c x h k) : H.nx = 4 ∧ H.m.ws (iS c x).toNat = W ∧ H.m.ws (iN c x).toNat = seqN x := by
  have main : ∀ k, Sid c x W (hit c x h k).m (hit c x h k).nx (hit c x h k).s ∧ (mu c x (hit c x h k) + k ≤ mu c x h ∨ (hit c x h k).nx = 4) := by
    intro k
    induction k with
    | zero => exact ⟨hd, .inl (Nat.le_refl _)⟩
    | succ k ih =>
      obtain ⟨i1, i2⟩ := ih
      refine ⟨sid_step hr hi i1, ?_⟩
      by_cases hn : (hit c x h k).nx = 4
      · right
        show (hstep c x (hit c x h k)).nx = 4
        rw [hstep_4 hn]
        exact hn
      · rcases i2 with i2 | i2
        · have := mu_step hi i1 hn
          left
          show mu c x (hstep c x (hit c x h k)) + (k + 1) ≤ _
          omega
        · exact absurd i2 hn
  have hm4 : mu c x h ≤ 4 := by
    unfold mu
    (repeat' split) <;> omega
  obtain ⟨h1, h2⟩ := main k
  rw [← hH] at h1 h2
  have h4 : H.nx = 4 := by
    rcases h2 with h2 | h2
    · omega
    · exact h2
  exact ⟨h4, h1.high (by omega), h1.n1 (by omega)⟩

theorem sid_new {c : Cf} (hr : c.r = true) {x : Nat} (hi : 0 < iS c x ∧ iN c x = iS c x + 2) {sl : Int} (hpen : penN x = sl) (m1 m2 : Mm) (hm1 : m1 = mtouch c ⟨fun _ => 0, 0, noT⟩ 2 1 0 0 x) (hm2 : m2 = mtouch c m1 2 4 sl 0 402653184) : Sid c x 536870912 m2 0 0 := by
  obtain ⟨hi1, hi2⟩ := hi
  have c4 : c.cl 4 sl = iS c x := by rw [← hpen]; rfl
  have ct := cl_tally hr
  have e1 : m2.ws (iS c x).toNat = 402653184 := by rw [hm2, put_ws, if_pos (by omega)]
  have e2 : m2.ws (iN c x).toNat = 0 := by rw [hm2, put_ws, if_neg (by omega), hm1, put_ws, if_neg (by omega)]
  refine ⟨by decide, fun _ => ?_, fun q => absurd q (by decide), fun _ => e2, fun q => absurd q (by decide)⟩
  rw [e1]
  exact ⟨by decide +kernel, by decide +kernel⟩

end Um

/-
  Plain arithmetic of layer 9: alone. No Go in sight.
-/
namespace Um
set_option maxRecDepth 100000

theorem sl_cells {c : Cf} (hr : c.r = true) {f : Int} (h0 : 0 ≤ f) (h1 : f < c.s) : 0 < c.cl 4 f ∧ c.cl 5 f = c.cl 4 f + 1 ∧ c.cl 6 f = c.cl 4 f + 2 := by
  have hb := c.rb hr
  unfold Cf.cl cellN
  rw [hr]
  simp [h0, h1]
  omega

/-- the lowest slot that is free -/
structure Got (c : Cf) (ws : Nat → Nat) (f : Int) : Prop where
  lo : 0 ≤ f
  hi : f < c.s
  fr : frN c (ws (c.cl 4 f).toNat) = true
  least : ∀ i : Int, 0 ≤ i → i < f → frN c (ws (c.cl 4 i).toNat) = false

/-- no slot is free -/
def Full (c : Cf) (ws : Nat → Nat) : Prop := ∀ i : Int, 0 ≤ i → i < c.s → frN c (ws (c.cl 4 i).toNat) = false

/-- the words when a slot was taken -/
def ws1 (c : Cf) (ws : Nat → Nat) (f : Int) (i : Nat) : Nat := if (i : Int) = c.cl 4 f then moveN (ws i) 1 false else ws i

/-- and behind a help -/
def ws2 (c : Cf) (ws : Nat → Nat) (f : Int) (i : Nat) : Nat := hgN c (ws 0) (ws1 c ws f) i

/-- and at the end -/
def ws3 (c : Cf) (ws : Nat → Nat) (f : Int) (i : Nat) : Nat := if (i : Int) = c.cl 4 f then moveN (ws i) 2 false else if (i : Int) = c.cl 5 f then seqN (ws 0) else ws2 c ws f i

structure Al (c : Cf) (ws : Nat → Nat) (o : Os) : Prop where
  nx : o.nx ≤ 6
  lo : o.nx = 0 → 0 ≤ o.sl ∧ o.sl < c.s ∧ (∀ i, o.m.ws i = ws i) ∧ ∀ i : Int, 0 ≤ i → i < o.sl → frN c (ws (c.cl 4 i).toNat) = false
  tk : 1 ≤ o.nx → o.nx ≤ 5 → Got c ws o.sl ∧ o.s = ws (c.cl 4 o.sl).toNat
  t1 : o.nx = 1 → ∀ i, o.m.ws i = ws i
  t2 : o.nx = 2 → (∀ i, o.m.ws i = ws1 c ws o.sl i) ∨ (0 ≤ penN (ws 0) ∧ ∀ i, o.m.ws i = ws2 c ws o.sl i)
  t3 : o.nx = 3 → o.w = ws 0 ∧ 0 ≤ penN (ws 0) ∧ Mix c (ws 0) (ws1 c ws o.sl) o.m.ws ∧ Knows c (ws 0) (ws1 c ws o.sl) o.m.ws ⟨o.m, o.hn, o.hs⟩ ∧ o.hn ≠ 4
  t4 : o.nx = 4 → (∀ i, o.m.ws i = ws2 c ws o.sl i) ∧ o.q = seqN (ws 0)
  t5 : o.nx = 5 → (∀ i, o.m.ws i = if (i : Int) = c.cl 5 o.sl then seqN (ws 0) else ws2 c ws o.sl i) ∧ o.q = seqN (ws 0)
  t6 : o.nx = 6 → (Full c ws ∧ (∀ i, o.m.ws i = ws i) ∧ o.te = 6 ∧ o.th = 0 ∧ o.tn = 0) ∨ ∃ f, Got c ws f ∧ (∀ i, o.m.ws i = ws3 c ws f i) ∧ o.te = 0 ∧ o.th = mkN f ((gnN (ws (c.cl 4 f).toNat) : Nat) : Int) ∧ o.tn = seqN (ws 0)

theorem ws1_zero {c : Cf} {ws : Nat → Nat} {f : Int} (h : 0 < c.cl 4 f) : ws1 c ws f 0 = ws 0 := by
  unfold ws1
  rw [if_neg (by omega)]

theorem ws2_zero {c : Cf} {ws : Nat → Nat} {f : Int} (h : 0 < c.cl 4 f) : ws2 c ws f 0 = setlN (ws 0) := by
  unfold ws2
  rw [tg_T, if_pos (ws1_zero h)]

/-- where nothing is pending a help changes nothing -/
theorem ws2_none {c : Cf} (hr : c.r = true) {ws : Nat → Nat} {f : Int} (hp : ¬ 0 ≤ penN (ws 0)) (i : Nat) : ws2 c ws f i = ws1 c ws f i := by
  have hneg : iN c (ws 0) = -1 ∧ iS c (ws 0) = -1 := by
    unfold iN iS Cf.cl cellN
    rw [hr]
    simp
    omega
  have hz : setlN (ws 0) = ws 0 := by unfold penN at hp; unfold setlN; omega
  unfold ws2 hgN
  split
  · rename_i e
    subst e
    split
    · rename_i e; rw [e, hz]
    · rfl
  rw [if_neg (by omega), if_neg (by omega)]

theorem al_look {c : Cf} (hr : c.r = true) {ws : Nat → Nat} {o : Os} (h : Al c ws o) (h0 : o.nx = 0) : Al c ws (ostep c o) := by
  obtain ⟨l0, l1, l2, l3⟩ := h.lo h0
  obtain ⟨s1, s2, s3⟩ := sl_cells hr l0 l1
  have hws : (mtouch c o.m 1 4 o.sl 0 0).ws = o.m.ws := load_ws c o.m 4 o.sl
  have hold : (mtouch c o.m 1 4 o.sl 0 0).l.old = ws (c.cl 4 o.sl).toNat := by rw [load_old, if_pos (by omega), l2]
  unfold ostep
  rw [if_pos h0, hold]
  cases hf : frN c (ws (c.cl 4 o.sl).toNat) with
  | true =>
    rw [if_pos rfl]
    exact ⟨(show 1 ≤ 6 by decide), (fun q => by cases q), fun _ _ => ⟨⟨l0, l1, hf, l3⟩, rfl⟩, (fun _ i => by rw [hws]; exact l2 i), (fun q => by cases q), (fun q => by cases q), (fun q => by cases q), (fun q => by cases q), (fun q => by cases q)⟩
  | false =>
    have l4 : ∀ i : Int, 0 ≤ i → i < o.sl + 1 → frN c (ws (c.cl 4 i).toNat) = false := by
      intro i i0 i1
      by_cases e : i = o.sl
      · rw [e]; exact hf
      · exact l3 i i0 (by omega)
    show Al c ws (ogo c o (mtouch c o.m 1 4 o.sl 0 0) (ws (c.cl 4 o.sl).toNat))
    unfold ogo
    split
    · rename_i hge
      exact ⟨(show 6 ≤ 6 by decide), (fun q => by cases q), (fun _ q => absurd (show 6 ≤ 5 from q) (by decide)), (fun q => by cases q), (fun q => by cases q), (fun q => by cases q), (fun q => by cases q), (fun q => by cases q), fun _ => .inl ⟨fun i i0 i1 => l4 i i0 (by omega), fun i => by rw [hws]; exact l2 i, rfl, rfl, rfl⟩⟩
    · rename_i hge
      exact ⟨(show 0 ≤ 6 by decide), fun _ => ⟨(show 0 ≤ o.sl + 1 by omega), (show o.sl + 1 < c.s by omega), fun i => by rw [hws]; exact l2 i, l4⟩, (fun q _ => absurd (show 1 ≤ 0 from q) (by decide)), (fun q => by cases q), (fun q => by cases q), (fun q => by cases q), (fun q => by cases q), (fun q => by cases q), (fun q => by cases q)⟩

theorem al_take {c : Cf} (hr : c.r = true) {ws : Nat → Nat} {o : Os} (h : Al c ws o) (h1 : o.nx = 1) : Al c ws (ostep c o) := by
  obtain ⟨hg, hs⟩ := h.tk (by omega) (by omega)
  have hw := h.t1 h1
  obtain ⟨s1, s2, s3⟩ := sl_cells hr hg.lo hg.hi
  have hd : (mtouch c o.m 3 4 o.sl o.s (moveN o.s 1 false)).l.done = true := by
    rw [swap_done]
    exact decide_eq_true ⟨by omega, by rw [hw, hs]⟩
  have hws : ∀ i, (mtouch c o.m 3 4 o.sl o.s (moveN o.s 1 false)).ws i = ws1 c ws o.sl i := by
    intro i
    rw [swap_ws, hw]
    unfold ws1
    by_cases e : (i : Int) = c.cl 4 o.sl
    · have : ws i = o.s := by rw [hs, ← e]; rfl
      rw [if_pos ⟨e, this⟩, if_pos e, this]
    · rw [if_neg (fun q => e q.1), if_neg e]
  unfold ostep
  rw [if_neg (by omega), if_pos h1, if_pos hd]
  exact ⟨(show 2 ≤ 6 by decide), (fun q => by cases q), fun _ _ => ⟨hg, hs⟩, (fun q => by cases q), fun _ => .inl hws, (fun q => by cases q), (fun q => by cases q), (fun q => by cases q), (fun q => by cases q)⟩

theorem al_tally {c : Cf} (hr : c.r = true) {ws : Nat → Nat} {o : Os} (h : Al c ws o) (h2 : o.nx = 2) : Al c ws (ostep c o) := by
  obtain ⟨hg, hs⟩ := h.tk (by omega) (by omega)
  obtain ⟨s1, s2, s3⟩ := sl_cells hr hg.lo hg.hi
  have hws : (mtouch c o.m 1 1 0 0 0).ws = o.m.ws := load_ws c o.m 1 0
  have hold : (mtouch c o.m 1 1 0 0 0).l.old = o.m.ws 0 := by rw [load_old, cl_tally hr, if_pos (by decide)]; rfl
  unfold ostep
  rw [if_neg (by omega), if_neg (by omega), if_pos h2, hold]
  rcases h.t2 h2 with ht | ⟨hp, ht⟩
  · have e0 : o.m.ws 0 = ws 0 := (ht 0).trans (ws1_zero s1)
    rw [e0]
    by_cases hp : 0 ≤ penN (ws 0)
    · rw [if_pos hp]
      have hm : Mix c (ws 0) (ws1 c ws o.sl) (mtouch c o.m 1 1 0 0 0).ws := fun i => .inl (by rw [hws]; exact ht i)
      exact ⟨(show 3 ≤ 6 by decide), (fun q => by cases q), fun _ _ => ⟨hg, hs⟩, (fun q => by cases q), (fun q => by cases q), fun _ => ⟨rfl, hp, hm, ⟨(show 0 ≤ 4 by decide), (fun q => absurd (show 1 ≤ 0 from q) (by decide)), (fun q => by cases q), (fun q => absurd (show 3 ≤ 0 from q) (by decide)), (fun q => by cases q)⟩, (show 0 ≠ 4 by decide)⟩, (fun q => by cases q), (fun q => by cases q), (fun q => by cases q)⟩
    · rw [if_neg hp]
      exact ⟨(show 4 ≤ 6 by decide), (fun q => by cases q), fun _ _ => ⟨hg, hs⟩, (fun q => by cases q), (fun q => by cases q), (fun q => by cases q), fun _ => ⟨fun i => by rw [hws, ws2_none hr hp]; exact ht i, rfl⟩, (fun q => by cases q), (fun q => by cases q)⟩
  · have e0 : o.m.ws 0 = setlN (ws 0) := (ht 0).trans (ws2_zero s1)
    rw [e0, pen_setl, if_neg (by decide), seq_setl]
    exact ⟨(show 4 ≤ 6 by decide), (fun q => by cases q), fun _ _ => ⟨hg, hs⟩, (fun q => by cases q), (fun q => by cases q), (fun q => by cases q), fun _ => ⟨fun i => by rw [hws]; exact ht i, rfl⟩, (fun q => by cases q), (fun q => by cases q)⟩

theorem al_help {c : Cf} (hr : c.r = true) {ws : Nat → Nat} {o : Os} (h : Al c ws o) (h3 : o.nx = 3) : Al c ws (ostep c o) := by
  obtain ⟨hg, hs⟩ := h.tk (by omega) (by omega)
  obtain ⟨e1, hp, hM, hK, hn⟩ := h.t3 h3
  obtain ⟨k1, k2, k3⟩ := know_step hr (h := ⟨o.m, o.hn, o.hs⟩) hM hK
  unfold ostep
  rw [if_neg (by omega), if_neg (by omega), if_neg (by omega), if_pos h3, e1]
  generalize hstep c (ws 0) ⟨o.m, o.hn, o.hs⟩ = H at *
  by_cases h4 : H.nx = 4
  · rw [if_pos h4]
    have he := know_end hr k1 k2 h4
    exact ⟨(show 2 ≤ 6 by decide), (fun q => by cases q), fun _ _ => ⟨hg, hs⟩, (fun q => by cases q), fun _ => .inr ⟨hp, he⟩, (fun q => by cases q), (fun q => by cases q), (fun q => by cases q), (fun q => by cases q)⟩
  · rw [if_neg h4]
    exact ⟨(show 3 ≤ 6 by decide), (fun q => by cases q), fun _ _ => ⟨hg, hs⟩, (fun q => by cases q), (fun q => by cases q), fun _ => ⟨rfl, hp, k1, k2, h4⟩, (fun q => by cases q), (fun q => by cases q), (fun q => by cases q)⟩

theorem al_note {c : Cf} {ws : Nat → Nat} {o : Os} (h : Al c ws o) (h4 : o.nx = 4) : Al c ws (ostep c o) := by
  obtain ⟨hg, hs⟩ := h.tk (by omega) (by omega)
  obtain ⟨hw, hq⟩ := h.t4 h4
  unfold ostep
  rw [if_neg (by omega), if_neg (by omega), if_neg (by omega), if_neg (by omega), if_pos h4]
  exact ⟨(show 5 ≤ 6 by decide), (fun q => by cases q), fun _ _ => ⟨hg, hs⟩, (fun q => by cases q), (fun q => by cases q), (fun q => by cases q), (fun q => by cases q), fun _ => ⟨fun i => by show (mtouch c o.m 2 5 o.sl 0 o.q).ws i = _; rw [put_ws, hq, hw], hq⟩, (fun q => by cases q)⟩

theorem al_start {c : Cf} {ws : Nat → Nat} {o : Os} (h : Al c ws o) (h5 : o.nx = 5) : Al c ws (ostep c o) := by
  obtain ⟨hg, hs⟩ := h.tk (by omega) (by omega)
  obtain ⟨hw, hq⟩ := h.t5 h5
  unfold ostep
  rw [if_neg (by omega), if_neg (by omega), if_neg (by omega), if_neg (by omega), if_neg (by omega), if_pos h5]
  refine ⟨(show 6 ≤ 6 by decide), (fun q => by cases q), (fun _ q => absurd (show 6 ≤ 5 from q) (by decide)), (fun q => by cases q), (fun q => by cases q), (fun q => by cases q), (fun q => by cases q), (fun q => by cases q), fun _ => .inr ⟨o.sl, hg, fun i => ?_, rfl, by show mkN o.sl _ = _; rw [hs], hq⟩⟩
  show (mtouch c o.m 2 4 o.sl 0 (moveN o.s 2 false)).ws i = _
  rw [put_ws, hw]
  unfold ws3
  by_cases e : (i : Int) = c.cl 4 o.sl
  · rw [if_pos e, if_pos e, hs, ← e]
    rfl
  · rw [if_neg e, if_neg e]

theorem al_step {c : Cf} (hr : c.r = true) {ws : Nat → Nat} {o : Os} (h : Al c ws o) : Al c ws (ostep c o) := by
  have := h.nx
  rcases (by omega : o.nx = 0 ∨ o.nx = 1 ∨ o.nx = 2 ∨ o.nx = 3 ∨ o.nx = 4 ∨ o.nx = 5 ∨ o.nx = 6) with e | e | e | e | e | e | e
  · exact al_look hr h e
  · exact al_take hr h e
  · exact al_tally hr h e
  · exact al_help hr h e
  · exact al_note h e
  · exact al_start h e
  · rw [ostep_6 e]
    exact h

/-- how many steps are left at most, alone -/
def omu (c : Cf) (ws : Nat → Nat) (o : Os) : Nat :=
  if o.nx = 0 then 40 + (c.s - o.sl).toNat else if o.nx = 1 then 39 else if o.nx = 2 then (if 0 ≤ penN (o.m.ws 0) then 30 else 5) else if o.nx = 3 then 10 + left c (ws 0) (ws1 c ws o.sl) ⟨o.m, o.hn, o.hs⟩ else if o.nx = 4 then 4 else if o.nx = 5 then 3 else 0

theorem omu_step {c : Cf} (hr : c.r = true) {ws : Nat → Nat} {o : Os} (h : Al c ws o) (hn : o.nx ≠ 6) : omu c ws (ostep c o) < omu c ws o := by
  have h6 := h.nx
  have ha := al_step hr h
  rcases (by omega : o.nx = 0 ∨ o.nx = 1 ∨ o.nx = 2 ∨ o.nx = 3 ∨ o.nx = 4 ∨ o.nx = 5) with e | e | e | e | e | e
  · obtain ⟨l0, l1, _, _⟩ := h.lo e
    have : omu c ws o = 40 + (c.s - o.sl).toNat := by unfold omu; rw [if_pos e]
    rw [this]
    unfold ostep
    rw [if_pos e]
    split
    · show (39 : Nat) < _
      omega
    · unfold ogo
      split
      · show (0 : Nat) < _
        omega
      · show 40 + (c.s - (o.sl + 1)).toNat < _
        omega
  · have hA := al_take hr h e
    have : omu c ws o = 39 := by unfold omu; rw [if_neg (by omega), if_pos e]
    rw [this]
    have hnx : (ostep c o).nx = 2 := by
      obtain ⟨hg, hs⟩ := h.tk (by omega) (by omega)
      obtain ⟨s1, _, _⟩ := sl_cells hr hg.lo hg.hi
      unfold ostep
      rw [if_neg (by omega), if_pos e, if_pos]
      rw [swap_done]
      exact decide_eq_true ⟨by omega, by rw [h.t1 e, hs]⟩
    unfold omu
    rw [if_neg (by omega), if_neg (by omega), if_pos hnx]
    split <;> omega
  · have hold : (mtouch c o.m 1 1 0 0 0).l.old = o.m.ws 0 := by rw [load_old, cl_tally hr, if_pos (by decide)]; rfl
    by_cases hp : 0 ≤ penN (o.m.ws 0)
    · have : omu c ws o = 30 := by unfold omu; rw [if_neg (by omega), if_neg (by omega), if_pos e, if_pos hp]
      rw [this]
      have hnx : (ostep c o).nx = 3 := by
        unfold ostep
        rw [if_neg (by omega), if_neg (by omega), if_pos e, hold, if_pos hp]
      unfold omu
      rw [if_neg (by omega), if_neg (by omega), if_neg (by omega), if_pos hnx]
      have := left_le c (ws 0) (ws1 c ws (ostep c o).sl) ⟨(ostep c o).m, (ostep c o).hn, (ostep c o).hs⟩
      omega
    · have : omu c ws o = 5 := by unfold omu; rw [if_neg (by omega), if_neg (by omega), if_pos e, if_neg hp]
      rw [this]
      have hnx : (ostep c o).nx = 4 := by
        unfold ostep
        rw [if_neg (by omega), if_neg (by omega), if_pos e, hold, if_neg hp]
      unfold omu
      rw [if_neg (by omega), if_neg (by omega), if_neg (by omega), if_neg (by omega), if_pos hnx]
      decide
  · obtain ⟨hg, hs⟩ := h.tk (by omega) (by omega)
    obtain ⟨s1, _, _⟩ := sl_cells hr hg.lo hg.hi
    obtain ⟨e1, hp, hM, hK, hn4⟩ := h.t3 e
    have hl := left_step hr (h := ⟨o.m, o.hn, o.hs⟩) hM hK hn4
    obtain ⟨k1, k2, _⟩ := know_step hr (h := ⟨o.m, o.hn, o.hs⟩) hM hK
    have : omu c ws o = 10 + left c (ws 0) (ws1 c ws o.sl) ⟨o.m, o.hn, o.hs⟩ := by unfold omu; rw [if_neg (by omega), if_neg (by omega), if_neg (by omega), if_pos e]
    rw [this]
    unfold ostep
    rw [if_neg (by omega), if_neg (by omega), if_neg (by omega), if_pos e, e1]
    generalize hstep c (ws 0) ⟨o.m, o.hn, o.hs⟩ = H at *
    by_cases h4 : H.nx = 4
    · rw [if_pos h4]
      have he := know_end hr k1 k2 h4 0
      have e0 : H.m.ws 0 = setlN (ws 0) := he.trans (ws2_zero s1)
      show (if 0 ≤ penN (H.m.ws 0) then 30 else 5) < _
      rw [e0, pen_setl, if_neg (by decide)]
      omega
    · rw [if_neg h4]
      show 10 + left c (ws 0) (ws1 c ws o.sl) ⟨H.m, H.nx, H.s⟩ < _
      have : left c (ws 0) (ws1 c ws o.sl) ⟨H.m, H.nx, H.s⟩ = left c (ws 0) (ws1 c ws o.sl) H := rfl
      omega
  · have : omu c ws o = 4 := by unfold omu; rw [if_neg (by omega), if_neg (by omega), if_neg (by omega), if_neg (by omega), if_pos e]
    rw [this]
    unfold ostep
    rw [if_neg (by omega), if_neg (by omega), if_neg (by omega), if_neg (by omega), if_pos e]
    show (3 : Nat) < 4
    decide
  · have : omu c ws o = 3 := by unfold omu; rw [if_neg (by omega), if_neg (by omega), if_neg (by omega), if_neg (by omega), if_neg (by omega), if_pos e]
    rw [this]
    unfold ostep
    rw [if_neg (by omega), if_neg (by omega), if_neg (by omega), if_neg (by omega), if_neg (by omega), if_pos e]
    show (0 : Nat) < 3
    decide

/-- a new beginning -/
def onew (m : Mm) : Os := ⟨m, 0, 0, 0, 0, 0, 0, 0, 0, 0, 0⟩

theorem al_new {c : Cf} (hr : c.r = true) (m : Mm) : Al c m.ws (onew m) := by
  have hb := c.rb hr
  exact ⟨(show 0 ≤ 6 by decide), fun _ => ⟨(show (0 : Int) ≤ 0 by decide), (show (0 : Int) < c.s by omega), fun _ => rfl, (fun i i0 i1 => by have : i < 0 := i1; omega)⟩, (fun q _ => absurd (show 1 ≤ 0 from q) (by decide)), (fun q => by cases q), (fun q => by cases q), (fun q => by cases q), (fun q => by cases q), (fun q => by cases q), (fun q => by cases q)⟩

/-- alone it ends -/
theorem al_ends {c : Cf} (hr : c.r = true) (m : Mm) {k : Nat} (hk : 60 ≤ k) : Al c m.ws (oit c (onew m) k) ∧ (oit c (onew m) k).nx = 6 := by
  have main : ∀ k, Al c m.ws (oit c (onew m) k) ∧ (omu c m.ws (oit c (onew m) k) + k ≤ omu c m.ws (onew m) ∨ (oit c (onew m) k).nx = 6) := by
    intro k
    induction k with
    | zero => exact ⟨al_new hr m, .inl (Nat.le_refl _)⟩
    | succ k ih =>
      obtain ⟨i1, i2⟩ := ih
      refine ⟨al_step hr i1, ?_⟩
      by_cases hn : (oit c (onew m) k).nx = 6
      · right
        show (ostep c (oit c (onew m) k)).nx = 6
        rw [ostep_6 hn]
        exact hn
      · rcases i2 with i2 | i2
        · have := omu_step hr i1 hn
          left
          show omu c m.ws (ostep c (oit c (onew m) k)) + (k + 1) ≤ _
          omega
        · exact absurd i2 hn
  have hb := c.rb hr
  have h0 : omu c m.ws (onew m) = 40 + (c.s - 0).toNat := rfl
  obtain ⟨h1, h2⟩ := main k
  refine ⟨h1, ?_⟩
  rcases h2 with h2 | h2
  · omega
  · exact h2

/-- where all is full, each step is a look -/
theorem full_steps {c : Cf} (hr : c.r = true) (m : Mm) (hf : Full c m.ws) {k : Nat} (hk : (k : Int) < c.s) : (oit c (onew m) k).nx = 0 ∧ (oit c (onew m) k).sl = k ∧ ∀ i, (oit c (onew m) k).m.ws i = m.ws i := by
  induction k with
  | zero => exact ⟨rfl, rfl, fun _ => rfl⟩
  | succ k ih =>
    obtain ⟨i1, i2, i3⟩ := ih (by omega)
    have hs : oit c (onew m) (k + 1) = ostep c (oit c (onew m) k) := rfl
    rw [hs]
    generalize oit c (onew m) k = o at *
    obtain ⟨s1, _, _⟩ := sl_cells hr (f := (k : Int)) (by omega) (by omega)
    have hws : (mtouch c o.m 1 4 o.sl 0 0).ws = o.m.ws := load_ws c o.m 4 o.sl
    have hold : (mtouch c o.m 1 4 o.sl 0 0).l.old = m.ws (c.cl 4 (k : Int)).toNat := by rw [load_old, i2, if_pos (by omega), i3]
    have hfr := hf (k : Int) (by omega) (by omega)
    unfold ostep
    rw [if_pos i1, hold, hfr]
    show (ogo c o _ _).nx = 0 ∧ (ogo c o _ _).sl = _ ∧ ∀ i, (ogo c o _ _).m.ws i = m.ws i
    unfold ogo
    rw [if_neg (by omega)]
    exact ⟨rfl, by show o.sl + 1 = _; rw [i2]; rfl, fun i => by show (mtouch c o.m 1 4 o.sl 0 0).ws i = _; rw [hws]; exact i3 i⟩

end Um
