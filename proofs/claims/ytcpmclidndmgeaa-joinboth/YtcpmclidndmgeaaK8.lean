/-
  Texts that the laws stand on, merged (JoinAlive, GateMath4, JoinMath4, OpenCfg, OpenWords, OpenPlay, OpenHelp, OpenJ, JoinMath5).
-/
import Derived.Test.YtcpmclidndmgeaaK1
import Derived.Test.YtcpmclidndmgeaaK2
import Derived.Test.YtcpmclidndmgeaaK4
import Derived.Test.YtcpmclidndmgeaaK5
import Derived.Test.YtcpmclidndmgeaaK6
import Derived.Test.YtcpmclidndmgeaaK7
import Derived.Deep.Slices
import Derived.OpenShut
import Derived.ProofKit
import Derived.ShutString
import Derived.SizedLaws
import Derived.WalkKit

/-
  The walk of layer 11's first look: a conflict is laid to an active one, refused by one that commits, not needed for one that is past; an own end.
-/
namespace Go.Proofs.Ytcpmclidndmgeaa
set_option maxRecDepth 100000
open Go.RowKit Go.Sort
set_option linter.unusedVariables false
set_option linter.unusedSimpArgs false

def jc0 : Um.Cf := ⟨1, 2, 1, 0, 0⟩
def jm1 : Um.Mm := Um.mtouch jc0 ⟨fun _ => 0, 0, Um.noT⟩ 2 4 1 0 268435456
def ja11 : Um.Js := Um.jit jc0 1 1 0 5 (Um.jnew jm1) 20
def jm2 : Um.Mm := Um.mtouch jc0 ja11.m 1 4 1 0 0
def jm3 : Um.Mm := Um.mtouch jc0 jm2 2 4 1 0 402653185
def jb11 : Um.Js := Um.jit jc0 1 1 0 5 (Um.jnew jm3) 20
def jm4 : Um.Mm := Um.mtouch jc0 jb11.m 2 4 1 0 536870912
def jm5 : Um.Mm := Um.mtouch jc0 jm4 2 6 1 0 5
def jd11 : Um.Js := Um.jit jc0 1 1 0 5 (Um.jnew jm5) 20
def jo11 : Um.Ls := Um.wit jc0 0 0 1 (Um.lnew jd11.m) 20
def jm6 : Um.Mm := Um.mtouch jc0 jo11.m 1 4 0 0 0

theorem jc0_r : jc0.r = true := by decide +kernel

theorem first_num {f : Nat → Nat} {n N most : Nat} (hN : f N ≠ 0) (hl : N < most) (hf : ∀ q, q < N → f q = 0) (h0 : n ≤ most) (h1 : n < most → f n ≠ 0) (h2 : ∀ q, q < n → f q = 0) : n = N := by
  rcases Nat.lt_trichotomy n N with h | h | h
  · exact absurd (hf n h) (h1 (by omega))
  · exact h
  · exact absurd (h2 N h) hN

theorem first_yes {f : Nat → Bool} {n N most : Nat} (hN : f N = true) (hl : N < most) (hf : ∀ q, q < N → f q = false) (h0 : n ≤ most) (h1 : n < most → f n = true) (h2 : ∀ q, q < n → f q = false) : n = N := by
  rcases Nat.lt_trichotomy n N with h | h | h
  · have h3 := h1 (by omega)
    rw [hf n h] at h3
    cases h3
  · exact h
  · have h3 := h2 N h
    rw [hN] at h3
    cases h3

theorem ja_n {n : Nat} (h0 : n ≤ 20) (h1 : n < 20 → (Um.jit jc0 1 1 0 5 (Um.jnew jm1) n).r ≠ 0) (h2 : ∀ q, q < n → (Um.jit jc0 1 1 0 5 (Um.jnew jm1) q).r = 0) : n = 2 := by
  refine first_num (f := fun q => (Um.jit jc0 1 1 0 5 (Um.jnew jm1) q).r) (by decide +kernel) (by decide) (fun q hq => ?_) h0 h1 h2
  have h3 : (Um.jit jc0 1 1 0 5 (Um.jnew jm1) 0).r = 0 ∧ (Um.jit jc0 1 1 0 5 (Um.jnew jm1) 1).r = 0 := by decide +kernel
  match q, hq with
  | 0, _ => exact h3.1
  | 1, _ => exact h3.2

theorem jb_n {n : Nat} (h0 : n ≤ 20) (h1 : n < 20 → (Um.jit jc0 1 1 0 5 (Um.jnew jm3) n).r ≠ 0) (h2 : ∀ q, q < n → (Um.jit jc0 1 1 0 5 (Um.jnew jm3) q).r = 0) : n = 1 := by
  refine first_num (f := fun q => (Um.jit jc0 1 1 0 5 (Um.jnew jm3) q).r) (by decide +kernel) (by decide) (fun q hq => ?_) h0 h1 h2
  have h3 : (Um.jit jc0 1 1 0 5 (Um.jnew jm3) 0).r = 0 := by decide +kernel
  match q, hq with
  | 0, _ => exact h3

theorem jd_n {n : Nat} (h0 : n ≤ 20) (h1 : n < 20 → (Um.jit jc0 1 1 0 5 (Um.jnew jm5) n).r ≠ 0) (h2 : ∀ q, q < n → (Um.jit jc0 1 1 0 5 (Um.jnew jm5) q).r = 0) : n = 2 := by
  refine first_num (f := fun q => (Um.jit jc0 1 1 0 5 (Um.jnew jm5) q).r) (by decide +kernel) (by decide) (fun q hq => ?_) h0 h1 h2
  have h3 : (Um.jit jc0 1 1 0 5 (Um.jnew jm5) 0).r = 0 ∧ (Um.jit jc0 1 1 0 5 (Um.jnew jm5) 1).r = 0 := by decide +kernel
  match q, hq with
  | 0, _ => exact h3.1
  | 1, _ => exact h3.2

theorem jo_n {n : Nat} (h0 : n ≤ 20) (h1 : n < 20 → (Um.wit jc0 0 0 1 (Um.lnew jd11.m) n).dn = true) (h2 : ∀ q, q < n → (Um.wit jc0 0 0 1 (Um.lnew jd11.m) q).dn = false) : n = 2 := by
  refine first_yes (f := fun q => (Um.wit jc0 0 0 1 (Um.lnew jd11.m) q).dn) (by decide +kernel) (by decide) (fun q hq => ?_) h0 h1 h2
  have h3 : (Um.wit jc0 0 0 1 (Um.lnew jd11.m) 0).dn = false ∧ (Um.wit jc0 0 0 1 (Um.lnew jd11.m) 1).dn = false := by decide +kernel
  match q, hq with
  | 0, _ => exact h3.1
  | 1, _ => exact h3.2

theorem nw11_2 (w : World) : Calls Try.prog 40 #[.int .i64 2, .int .i64 0] w fun r w' => r = .returned (.int .u64 ((268435456 : Nat) : Int)) ∧ Below w.heap.size w w' := by
  have h := rNew01_any 2 w
  rwa [show Um.packV 0 2 false false false 0 0 = 268435456 by decide +kernel] at h

theorem nw11_3 (w : World) : Calls Try.prog 40 #[.int .i64 3, .int .i64 0] w fun r w' => r = .returned (.int .u64 ((402653184 : Nat) : Int)) ∧ Below w.heap.size w w' := by
  have h := rNew01_any 3 w
  rwa [show Um.packV 0 3 false false false 0 0 = 402653184 by decide +kernel] at h

theorem nw11_4 (w : World) : Calls Try.prog 40 #[.int .i64 4, .int .i64 0] w fun r w' => r = .returned (.int .u64 ((536870912 : Nat) : Int)) ∧ Below w.heap.size w w' := by
  have h := rNew01_any 4 w
  rwa [show Um.packV 0 4 false false false 0 0 = 536870912 by decide +kernel] at h

theorem wi11_a (w : World) : Calls Try.prog 29 #[.int .u64 ((402653184 : Nat) : Int), .int .i64 0, .int .i64 0] w fun r w' => r = .returned (.int .u64 ((402653185 : Nat) : Int)) ∧ Below w.heap.size w w' := by
  have h := same_below (refWith_any 402653184 0 0 w (by unfold Um.Word; omega))
  rwa [show Um.withN 402653184 0 0 = 402653185 by decide +kernel] at h

theorem wi11_b (w : World) : Calls Try.prog 29 #[.int .u64 ((268435456 : Nat) : Int), .int .i64 1, .int .i64 0] w fun r w' => r = .returned (.int .u64 ((268439552 : Nat) : Int)) ∧ Below w.heap.size w w' := by
  have h := same_below (refWith_any 268435456 1 0 w (by unfold Um.Word; omega))
  rwa [show Um.withN 268435456 1 0 = 268439552 by decide +kernel] at h

set_option maxHeartbeats 8000000 in
theorem jAlive_any (w : World) : Calls Try.prog 11 #[] w fun e w' => e = .returned (.bool true) ∧ Below w.heap.size w w' := by
  have hS := Sx.new w
  go_enter Try.func11, Try.ntmps11
  go_wp2_with fail
  refine (new_x hS jc0 jc0_r).mono ?_
  rintro r u ⟨B, C, rfl, hWn, hSn⟩
  clear hS
  have hS := hSn
  clear hSn
  dsimp only [putL, List.set, List.cons_append, List.nil_append] at hS
  have HW0 := hide hWn
  clear hWn
  go_wp2_with fail
  refine (of11_any 4 1 _).mono ?_
  rintro r u ⟨rfl, hb⟩
  replace hS := hS.call hb
  clear hb
  go_wp2_with (first | (refine wpx_box hS rfl _ _ rfl _ rfl _ (by intro _; simp only [Act.put, sx1, sx2, sx3]; first | done | exact rfl) ?_; clear hS; intro _ _ hS; dsimp only [blit, List.set, sx4, sx5, Value.cells, sx6] at hS) | (refine wpx_alloc hS rfl _ rfl _ (zer_any2 rfl) _ (by intro _; simp only [Act.put, sx1, sx2, sx3]; first | done | exact rfl) ?_; clear hS; intro _ _ hS; dsimp only [blit, List.set, sx4, sx5, Value.cells, sx6] at hS) | (refine wpx_ld hS rfl _ _ rfl _ _ rfl ?_; (repeat (first | refine sxh ?_ | refine sxn ?_)); first | refine .inl ⟨_, one_any2 rfl, rfl, _, (by simp only [Act.put, sx1, sx2, sx3]; first | done | exact rfl), ?_⟩ | refine .inr ⟨_, _, row_any2 rfl, rfl, (by dsimp only [cutL, List.drop, List.take]; first | done | exact rfl), _, (by simp only [Act.put, sx1, sx2, sx3]; first | done | exact rfl), ?_⟩) | (refine wpx_st hS rfl _ _ _ rfl rfl _ _ rfl ?_; (repeat (first | refine sxh ?_ | refine sxn ?_)); refine ⟨_, (by first | exact shA rfl | exact shI rfl | exact shB rfl | exact shS rfl | exact shP rfl | exact shF rfl | exact shN rfl), _, siz_any2 rfl, (by exact rfl), (by exact rfl), (by exact rfl), ?_⟩; clear hS; intro _ hS; dsimp only [blit, List.set, sx4, sx5, Value.cells, sx6] at hS))
  obtain ⟨SB, rfl⟩ := nameB hS 2 rfl
  have k0 := fun w' (hq : BlkAt w' SB [.int .i64 4, .int .i64 1]) => hq.cell 0 _ rfl
  have k1 := fun w' (hq : BlkAt w' SB [.int .i64 4, .int .i64 1]) => hq.cell 1 _ rfl
  have HP := hide (hS.get 2 rfl)
  have HS3 := hide hS
  clear hS
  go_region_held3 (fun w' => BlkAt w' SB [.int .i64 4, .int .i64 1]) (first | exact (unhide HP).drew | exact BlkAt.below (by assumption) (by assumption) | assumption) (first | (go_at_call 40; refine (nw11_2 _).mono ?_; rintro e u5 ⟨rfl, hb5⟩) | (go_at_call 32; refine (mStore_x ((unhide HS3).undrew hb5) 0 1 rfl rfl (by decide) jc0_r (unhide HW0) 4 1 268435456 (by unfold Um.Word; omega) (by decide) (by decide) jm1 rfl).mono ?_; rintro e u7 ⟨rfl, hW6, hS6⟩; have hP6 := hS6.get 2 rfl))
  have hS := hS6
  have HWjm1 := hide hW6
  clear hS6 hP6 hW6 k0 k1 HS3 HP
  dsimp only [putL, List.set] at hS
  go_wp2_with (first | (refine wpx_box hS rfl _ _ rfl _ rfl _ (by intro _; simp only [Act.put, sx1, sx2, sx3]; first | done | exact rfl) ?_; clear hS; intro _ _ hS; dsimp only [blit, List.set, sx4, sx5, Value.cells, sx6] at hS) | (refine wpx_alloc hS rfl _ rfl _ (zer_any2 rfl) _ (by intro _; simp only [Act.put, sx1, sx2, sx3]; first | done | exact rfl) ?_; clear hS; intro _ _ hS; dsimp only [blit, List.set, sx4, sx5, Value.cells, sx6] at hS) | (refine wpx_ld hS rfl _ _ rfl _ _ rfl ?_; (repeat (first | refine sxh ?_ | refine sxn ?_)); first | refine .inl ⟨_, one_any2 rfl, rfl, _, (by simp only [Act.put, sx1, sx2, sx3]; first | done | exact rfl), ?_⟩ | refine .inr ⟨_, _, row_any2 rfl, rfl, (by dsimp only [cutL, List.drop, List.take]; first | done | exact rfl), _, (by simp only [Act.put, sx1, sx2, sx3]; first | done | exact rfl), ?_⟩) | (refine wpx_st hS rfl _ _ _ rfl rfl _ _ rfl ?_; (repeat (first | refine sxh ?_ | refine sxn ?_)); refine ⟨_, (by first | exact shA rfl | exact shI rfl | exact shB rfl | exact shS rfl | exact shP rfl | exact shF rfl | exact shN rfl), _, siz_any2 rfl, (by exact rfl), (by exact rfl), (by exact rfl), ?_⟩; clear hS; intro _ hS; dsimp only [blit, List.set, sx4, sx5, Value.cells, sx6] at hS))
  refine (jnew_any hS 1 1 0 5 jm1).mono ?_
  rintro r u ⟨Pa, rfl, hSn⟩
  clear hS
  have hS := hSn
  clear hSn
  dsimp only [putL, List.set, List.cons_append, List.nil_append] at hS
  go_wp2_with (first | (refine wpx_box hS rfl _ _ rfl _ rfl _ (by intro _; simp only [Act.put, sx1, sx2, sx3]; first | done | exact rfl) ?_; clear hS; intro _ _ hS; dsimp only [blit, List.set, sx4, sx5, Value.cells, sx6] at hS) | (refine wpx_alloc hS rfl _ rfl _ (zer_any2 rfl) _ (by intro _; simp only [Act.put, sx1, sx2, sx3]; first | done | exact rfl) ?_; clear hS; intro _ _ hS; dsimp only [blit, List.set, sx4, sx5, Value.cells, sx6] at hS) | (refine wpx_ld hS rfl _ _ rfl _ _ rfl ?_; (repeat (first | refine sxh ?_ | refine sxn ?_)); first | refine .inl ⟨_, one_any2 rfl, rfl, _, (by simp only [Act.put, sx1, sx2, sx3]; first | done | exact rfl), ?_⟩ | refine .inr ⟨_, _, row_any2 rfl, rfl, (by dsimp only [cutL, List.drop, List.take]; first | done | exact rfl), _, (by simp only [Act.put, sx1, sx2, sx3]; first | done | exact rfl), ?_⟩) | (refine wpx_st hS rfl _ _ _ rfl rfl _ _ rfl ?_; (repeat (first | refine sxh ?_ | refine sxn ?_)); refine ⟨_, (by first | exact shA rfl | exact shI rfl | exact shB rfl | exact shS rfl | exact shP rfl | exact shF rfl | exact shN rfl), _, siz_any2 rfl, (by exact rfl), (by exact rfl), (by exact rfl), ?_⟩; clear hS; intro _ hS; dsimp only [blit, List.set, sx4, sx5, Value.cells, sx6] at hS))
  refine (ends_x hS 0 1 3 (Um.jnew jm1) rfl rfl rfl (by decide) (by decide) (by decide) jc0_r (Um.jnew_ok (unhide HWjm1)) (by decide) (by decide) (by decide) (by decide) 20 (by decide) ja11 rfl).mono ?_
  rintro r u ⟨n, rfl, hn1, hn2, hn3, hOn, hSn⟩
  clear hS
  have hS := hSn
  clear hSn
  dsimp only [putL, List.set, List.cons_append, List.nil_append] at hS
  obtain rfl : n = 2 := ja_n hn1 hn2 hn3
  have HOja11 := hide hOn
  clear hn1 hn2 hn3 hOn
  rw [show ((ja11.r : Nat) : Int) = 2 by decide +kernel]
  go_wp2_with (first | (refine wpx_box hS rfl _ _ rfl _ rfl _ (by intro _; simp only [Act.put, sx1, sx2, sx3]; first | done | exact rfl) ?_; clear hS; intro _ _ hS; dsimp only [blit, List.set, sx4, sx5, Value.cells, sx6] at hS) | (refine wpx_alloc hS rfl _ rfl _ (zer_any2 rfl) _ (by intro _; simp only [Act.put, sx1, sx2, sx3]; first | done | exact rfl) ?_; clear hS; intro _ _ hS; dsimp only [blit, List.set, sx4, sx5, Value.cells, sx6] at hS) | (refine wpx_ld hS rfl _ _ rfl _ _ rfl ?_; (repeat (first | refine sxh ?_ | refine sxn ?_)); first | refine .inl ⟨_, one_any2 rfl, rfl, _, (by simp only [Act.put, sx1, sx2, sx3]; first | done | exact rfl), ?_⟩ | refine .inr ⟨_, _, row_any2 rfl, rfl, (by dsimp only [cutL, List.drop, List.take]; first | done | exact rfl), _, (by simp only [Act.put, sx1, sx2, sx3]; first | done | exact rfl), ?_⟩) | (refine wpx_st hS rfl _ _ _ rfl rfl _ _ rfl ?_; (repeat (first | refine sxh ?_ | refine sxn ?_)); refine ⟨_, (by first | exact shA rfl | exact shI rfl | exact shB rfl | exact shS rfl | exact shP rfl | exact shF rfl | exact shN rfl), _, siz_any2 rfl, (by exact rfl), (by exact rfl), (by exact rfl), ?_⟩; clear hS; intro _ hS; dsimp only [blit, List.set, sx4, sx5, Value.cells, sx6] at hS))
  refine (mLoad_x hS 0 1 rfl rfl (by decide) jc0_r (unhide HOja11).wd 4 1 (by decide) (by decide) jm2 rfl).mono ?_
  rintro r u ⟨rfl, hWn, hSn⟩
  clear hS
  have hS := hSn
  clear hSn
  dsimp only [putL, List.set, List.cons_append, List.nil_append] at hS
  have HWjm2 := hide hWn
  clear hWn
  rw [show ((jm2.l.old : Nat) : Int) = ((268439552 : Nat) : Int) by decide +kernel]
  go_wp2_with fail
  have k0 := fun w' (hq : BlkAt w' SB [.int .i64 4, .int .i64 1]) => hq.cell 0 _ rfl
  have k1 := fun w' (hq : BlkAt w' SB [.int .i64 4, .int .i64 1]) => hq.cell 1 _ rfl
  have HP := hide (hS.get 2 rfl)
  have HS3 := hide hS
  clear hS
  go_region_held3 (fun w' => BlkAt w' SB [.int .i64 4, .int .i64 1]) (first | exact (unhide HP).drew | exact BlkAt.below (by assumption) (by assumption) | assumption) (first | (go_at_call 40; refine (nw11_3 _).mono ?_; rintro e u5 ⟨rfl, hb5⟩) | (go_at_call 29; refine (wi11_a _).mono ?_; rintro e u6 ⟨rfl, hb6⟩) | (go_at_call 32; refine (mStore_x (((unhide HS3).undrew hb5).call hb6) 0 1 rfl rfl (by decide) jc0_r (unhide HWjm2) 4 1 402653185 (by unfold Um.Word; omega) (by decide) (by decide) jm3 rfl).mono ?_; rintro e u7 ⟨rfl, hW6, hS6⟩; have hP6 := hS6.get 2 rfl))
  have hS := hS6
  have HWjm3 := hide hW6
  clear hS6 hP6 hW6 k0 k1 HS3 HP
  dsimp only [putL, List.set] at hS
  go_wp2_with (first | (refine wpx_box hS rfl _ _ rfl _ rfl _ (by intro _; simp only [Act.put, sx1, sx2, sx3]; first | done | exact rfl) ?_; clear hS; intro _ _ hS; dsimp only [blit, List.set, sx4, sx5, Value.cells, sx6] at hS) | (refine wpx_alloc hS rfl _ rfl _ (zer_any2 rfl) _ (by intro _; simp only [Act.put, sx1, sx2, sx3]; first | done | exact rfl) ?_; clear hS; intro _ _ hS; dsimp only [blit, List.set, sx4, sx5, Value.cells, sx6] at hS) | (refine wpx_ld hS rfl _ _ rfl _ _ rfl ?_; (repeat (first | refine sxh ?_ | refine sxn ?_)); first | refine .inl ⟨_, one_any2 rfl, rfl, _, (by simp only [Act.put, sx1, sx2, sx3]; first | done | exact rfl), ?_⟩ | refine .inr ⟨_, _, row_any2 rfl, rfl, (by dsimp only [cutL, List.drop, List.take]; first | done | exact rfl), _, (by simp only [Act.put, sx1, sx2, sx3]; first | done | exact rfl), ?_⟩) | (refine wpx_st hS rfl _ _ _ rfl rfl _ _ rfl ?_; (repeat (first | refine sxh ?_ | refine sxn ?_)); refine ⟨_, (by first | exact shA rfl | exact shI rfl | exact shB rfl | exact shS rfl | exact shP rfl | exact shF rfl | exact shN rfl), _, siz_any2 rfl, (by exact rfl), (by exact rfl), (by exact rfl), ?_⟩; clear hS; intro _ hS; dsimp only [blit, List.set, sx4, sx5, Value.cells, sx6] at hS))
  refine (jnew_any hS 1 1 0 5 jm3).mono ?_
  rintro r u ⟨Pb, rfl, hSn⟩
  clear hS
  have hS := hSn
  clear hSn
  dsimp only [putL, List.set, List.cons_append, List.nil_append] at hS
  go_wp2_with (first | (refine wpx_box hS rfl _ _ rfl _ rfl _ (by intro _; simp only [Act.put, sx1, sx2, sx3]; first | done | exact rfl) ?_; clear hS; intro _ _ hS; dsimp only [blit, List.set, sx4, sx5, Value.cells, sx6] at hS) | (refine wpx_alloc hS rfl _ rfl _ (zer_any2 rfl) _ (by intro _; simp only [Act.put, sx1, sx2, sx3]; first | done | exact rfl) ?_; clear hS; intro _ _ hS; dsimp only [blit, List.set, sx4, sx5, Value.cells, sx6] at hS) | (refine wpx_ld hS rfl _ _ rfl _ _ rfl ?_; (repeat (first | refine sxh ?_ | refine sxn ?_)); first | refine .inl ⟨_, one_any2 rfl, rfl, _, (by simp only [Act.put, sx1, sx2, sx3]; first | done | exact rfl), ?_⟩ | refine .inr ⟨_, _, row_any2 rfl, rfl, (by dsimp only [cutL, List.drop, List.take]; first | done | exact rfl), _, (by simp only [Act.put, sx1, sx2, sx3]; first | done | exact rfl), ?_⟩) | (refine wpx_st hS rfl _ _ _ rfl rfl _ _ rfl ?_; (repeat (first | refine sxh ?_ | refine sxn ?_)); refine ⟨_, (by first | exact shA rfl | exact shI rfl | exact shB rfl | exact shS rfl | exact shP rfl | exact shF rfl | exact shN rfl), _, siz_any2 rfl, (by exact rfl), (by exact rfl), (by exact rfl), ?_⟩; clear hS; intro _ hS; dsimp only [blit, List.set, sx4, sx5, Value.cells, sx6] at hS))
  refine (ends_x hS 0 1 4 (Um.jnew jm3) rfl rfl rfl (by decide) (by decide) (by decide) jc0_r (Um.jnew_ok (unhide HWjm3)) (by decide) (by decide) (by decide) (by decide) 20 (by decide) jb11 rfl).mono ?_
  rintro r u ⟨n, rfl, hn1, hn2, hn3, hOn, hSn⟩
  clear hS
  have hS := hSn
  clear hSn
  dsimp only [putL, List.set, List.cons_append, List.nil_append] at hS
  obtain rfl : n = 1 := jb_n hn1 hn2 hn3
  have HOjb11 := hide hOn
  clear hn1 hn2 hn3 hOn
  rw [show ((jb11.r : Nat) : Int) = 3 by decide +kernel]
  go_wp2_with (first | (refine wpx_box hS rfl _ _ rfl _ rfl _ (by intro _; simp only [Act.put, sx1, sx2, sx3]; first | done | exact rfl) ?_; clear hS; intro _ _ hS; dsimp only [blit, List.set, sx4, sx5, Value.cells, sx6] at hS) | (refine wpx_alloc hS rfl _ rfl _ (zer_any2 rfl) _ (by intro _; simp only [Act.put, sx1, sx2, sx3]; first | done | exact rfl) ?_; clear hS; intro _ _ hS; dsimp only [blit, List.set, sx4, sx5, Value.cells, sx6] at hS) | (refine wpx_ld hS rfl _ _ rfl _ _ rfl ?_; (repeat (first | refine sxh ?_ | refine sxn ?_)); first | refine .inl ⟨_, one_any2 rfl, rfl, _, (by simp only [Act.put, sx1, sx2, sx3]; first | done | exact rfl), ?_⟩ | refine .inr ⟨_, _, row_any2 rfl, rfl, (by dsimp only [cutL, List.drop, List.take]; first | done | exact rfl), _, (by simp only [Act.put, sx1, sx2, sx3]; first | done | exact rfl), ?_⟩) | (refine wpx_st hS rfl _ _ _ rfl rfl _ _ rfl ?_; (repeat (first | refine sxh ?_ | refine sxn ?_)); refine ⟨_, (by first | exact shA rfl | exact shI rfl | exact shB rfl | exact shS rfl | exact shP rfl | exact shF rfl | exact shN rfl), _, siz_any2 rfl, (by exact rfl), (by exact rfl), (by exact rfl), ?_⟩; clear hS; intro _ hS; dsimp only [blit, List.set, sx4, sx5, Value.cells, sx6] at hS))
  have k0 := fun w' (hq : BlkAt w' SB [.int .i64 4, .int .i64 1]) => hq.cell 0 _ rfl
  have k1 := fun w' (hq : BlkAt w' SB [.int .i64 4, .int .i64 1]) => hq.cell 1 _ rfl
  have HP := hide (hS.get 2 rfl)
  have HS3 := hide hS
  clear hS
  go_region_held3 (fun w' => BlkAt w' SB [.int .i64 4, .int .i64 1]) (first | exact (unhide HP).drew | exact BlkAt.below (by assumption) (by assumption) | assumption) (first | (go_at_call 40; refine (nw11_4 _).mono ?_; rintro e u5 ⟨rfl, hb5⟩) | (go_at_call 32; refine (mStore_x ((unhide HS3).undrew hb5) 0 1 rfl rfl (by decide) jc0_r (unhide HOjb11).wd 4 1 536870912 (by unfold Um.Word; omega) (by decide) (by decide) jm4 rfl).mono ?_; rintro e u7 ⟨rfl, hW6, hS6⟩; have hP6 := hS6.get 2 rfl))
  have hS := hS6
  have HWjm4 := hide hW6
  clear hS6 hP6 hW6 k0 k1 HS3 HP
  dsimp only [putL, List.set] at hS
  go_wp2_with (first | (refine wpx_box hS rfl _ _ rfl _ rfl _ (by intro _; simp only [Act.put, sx1, sx2, sx3]; first | done | exact rfl) ?_; clear hS; intro _ _ hS; dsimp only [blit, List.set, sx4, sx5, Value.cells, sx6] at hS) | (refine wpx_alloc hS rfl _ rfl _ (zer_any2 rfl) _ (by intro _; simp only [Act.put, sx1, sx2, sx3]; first | done | exact rfl) ?_; clear hS; intro _ _ hS; dsimp only [blit, List.set, sx4, sx5, Value.cells, sx6] at hS) | (refine wpx_ld hS rfl _ _ rfl _ _ rfl ?_; (repeat (first | refine sxh ?_ | refine sxn ?_)); first | refine .inl ⟨_, one_any2 rfl, rfl, _, (by simp only [Act.put, sx1, sx2, sx3]; first | done | exact rfl), ?_⟩ | refine .inr ⟨_, _, row_any2 rfl, rfl, (by dsimp only [cutL, List.drop, List.take]; first | done | exact rfl), _, (by simp only [Act.put, sx1, sx2, sx3]; first | done | exact rfl), ?_⟩) | (refine wpx_st hS rfl _ _ _ rfl rfl _ _ rfl ?_; (repeat (first | refine sxh ?_ | refine sxn ?_)); refine ⟨_, (by first | exact shA rfl | exact shI rfl | exact shB rfl | exact shS rfl | exact shP rfl | exact shF rfl | exact shN rfl), _, siz_any2 rfl, (by exact rfl), (by exact rfl), (by exact rfl), ?_⟩; clear hS; intro _ hS; dsimp only [blit, List.set, sx4, sx5, Value.cells, sx6] at hS))
  refine (of11_any 6 1 _).mono ?_
  rintro r u ⟨rfl, hb⟩
  replace hS := hS.call hb
  clear hb
  go_wp2_with fail
  refine (mStore_x hS 0 1 rfl rfl (by decide) jc0_r (unhide HWjm4) 6 1 5 (by unfold Um.Word; omega) (by decide) (by decide) jm5 rfl).mono ?_
  rintro r u ⟨rfl, hWn, hSn⟩
  clear hS
  have hS := hSn
  clear hSn
  dsimp only [putL, List.set, List.cons_append, List.nil_append] at hS
  have HWjm5 := hide hWn
  clear hWn
  go_wp2_with fail
  refine (jnew_any hS 1 1 0 5 jm5).mono ?_
  rintro r u ⟨Pd, rfl, hSn⟩
  clear hS
  have hS := hSn
  clear hSn
  dsimp only [putL, List.set, List.cons_append, List.nil_append] at hS
  go_wp2_with (first | (refine wpx_box hS rfl _ _ rfl _ rfl _ (by intro _; simp only [Act.put, sx1, sx2, sx3]; first | done | exact rfl) ?_; clear hS; intro _ _ hS; dsimp only [blit, List.set, sx4, sx5, Value.cells, sx6] at hS) | (refine wpx_alloc hS rfl _ rfl _ (zer_any2 rfl) _ (by intro _; simp only [Act.put, sx1, sx2, sx3]; first | done | exact rfl) ?_; clear hS; intro _ _ hS; dsimp only [blit, List.set, sx4, sx5, Value.cells, sx6] at hS) | (refine wpx_ld hS rfl _ _ rfl _ _ rfl ?_; (repeat (first | refine sxh ?_ | refine sxn ?_)); first | refine .inl ⟨_, one_any2 rfl, rfl, _, (by simp only [Act.put, sx1, sx2, sx3]; first | done | exact rfl), ?_⟩ | refine .inr ⟨_, _, row_any2 rfl, rfl, (by dsimp only [cutL, List.drop, List.take]; first | done | exact rfl), _, (by simp only [Act.put, sx1, sx2, sx3]; first | done | exact rfl), ?_⟩) | (refine wpx_st hS rfl _ _ _ rfl rfl _ _ rfl ?_; (repeat (first | refine sxh ?_ | refine sxn ?_)); refine ⟨_, (by first | exact shA rfl | exact shI rfl | exact shB rfl | exact shS rfl | exact shP rfl | exact shF rfl | exact shN rfl), _, siz_any2 rfl, (by exact rfl), (by exact rfl), (by exact rfl), ?_⟩; clear hS; intro _ hS; dsimp only [blit, List.set, sx4, sx5, Value.cells, sx6] at hS))
  refine (ends_x hS 0 1 5 (Um.jnew jm5) rfl rfl rfl (by decide) (by decide) (by decide) jc0_r (Um.jnew_ok (unhide HWjm5)) (by decide) (by decide) (by decide) (by decide) 20 (by decide) jd11 rfl).mono ?_
  rintro r u ⟨n, rfl, hn1, hn2, hn3, hOn, hSn⟩
  clear hS
  have hS := hSn
  clear hSn
  dsimp only [putL, List.set, List.cons_append, List.nil_append] at hS
  obtain rfl : n = 2 := jd_n hn1 hn2 hn3
  have HOjd11 := hide hOn
  clear hn1 hn2 hn3 hOn
  rw [show ((jd11.r : Nat) : Int) = 1 by decide +kernel]
  go_wp2_with (first | (refine wpx_box hS rfl _ _ rfl _ rfl _ (by intro _; simp only [Act.put, sx1, sx2, sx3]; first | done | exact rfl) ?_; clear hS; intro _ _ hS; dsimp only [blit, List.set, sx4, sx5, Value.cells, sx6] at hS) | (refine wpx_alloc hS rfl _ rfl _ (zer_any2 rfl) _ (by intro _; simp only [Act.put, sx1, sx2, sx3]; first | done | exact rfl) ?_; clear hS; intro _ _ hS; dsimp only [blit, List.set, sx4, sx5, Value.cells, sx6] at hS) | (refine wpx_ld hS rfl _ _ rfl _ _ rfl ?_; (repeat (first | refine sxh ?_ | refine sxn ?_)); first | refine .inl ⟨_, one_any2 rfl, rfl, _, (by simp only [Act.put, sx1, sx2, sx3]; first | done | exact rfl), ?_⟩ | refine .inr ⟨_, _, row_any2 rfl, rfl, (by dsimp only [cutL, List.drop, List.take]; first | done | exact rfl), _, (by simp only [Act.put, sx1, sx2, sx3]; first | done | exact rfl), ?_⟩) | (refine wpx_st hS rfl _ _ _ rfl rfl _ _ rfl ?_; (repeat (first | refine sxh ?_ | refine sxn ?_)); refine ⟨_, (by first | exact shA rfl | exact shI rfl | exact shB rfl | exact shS rfl | exact shP rfl | exact shF rfl | exact shN rfl), _, siz_any2 rfl, (by exact rfl), (by exact rfl), (by exact rfl), ?_⟩; clear hS; intro _ hS; dsimp only [blit, List.set, sx4, sx5, Value.cells, sx6] at hS))
  refine (onew_any hS 0 0 1 jd11.m).mono ?_
  rintro r u ⟨Po, rfl, hSn⟩
  clear hS
  have hS := hSn
  clear hSn
  dsimp only [putL, List.set, List.cons_append, List.nil_append] at hS
  go_wp2_with fail
  refine (owns_x hS 0 1 6 (Um.lnew jd11.m) rfl rfl rfl (by decide) (by decide) (by decide) jc0_r (Um.lnew_ok (unhide HOjd11).wd) (by decide) (by decide) 20 (by decide) jo11 rfl).mono ?_
  rintro r u ⟨n, rfl, hn1, hn2, hn3, hOn, hSn⟩
  clear hS
  have hS := hSn
  clear hSn
  dsimp only [putL, List.set, List.cons_append, List.nil_append] at hS
  obtain rfl : n = 2 := jo_n hn1 hn2 hn3
  have HOjo11 := hide hOn
  clear hn1 hn2 hn3 hOn
  go_wp2_with fail
  refine (nw11_2 _).mono ?_
  rintro r u ⟨rfl, hb⟩
  replace hS := hS.call hb
  clear hb
  go_wp2_with fail
  refine (wi11_b _).mono ?_
  rintro r u ⟨rfl, hb⟩
  replace hS := hS.call hb
  clear hb
  go_wp2_with fail
  refine (oDone_any (o := jo11) (hS.get 6 rfl)).mono ?_
  rintro r u ⟨rfl, rfl⟩
  rw [show jo11.dn = true by decide +kernel]
  go_wp2_with fail
  refine (of11_any 4 0 _).mono ?_
  rintro r u ⟨rfl, hb⟩
  replace hS := hS.call hb
  clear hb
  go_wp2_with fail
  refine (mLoad_x hS 0 1 rfl rfl (by decide) jc0_r (unhide HOjo11).wd 4 0 (by decide) (by decide) jm6 rfl).mono ?_
  rintro r u ⟨rfl, hWn, hSn⟩
  clear hS
  have hS := hSn
  clear hSn
  dsimp only [putL, List.set, List.cons_append, List.nil_append] at hS
  clear hWn
  rw [show ((jm6.l.old : Nat) : Int) = 2 by decide +kernel]
  have hB := hS.bel
  clear hS
  go_wp2
  go_ret
  exact ⟨rfl, hB⟩

end Go.Proofs.Ytcpmclidndmgeaa

/-
  Plain arithmetic of layer 10: a call that is alone, to its end: what it is told, what is changed, how many steps there are. No Go in sight.
-/
namespace Um
set_option maxRecDepth 100000

theorem at_iff {c : Cf} (hr : c.r = true) {a b : Int} (h0 : 0 ≤ c.cl a b) {j : Nat} (hj : j < c.n) : (j : Int) = c.cl a b ↔ (atK c.r c.t c.s c.k (j : Int) = a ∧ atO c.r c.t c.s c.k (j : Int) = b) := by
  have hb : Rb c.r c.t c.s c.k := fun _ => by have := c.rb hr; omega
  constructor
  · intro e
    rw [e]
    exact (cell_at hb h0).2
  · rintro ⟨e1, e2⟩
    have hl : (j : Int) < clen c.r c.t c.s c.k := by have := c.n_eq; omega
    have h := at_cell hb (x := (j : Int)) (by omega) hl
    rw [e1, e2] at h
    exact h.symm

theorem ends_at {f : Nat → Bool} {n N most : Nat} (hN : f N = true) (hl : N < most) (hf : ∀ q, q < N → f q = false) (h1 : n < most → f n = true) (h2 : ∀ q, q < n → f q = false) : n = N := by
  rcases Nat.lt_trichotomy n N with h | h | h
  · have h3 := h1 (by omega)
    rw [hf n h] at h3
    cases h3
  · exact h
  · have h3 := h2 N h
    rw [hN] at h3
    cases h3

end Um

/-
  Plain arithmetic of layer 11: a join that is alone, as a law asks of it; laid again. No Go in sight.
-/
namespace Um
set_option maxRecDepth 100000

/-- one that is not there, or was committed ahead -/
def goneN (W N sn : Nat) : Prop := stN W < 2 ∨ 4 < stN W ∨ (stN W = 4 ∧ past N sn = true)

/-- the same, as a law reckons it -/
def goneB (W N sn : Nat) : Bool := decide (stN W < 2 ∨ 4 < stN W ∨ (stN W = 4 ∧ past N sn = true))

theorem goneB_iff {W N sn : Nat} : goneB W N sn = true ↔ goneN W N sn := decide_eq_true_iff

theorem jtg_gone {sd b : Int} {sn W N : Nat} (h : goneN W N sn) : jtg sd b sn W N = 1 := by
  unfold goneN at h
  unfold jtg
  rw [if_pos h]

theorem jtg_has {sd b : Int} {sn W N : Nat} (h : ¬ goneN W N sn) (hh : hasN W sd b = true) : jtg sd b sn W N = 2 := by
  unfold goneN at h
  unfold jtg
  rw [if_neg h, if_pos hh]

theorem jtg_fail {sd b : Int} {sn W N : Nat} (h : ¬ goneN W N sn) (hh : hasN W sd b = false) (h2 : stN W ≠ 2) (ha : anyN W (1 - sd) = true) : jtg sd b sn W N = 3 := by
  unfold goneN at h
  unfold jtg
  rw [if_neg h, if_neg (by rw [hh]; decide), if_pos ⟨h2, ha⟩]

theorem jtg_lay {sd b : Int} {sn W N : Nat} (h : ¬ goneN W N sn) (hh : hasN W sd b = false) (h2 : stN W = 2 ∨ anyN W (1 - sd) = false) : jtg sd b sn W N = 2 := by
  unfold goneN at h
  unfold jtg
  rw [if_neg h, if_neg (by rw [hh]; decide), if_neg]
  rintro ⟨q1, q2⟩
  rcases h2 with h2 | h2
  · exact q1 h2
  · rw [h2] at q2; cases q2

section
variable {c : Cf} {sl sd b : Int} {sn : Nat}

theorem alone11 (hr : c.r = true) (h0 : 0 ≤ sl) (h1 : sl < c.s) (m : Mm) (A : Js) (hA : A = jit c sl sd b sn (jnew m) 20) :
    A.r = jtg sd b sn (m.ws (c.cl 4 sl).toNat) (m.ws (c.cl 6 sl).toNat) ∧
    (A.r = 2 → ∀ j, j < c.n → ((atK c.r c.t c.s c.k (j : Int) = 4 ∧ atO c.r c.t c.s c.k (j : Int) = sl) → A.m.ws j = withN (m.ws j) sd b) ∧ (¬ (atK c.r c.t c.s c.k (j : Int) = 4 ∧ atO c.r c.t c.s c.k (j : Int) = sl) → A.m.ws j = m.ws j)) ∧
    (A.r ≠ 2 → ∀ j, A.m.ws j = m.ws j) ∧
    ∀ N, (∀ q, q < N → (jit c sl sd b sn (jnew m) q).r = 0) → N ≤ 3 := by
  obtain ⟨a1, a2, a3, _⟩ := join_alone (sd := sd) (b := b) (sn := sn) hr h0 h1 m (k := 20) (by decide) A hA
  have hc := (slot_cells hr h0 h1).1
  refine ⟨a1, fun h2 j hj => ?_, fun h2 j => ?_, fun N hN => ?_⟩
  · rw [a2 j]
    exact ⟨fun q => if_pos ⟨h2, (at_iff hr hc hj).2 q⟩, fun q => if_neg (fun e => q ((at_iff hr hc hj).1 e.2))⟩
  · rw [a2 j, if_neg (fun e => h2 e.1)]
  · rcases Nat.lt_or_ge 3 N with q | q
    · exact absurd (hN 3 q) a3
    · exact q

/-- laid again: the same is said, in two steps at most, and nothing is changed -/
theorem again11 (hr : c.r = true) (h0 : 0 ≤ sl) (h1 : sl < c.s) (hok : okS sd b = true) (m : Mm) (A : Js) (hA : A = jit c sl sd b sn (jnew m) 20) (B : Js) (hB : B = jit c sl sd b sn (jnew A.m) 20) (E : Ls) (hE : E = wit c sl sd b (lnew B.m) 20) :
    B.r = A.r ∧ (∀ N, (∀ q, q < N → (jit c sl sd b sn (jnew A.m) q).r = 0) → N ≤ 2) ∧
    (A.r = 2 → (∀ j : Nat, E.m.ws j = A.m.ws j) ∧ ∀ N, N ≤ 20 → (N < 20 → (wit c sl sd b (lnew B.m) N).dn = true) → (∀ q, q < N → (wit c sl sd b (lnew B.m) q).dn = false) → N = 1) := by
  obtain ⟨a1, a2, _, _⟩ := join_alone (sd := sd) (b := b) (sn := sn) hr h0 h1 m (k := 20) (by decide) A hA
  obtain ⟨b1, b2, _, b4⟩ := join_alone (sd := sd) (b := b) (sn := sn) hr h0 h1 A.m (k := 20) (by decide) B hB
  have hc := slot_cells hr h0 h1
  have hne := num_ne hr h0 h1
  obtain ⟨W, hW⟩ : ∃ W, W = m.ws (c.cl 4 sl).toNat := ⟨_, rfl⟩
  obtain ⟨N6, hN6⟩ : ∃ N6, N6 = m.ws (c.cl 6 sl).toNat := ⟨_, rfl⟩
  rw [← hW, ← hN6] at a1
  have h4 : A.m.ws (c.cl 4 sl).toNat = if A.r = 2 then withN W sd b else W := by
    rw [a2, ← hW]
    by_cases q : A.r = 2
    · rw [if_pos ⟨q, by omega⟩, if_pos q]
    · rw [if_neg (fun e => q e.1), if_neg q]
  have h6 : A.m.ws (c.cl 6 sl).toNat = N6 := by
    rw [a2, if_neg (fun e => hne (by have := e.2; omega)), hN6]
  rw [h4, h6] at b1 b4
  by_cases hz : A.r = 2
  · rw [if_pos hz] at b1 b4
    have hg : ¬ goneN W N6 sn := by
      intro q
      rw [a1, jtg_gone q] at hz
      cases hz
    have hg' : ¬ goneN (withN W sd b) N6 sn := by
      unfold goneN at hg ⊢
      rw [st_with]
      exact hg
    have hh : hasN (withN W sd b) sd b = true := by rw [hasN_with, hok]
    have b5 : B.r = 2 := b1.trans (jtg_has hg' hh)
    refine ⟨b5.trans hz.symm, fun N hN => ?_, fun _ => ?_⟩
    · rcases Nat.lt_or_ge 2 N with q | q
      · exact absurd (hN 2 q) (b4 (.inr hh))
      · exact q
    · have hB4 : B.m.ws (c.cl 4 sl).toNat = withN W sd b := by
        rw [b2, if_pos ⟨b5, by omega⟩, h4, if_pos hz, with_twice]
      obtain ⟨e1, e2, e3, e4⟩ := own_there (sd := sd) (b := b) hr h0 h1 B.m (by rw [hB4, with_twice]) (k := 20) (by decide) E hE
      refine ⟨fun j => ?_, fun N _ n2 n3 => ?_⟩
      · rw [e2, b2 j]
        by_cases q : (j : Int) = c.cl 4 sl
        · rw [if_pos ⟨b5, q⟩]
          have : A.m.ws j = withN W sd b := by
            rw [show j = (c.cl 4 sl).toNat by omega, h4, if_pos hz]
          rw [this, with_twice]
        · rw [if_neg (fun e => q e.2)]
      · exact ends_at (f := fun q => (wit c sl sd b (lnew B.m) q).dn) (N := 1) (most := 20) e4 (by decide) (fun q hq => by
          obtain rfl : q = 0 := by omega
          exact e3) n2 n3
  · rw [if_neg hz] at b1 b4
    have b5 : B.r = A.r := b1.trans a1.symm
    refine ⟨b5, fun N hN => ?_, fun q => absurd q hz⟩
    rcases Nat.lt_or_ge 2 N with q | q
    · exact absurd (hN 2 q) (b4 (.inl (by rw [← a1]; exact hz)))
    · exact q

end

end Um

/-
  A world's size that was handed in: what its reading says of its cells.
-/
namespace Go.Proofs.Ytcpmclidndmgeaa
set_option maxRecDepth 100000
open Go.ChangeShapes Go.WideShapes Go.ChangeAt Go.RowKit

theorem cellsCfg : Try.prog.cellsOf 24 = 5 := by kernel_rfl
theorem cellsCfgI : Try.prog.cellsOf 3 = 1 := by kernel_rfl
theorem cellsCfgU : Try.prog.cellsOf 22 = 1 := by kernel_rfl

theorem array5 {α : Type} {cs : Array α} (h : cs.size = 5) : ∃ c0 c1 c2 c3 c4, cs = #[c0, c1, c2, c3, c4] := by
  obtain ⟨l⟩ := cs
  match l, h with
  | [c0, c1, c2, c3, c4], _ => exact ⟨c0, c1, c2, c3, c4, rfl⟩

theorem list5 {α : Type} {cs : List α} (h : cs.length = 5) : ∃ c0 c1 c2 c3 c4, cs = [c0, c1, c2, c3, c4] := by
  match cs, h with
  | [c0, c1, c2, c3, c4], _ => exact ⟨c0, c1, c2, c3, c4, rfl⟩

set_option maxRecDepth 100000 in
theorem open_cfg {H : Type} {enc : TypeId × Value → H} {W : World} {base : Nat} {v : Value} {d : DataW H} {p : List MemPlace}
    (hv : Value.okWide Try.prog W .any base 24 v) (h : DataW.Trod enc Try.prog W 0 (fun _ => true) true 24 v d p) :
    ∃ (t s k g : Int) (q : Nat), v = .agg #[.int .i64 t, .int .i64 s, .int .i64 k, .int .i64 g, .int .u64 q] ∧ (-9223372036854775808 ≤ t ∧ t ≤ 9223372036854775807) ∧ (-9223372036854775808 ≤ s ∧ s ≤ 9223372036854775807) ∧ (-9223372036854775808 ≤ k ∧ k ≤ 9223372036854775807) := by
  obtain ⟨cs, rfl, hsz⟩ := okWide_struct Try.underlying24 hv
  obtain ⟨c0, c1, c2, c3, c4, rfl⟩ := array5 (hsz.trans cellsCfg)
  obtain ⟨fuel, hf⟩ := h
  obtain ⟨xs, n, _, _, hl, hlen, hx⟩ := DataW.trod_struct Try.underlying24 hf
  obtain ⟨y0, y1, y2, y3, y4, rfl⟩ := list5 hlen
  obtain ⟨t, e0, _, k0⟩ := DataW.trod_int Try.underlying3 (hx 0 _ rfl)
  obtain ⟨s, e1, _, k1⟩ := DataW.trod_int Try.underlying3 (hx 1 _ rfl)
  obtain ⟨k, e2, _, k2⟩ := DataW.trod_int Try.underlying3 (hx 2 _ rfl)
  obtain ⟨g, e3, _, _⟩ := DataW.trod_int Try.underlying3 (hx 3 _ rfl)
  obtain ⟨q, e4, _, k4⟩ := DataW.trod_int Try.underlying22 (hx 4 _ rfl)
  obtain ⟨q', rfl, _⟩ := word_of k4
  simp [Value.cells, cellsCfgI, cellsCfgU] at e0 e1 e2 e3 e4
  subst e0 e1 e2 e3 e4
  exact ⟨t, s, k, g, q', rfl, int_of k0, int_of k1, int_of k2⟩

end Go.Proofs.Ytcpmclidndmgeaa

/-
  Words that were handed in: what their reading says of their cells.
-/
namespace Go.Proofs.Ytcpmclidndmgeaa
set_option maxRecDepth 100000
open Go.ChangeShapes Go.WideShapes Go.ChangeAt Go.RowKit

theorem cellsWU : Try.prog.cellsOf 22 = 1 := by kernel_rfl

theorem cellsWI : Try.prog.cellsOf 3 = 1 := by kernel_rfl

theorem open_words {H : Type} {enc : TypeId × Value → H} {W : World} {base : Nat} {v : Value} {d : DataW H} {p : List MemPlace}
    (hv : Value.okWide Try.prog W .any base 25 v) (h : DataW.Trod enc Try.prog W 0 (fun _ => true) true 25 v d p) :
    ∃ n ws, IsWords W v n ws := by
  obtain ⟨a0, len0, cap0, rfl⟩ := okWide_slice Try.underlying25 hv
  obtain ⟨fuel, hf⟩ := h
  rcases open_ints Try.underlying25 Try.underlying22 cellsWU hf with ⟨hcs, _⟩ | ⟨a, len, cap, zs, hcs, _, hl, hm, hz, _, hcell, hwf⟩
  · simp [Value.cells] at hcs
    obtain ⟨rfl, rfl, rfl⟩ := hcs
    exact ⟨0, fun _ => 0, Or.inl ⟨_, _, rfl, rfl⟩⟩
  · simp [Value.cells] at hcs
    obtain ⟨rfl, rfl, rfl⟩ := hcs
    by_cases h0 : len0 = 0
    · subst h0
      exact ⟨0, fun _ => 0, Or.inl ⟨_, _, rfl, rfl⟩⟩
    have hzc : zs.length = cap0 := hz
    obtain ⟨b, off, rfl, hc⟩ := ints_at hcell (by omega)
    have hw : ∀ j, j < zs.length → ∃ x : Nat, zs.getD j 0 = x ∧ Um.Word x := by
      intro j hj
      have e : zs.getD j 0 = zs[j] := by simp [hj]
      rw [e]
      exact word_of (hwf _ (List.getElem_mem hj))
    refine ⟨len0, fun j => (zs.getD j 0).toNat, Or.inr ⟨b, off, cap0, rfl, by omega, hl, hm, ?_, fun j hj => ?_⟩⟩
    · exact World.block_lt_of_cell? W _ (hc 0 (by omega))
    · obtain ⟨x, hx, hw'⟩ := hw j (by omega)
      have e : (zs.getD j 0).toNat = x := by rw [hx]; rfl
      exact ⟨by rw [hc j (by omega), hx, ← e], by rw [← e] at hw'; exact hw'⟩

end Go.Proofs.Ytcpmclidndmgeaa

/-
  A play that was handed in (a thread, an epoch, how many steps, what is written meanwhile): what its reading says of its cells.
-/
namespace Go.Proofs.Ytcpmclidndmgeaa
set_option maxRecDepth 100000
open Go.ChangeShapes Go.WideShapes Go.ChangeAt Go.RowKit

theorem cellsPoke : Try.prog.cellsOf 92 = 4 := by kernel_rfl
theorem cellsPokes : Try.prog.cellsOf 26 = 1 := by kernel_rfl

theorem ls4 {α : Type} {cs : List α} (h : cs.length = 4) : ∃ c0 c1 c2 c3, cs = [c0, c1, c2, c3] := by
  match cs, h with
  | [c0, c1, c2, c3], _ => exact ⟨c0, c1, c2, c3, rfl⟩

/-- what is written: ahead of which step, which spot, which word -/
structure Pok where
  st : Int
  k : Int
  a : Int
  v : Nat

/-- pokes lie in a row of elder cells -/
def PokesAt (w : World) (la : Option Addr) (nl : Nat) (Z : Nat → Pok) : Prop :=
  nl = 0 ∨ ∃ lb off, la = some ⟨lb, off, none⟩ ∧ lb < w.heap.size ∧
      ∀ i, i < nl → (w.cell? ⟨lb, off + i * 4, none⟩ = some (.int .i64 (Z i).st) ∧ w.cell? ⟨lb, off + (i * 4 + 1), none⟩ = some (.int .i64 (Z i).k) ∧ w.cell? ⟨lb, off + (i * 4 + 2), none⟩ = some (.int .i64 (Z i).a) ∧ w.cell? ⟨lb, off + (i * 4 + 3), none⟩ = some (.int .u64 ((Z i).v : Nat))) ∧
        (-9223372036854775808 ≤ (Z i).a ∧ (Z i).a ≤ 9223372036854775807) ∧ Um.Word (Z i).v

theorem open_pokes {H : Type} {enc : TypeId × Value → H} {W : World} {fuel : Nat} {cs : List Value} {x : DataW H × List MemPlace}
    (h : DataW.trod enc Try.prog W 0 (fun _ => true) true fuel 26 cs = some x) :
    ∃ la nl cl Z, cs = [.slice la nl cl] ∧ nl ≤ cl ∧ PokesAt W la nl Z := by
  rcases Deep.open_slice Try.underlying26 h with ⟨hcs, _⟩ | ⟨a, len, cap, m, n, D, Pl, hcs, _, hl, hm, hmm, _, hx⟩
  · exact ⟨none, 0, 0, fun _ => ⟨0, 0, 0, 0⟩, hcs, Nat.le_refl _, .inl rfl⟩
  · by_cases h0 : len = 0
    · subst h0
      exact ⟨some a, 0, cap, fun _ => ⟨0, 0, 0, 0⟩, hcs, Nat.zero_le _, .inl rfl⟩
    have hmc : m = cap := by rw [hmm]; rfl
    subst hmc
    have each : ∀ i, i < len → ∃ q : Pok, (W.cell? (a.add (i * 4)) = some (.int .i64 q.st) ∧ W.cell? (a.add (i * 4 + 1)) = some (.int .i64 q.k) ∧ W.cell? (a.add (i * 4 + 2)) = some (.int .i64 q.a) ∧ W.cell? (a.add (i * 4 + 3)) = some (.int .u64 (q.v : Nat))) ∧
        (-9223372036854775808 ≤ q.a ∧ q.a ≤ 9223372036854775807) ∧ Um.Word q.v := by
      intro i hi
      obtain ⟨cs', h1, h2⟩ := hx i (by omega)
      rw [cellsPoke] at h1
      obtain ⟨_, hlen, hcell⟩ := World.cells?_some h1
      obtain ⟨v0, v1, v2, v3, rfl⟩ := ls4 hlen
      obtain ⟨xs, n, _, _, hl, hxl, hfx⟩ := DataW.trod_struct Try.underlying92 h2
      obtain ⟨y0, y1, y2, y3, rfl⟩ := ls4 hxl
      obtain ⟨q0, e0, _, _⟩ := DataW.trod_int Try.underlying3 (hfx 0 _ rfl)
      obtain ⟨q1, e1, _, _⟩ := DataW.trod_int Try.underlying3 (hfx 1 _ rfl)
      obtain ⟨q2, e2, _, k2⟩ := DataW.trod_int Try.underlying3 (hfx 2 _ rfl)
      obtain ⟨q3, e3, _, k3⟩ := DataW.trod_int Try.underlying22 (hfx 3 _ rfl)
      obtain ⟨x', rfl, w3⟩ := word_of k3
      simp [cellsWI, cellsWU] at e0 e1 e2 e3
      subst e0 e1 e2 e3
      have c0 := hcell 0 (by omega)
      have c1 := hcell 1 (by omega)
      have c2 := hcell 2 (by omega)
      have c3 := hcell 3 (by omega)
      rw [Deep.add_add] at c0 c1 c2 c3
      exact ⟨⟨q0, q1, q2, x'⟩, ⟨by simpa using c0, by simpa using c1, by simpa using c2, by simpa using c3⟩, int_of k2, w3⟩
    have : ∃ Z : Nat → Pok, ∀ i, i < len → (W.cell? (a.add (i * 4)) = some (.int .i64 (Z i).st) ∧ W.cell? (a.add (i * 4 + 1)) = some (.int .i64 (Z i).k) ∧ W.cell? (a.add (i * 4 + 2)) = some (.int .i64 (Z i).a) ∧ W.cell? (a.add (i * 4 + 3)) = some (.int .u64 ((Z i).v : Nat))) ∧
        (-9223372036854775808 ≤ (Z i).a ∧ (Z i).a ≤ 9223372036854775807) ∧ Um.Word (Z i).v :=
      ⟨fun i => if hi : i < len then (each i hi).choose else ⟨0, 0, 0, 0⟩, fun i hi => by simp only [hi, dite_true]; exact (each i hi).choose_spec⟩
    obtain ⟨q, hq⟩ := this
    obtain ⟨b, off, spot⟩ := a
    have hspot : spot = none := by simpa [Addr.add] using World.cell?_spot (hq 0 (by omega)).1.1
    subst hspot
    refine ⟨_, len, m, q, hcs, hl, .inr ⟨b, off, rfl, ?_, fun i hi => ?_⟩⟩
    · have := (hq 0 (by omega)).1.1
      rw [Go.WideShapes.add_plain] at this
      exact World.block_lt_of_cell? W _ this
    · have := hq i hi
      simp only [Go.WideShapes.add_plain] at this
      exact this

end Go.Proofs.Ytcpmclidndmgeaa

/-
  What layer 8's laws are handed: a word with turns, a word with steps and what is written meanwhile, a row of integers: what their reading says of their cells.
-/
namespace Go.Proofs.Ytcpmclidndmgeaa
set_option maxRecDepth 100000
open Go.ChangeShapes Go.WideShapes Go.ChangeAt Go.RowKit

theorem cellsBool : Try.prog.cellsOf 4 = 1 := by kernel_rfl

theorem cellsBools : Try.prog.cellsOf 69 = 1 := by kernel_rfl

theorem ar3 {α : Type} {cs : Array α} (h : cs.size = 3) : ∃ c0 c1 c2, cs = #[c0, c1, c2] := by
  obtain ⟨l⟩ := cs
  match l, h with
  | [c0, c1, c2], _ => exact ⟨c0, c1, c2, rfl⟩

theorem ls3 {α : Type} {cs : List α} (h : cs.length = 3) : ∃ c0 c1 c2, cs = [c0, c1, c2] := by
  match cs, h with
  | [c0, c1, c2], _ => exact ⟨c0, c1, c2, rfl⟩

theorem ls1 {α : Type} {cs : List α} (h : cs.length = 1) : ∃ c0, cs = [c0] := by
  match cs, h with
  | [c0], _ => exact ⟨c0, rfl⟩

/-- a row of elder cells -/
def RowOf (w : World) (la : Option Addr) (nl : Nat) (Z : Nat → Value) : Prop :=
  nl = 0 ∨ ∃ lb off, la = some ⟨lb, off, none⟩ ∧ lb < w.heap.size ∧ ∀ i, i < nl → w.cell? ⟨lb, off + i, none⟩ = some (Z i)

theorem open_bools {H : Type} {enc : TypeId × Value → H} {W : World} {fuel : Nat} {cs : List Value} {x : DataW H × List MemPlace}
    (h : DataW.trod enc Try.prog W 0 (fun _ => true) true fuel 69 cs = some x) :
    ∃ (la : Option Addr) (nl cl : Nat) (Z : Nat → Bool), cs = [.slice la nl cl] ∧ nl ≤ cl ∧ RowOf W la nl (fun i => .bool (Z i)) := by
  rcases Deep.open_slice Try.underlying69 h with ⟨hcs, _⟩ | ⟨a, len, cap, m, n, D, Pl, hcs, _, hl, hm, hmm, _, hx⟩
  · exact ⟨none, 0, 0, fun _ => false, hcs, Nat.le_refl _, .inl rfl⟩
  · by_cases h0 : len = 0
    · subst h0
      exact ⟨some a, 0, cap, fun _ => false, hcs, Nat.zero_le _, .inl rfl⟩
    have hmc : m = cap := by rw [hmm]; rfl
    subst hmc
    have each : ∀ i, i < len → ∃ q : Bool, W.cell? (a.add i) = some (.bool q) := by
      intro i hi
      obtain ⟨cs', h1, h2⟩ := hx i (by omega)
      rw [cellsBool] at h1
      obtain ⟨_, hlen, hcell⟩ := World.cells?_some h1
      obtain ⟨v0, rfl⟩ := ls1 hlen
      obtain ⟨q0, e0, _⟩ := DataW.trod_bool Try.underlying4 h2
      simp at e0
      subst e0
      have c0 := hcell 0 (by omega)
      rw [Deep.add_add] at c0
      exact ⟨q0, by simpa using c0⟩
    have : ∃ Z : Nat → Bool, ∀ i, i < len → W.cell? (a.add i) = some (.bool (Z i)) :=
      ⟨fun i => if hi : i < len then (each i hi).choose else false, fun i hi => by simp only [hi, dite_true]; exact (each i hi).choose_spec⟩
    obtain ⟨q, hq⟩ := this
    obtain ⟨b, off, spot⟩ := a
    have hspot : spot = none := by simpa [Addr.add] using World.cell?_spot (hq 0 (by omega))
    subst hspot
    refine ⟨_, len, m, q, hcs, hl, .inr ⟨b, off, rfl, ?_, fun i hi => ?_⟩⟩
    · have := hq 0 (by omega)
      rw [Go.WideShapes.add_plain] at this
      exact World.block_lt_of_cell? W _ this
    · have := hq i hi
      rw [Go.WideShapes.add_plain] at this
      exact this

end Go.Proofs.Ytcpmclidndmgeaa

/-
  What layer 11's laws are handed: a play (what is laid, a snapshot, how many steps there are, what is written meanwhile), turns, a status: what their reading says of their cells.
-/
namespace Go.Proofs.Ytcpmclidndmgeaa
set_option maxRecDepth 100000
open Go.ChangeShapes Go.WideShapes Go.ChangeAt Go.RowKit

theorem cellsPlay11 : Try.prog.cellsOf 28 = 6 := by kernel_rfl

theorem cellsTurns11 : Try.prog.cellsOf 71 = 3 := by kernel_rfl

theorem cellsStat11 : Try.prog.cellsOf 68 = 7 := by kernel_rfl

theorem ar6 {α : Type} {cs : Array α} (h : cs.size = 6) : ∃ c0 c1 c2 c3 c4 c5, cs = #[c0, c1, c2, c3, c4, c5] := by
  obtain ⟨l⟩ := cs
  match l, h with
  | [c0, c1, c2, c3, c4, c5], _ => exact ⟨c0, c1, c2, c3, c4, c5, rfl⟩

theorem ls6 {α : Type} {cs : List α} (h : cs.length = 6) : ∃ c0 c1 c2 c3 c4 c5, cs = [c0, c1, c2, c3, c4, c5] := by
  match cs, h with
  | [c0, c1, c2, c3, c4, c5], _ => exact ⟨c0, c1, c2, c3, c4, c5, rfl⟩

theorem ar7j {α : Type} {cs : Array α} (h : cs.size = 7) : ∃ c0 c1 c2 c3 c4 c5 c6, cs = #[c0, c1, c2, c3, c4, c5, c6] := by
  obtain ⟨l⟩ := cs
  match l, h with
  | [c0, c1, c2, c3, c4, c5, c6], _ => exact ⟨c0, c1, c2, c3, c4, c5, c6, rfl⟩

theorem ls7j {α : Type} {cs : List α} (h : cs.length = 7) : ∃ c0 c1 c2 c3 c4 c5 c6, cs = [c0, c1, c2, c3, c4, c5, c6] := by
  match cs, h with
  | [c0, c1, c2, c3, c4, c5, c6], _ => exact ⟨c0, c1, c2, c3, c4, c5, c6, rfl⟩

theorem open_play11 {H : Type} {enc : TypeId × Value → H} {W : World} {base : Nat} {v : Value} {d : DataW H} {p : List MemPlace}
    (hv : Value.okWide Try.prog W .any base 28 v) (h : DataW.Trod enc Try.prog W 0 (fun _ => true) true 28 v d p) :
    ∃ (sl sd b : Int) (sn : Nat) (st : Int) (la : Option Addr) (nl cl : Nat) (Z : Nat → Pok), v = .agg #[.int .i64 sl, .int .i64 sd, .int .i64 b, .int .u64 (sn : Nat), .int .i64 st, .slice la nl cl] ∧ (-9223372036854775808 ≤ sl ∧ sl ≤ 9223372036854775807) ∧ Um.Word sn ∧ nl ≤ cl ∧ PokesAt W la nl Z := by
  obtain ⟨cs, rfl, hsz⟩ := okWide_struct Try.underlying28 hv
  obtain ⟨c0, c1, c2, c3, c4, c5, rfl⟩ := ar6 (hsz.trans cellsPlay11)
  obtain ⟨fuel, hf⟩ := h
  obtain ⟨xs, n, _, _, hl, hlen, hx⟩ := DataW.trod_struct Try.underlying28 hf
  obtain ⟨y0, y1, y2, y3, y4, y5, rfl⟩ := ls6 hlen
  obtain ⟨sl, e0, _, k0⟩ := DataW.trod_int Try.underlying3 (hx 0 _ rfl)
  obtain ⟨sd, e1, _, _⟩ := DataW.trod_int Try.underlying3 (hx 1 _ rfl)
  obtain ⟨b, e2, _, _⟩ := DataW.trod_int Try.underlying3 (hx 2 _ rfl)
  obtain ⟨r, e3, _, k3⟩ := DataW.trod_int Try.underlying22 (hx 3 _ rfl)
  obtain ⟨st, e4, _, _⟩ := DataW.trod_int Try.underlying3 (hx 4 _ rfl)
  obtain ⟨la, nl, cl, Z, e5, hnc, hZ⟩ := open_pokes (hx 5 _ rfl)
  obtain ⟨r', rfl, w1⟩ := word_of k3
  simp [Value.cells, cellsWI, cellsWU, cellsPokes] at e0 e1 e2 e3 e4 e5
  subst e0 e1 e2 e3 e4 e5
  exact ⟨sl, sd, b, r', st, la, nl, cl, Z, rfl, int_of k0, w1, hnc, hZ⟩

theorem open_turns11 {H : Type} {enc : TypeId × Value → H} {W : World} {base : Nat} {v : Value} {d : DataW H} {p : List MemPlace}
    (hv : Value.okWide Try.prog W .any base 71 v) (h : DataW.Trod enc Try.prog W 0 (fun _ => true) true 71 v d p) :
    ∃ (ta tb : Int) (la : Option Addr) (nl cl : Nat) (Z : Nat → Bool), v = .agg #[.int .i64 ta, .int .i64 tb, .slice la nl cl] ∧ (-9223372036854775808 ≤ ta ∧ ta ≤ 9223372036854775807) ∧ (-9223372036854775808 ≤ tb ∧ tb ≤ 9223372036854775807) ∧ nl ≤ cl ∧ RowOf W la nl (fun i => .bool (Z i)) := by
  obtain ⟨cs, rfl, hsz⟩ := okWide_struct Try.underlying71 hv
  obtain ⟨c0, c1, c2, rfl⟩ := ar3 (hsz.trans cellsTurns11)
  obtain ⟨fuel, hf⟩ := h
  obtain ⟨xs, n, _, _, hl, hlen, hx⟩ := DataW.trod_struct Try.underlying71 hf
  obtain ⟨y0, y1, y2, rfl⟩ := ls3 hlen
  obtain ⟨ta, e0, _, k0⟩ := DataW.trod_int Try.underlying3 (hx 0 _ rfl)
  obtain ⟨tb, e1, _, k1⟩ := DataW.trod_int Try.underlying3 (hx 1 _ rfl)
  obtain ⟨la, nl, cl, Z, e2, hnc, hZ⟩ := open_bools (hx 2 _ rfl)
  simp [Value.cells, cellsWI, cellsBools] at e0 e1 e2
  subst e0 e1 e2
  exact ⟨ta, tb, la, nl, cl, Z, rfl, int_of k0, int_of k1, hnc, hZ⟩

theorem open_status11 {H : Type} {enc : TypeId × Value → H} {W : World} {base : Nat} {v : Value} {d : DataW H} {p : List MemPlace}
    (hv : Value.okWide Try.prog W .any base 68 v) (h : DataW.Trod enc Try.prog W 0 (fun _ => true) true 68 v d p) :
    ∃ (g st : Int) (b i o : Bool) (n t : Int), v = .agg #[.int .i64 g, .int .i64 st, .bool b, .bool i, .bool o, .int .i64 n, .int .i64 t] := by
  obtain ⟨cs, rfl, hsz⟩ := okWide_struct Try.underlying68 hv
  obtain ⟨c0, c1, c2, c3, c4, c5, c6, rfl⟩ := ar7j (hsz.trans cellsStat11)
  obtain ⟨fuel, hf⟩ := h
  obtain ⟨xs, n, _, _, hl, hlen, hx⟩ := DataW.trod_struct Try.underlying68 hf
  obtain ⟨y0, y1, y2, y3, y4, y5, y6, rfl⟩ := ls7j hlen
  obtain ⟨g, e0, _, _⟩ := DataW.trod_int Try.underlying3 (hx 0 _ rfl)
  obtain ⟨st, e1, _, _⟩ := DataW.trod_int Try.underlying3 (hx 1 _ rfl)
  obtain ⟨b, e2, _⟩ := DataW.trod_bool Try.underlying4 (hx 2 _ rfl)
  obtain ⟨i, e3, _⟩ := DataW.trod_bool Try.underlying4 (hx 3 _ rfl)
  obtain ⟨o, e4, _⟩ := DataW.trod_bool Try.underlying4 (hx 4 _ rfl)
  obtain ⟨m, e5, _, _⟩ := DataW.trod_int Try.underlying3 (hx 5 _ rfl)
  obtain ⟨t, e6, _, _⟩ := DataW.trod_int Try.underlying3 (hx 6 _ rfl)
  simp [Value.cells, cellsWI, cellsBool] at e0 e1 e2 e3 e4 e5 e6
  subst e0 e1 e2 e3 e4 e5 e6
  exact ⟨g, st, b, i, o, m, t, rfl⟩

end Go.Proofs.Ytcpmclidndmgeaa

/-
  Plain arithmetic of layer 11: what the laws of two ask: where they begin, what they tell at their ends. No Go in sight.
-/
namespace Um
set_option maxRecDepth 100000

theorem slot0 {c : Cf} (hr : c.r = true) : (0 : Int) < c.s := by have := c.rb hr; omega

theorem ok0 {b : Int} (h0 : 0 ≤ b) (h1 : b ≤ 7) : okS 0 b = true := okS_iff.2 ⟨by omega, by omega, by omega⟩

theorem ok1 {b : Int} (h0 : 0 ≤ b) (h1 : b ≤ 7) : okS 1 b = true := okS_iff.2 ⟨by omega, by omega, by omega⟩

theorem store_at {c : Cf} {m : Mm} {a b : Int} {v : Nat} (h : 0 ≤ c.cl a b) : (mtouch c m 2 a b 0 v).ws (c.cl a b).toNat = v := by
  rw [put_ws, if_pos (by omega)]

theorem store_off {c : Cf} {m : Mm} {a b : Int} {v : Nat} {i : Int} (h : 0 ≤ i) (hn : i ≠ c.cl a b) : (mtouch c m 2 a b 0 v).ws i.toNat = m.ws i.toNat := by
  rw [put_ws, if_neg (by omega)]

/-- a memory with one status in it, and a number -/
theorem two_start {c : Cf} (hr : c.r = true) (m0 m1 m2 : Mm) (v n : Nat) (h1 : m1 = mtouch c m0 2 4 0 0 v) (h2 : m2 = mtouch c m1 2 6 0 0 n) :
    m2.ws (c.cl 4 0).toNat = v ∧ m2.ws (c.cl 6 0).toNat = n := by
  have hc := slot_cells hr (Int.le_refl 0) (slot0 hr)
  have hne := num_ne hr (Int.le_refl 0) (slot0 hr)
  rw [h2, store_at hc.2, store_off hc.1 (fun q => hne q.symm), h1, store_at hc.1]
  exact ⟨rfl, rfl⟩

theorem one_start {c : Cf} (hr : c.r = true) (m0 m1 : Mm) (v : Nat) (h1 : m1 = mtouch c m0 2 4 0 0 v) :
    m1.ws (c.cl 4 0).toNat = v ∧ m1.ws (c.cl 6 0).toNat = m0.ws (c.cl 6 0).toNat := by
  have hc := slot_cells hr (Int.le_refl 0) (slot0 hr)
  have hne := num_ne hr (Int.le_refl 0) (slot0 hr)
  rw [h1, store_at hc.1, store_off hc.2 hne]
  exact ⟨rfl, rfl⟩

/-- what two of either side come to: one of them has it -/
theorem bj_two {W : Nat} {b d : Int} {x y : Js} (h : Bj W 0 1 b d x y) (hx : x.r ≠ 0) (hy : y.r ≠ 0) :
    (x.r = 2 ∧ y.r = 3 ∧ hasN W 0 b = true ∧ hasN W 1 d = false ∧ anyN W 0 = true ∧ anyN W 1 = false) ∨
    (x.r = 3 ∧ y.r = 2 ∧ hasN W 0 b = false ∧ hasN W 1 d = true ∧ anyN W 0 = false ∧ anyN W 1 = true) := by
  obtain ⟨t1, t2, t3⟩ := bj_tell h hx hy
  have no : ∀ {u v : Bool}, ¬ (u = true ∧ v = true) → u = true → v = false := by
    intro u v h1 h2
    cases v
    · rfl
    · exact absurd ⟨h2, rfl⟩ h1
  rcases t1 with ⟨x1, x2⟩ | ⟨x1, x2⟩
  · rcases t2 with ⟨y1, y2⟩ | ⟨y1, y2⟩
    · exact absurd ⟨x1, y1⟩ t3
    · exact .inl ⟨x1, y1, x2, y2, has_any x2, no h.one (has_any x2)⟩
  · rcases t2 with ⟨y1, y2⟩ | ⟨y1, y2⟩
    · exact .inr ⟨x1, y1, x2, y2, no (fun q => h.one ⟨q.2, q.1⟩) (has_any y2), has_any y2⟩
    · have q1 := (h.X.thr x1).1
      have q2 := (h.Y.thr y1).1
      exact absurd ⟨q2, q1⟩ h.one

theorem st_pack {g st : Int} {b i o : Bool} {n t : Int} (h : okSt g st n t = true) : ((stN (packV g st b i o n t) : Nat) : Int) = st := by
  have hp := pack_parts (b := b) (i := i) (o := o) h
  rw [packV_yes h]
  unfold stN
  obtain ⟨t0, t1, n0, n1, s0, s1, g0, g1⟩ := okSt_iff.1 h
  have := hp
  omega

end Um
