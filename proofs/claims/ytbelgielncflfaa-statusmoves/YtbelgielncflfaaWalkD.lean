/-
  The walk of packing.
-/
import Derived.Test.YtbelgielncflfaaEq
import Derived.Test.YtbelgielncflfaaWords
namespace Go.Proofs.Ytbelgielncflfaa
open Go.RowKit
attribute [local go_sem] alloc_drewN setCell_drewN

theorem bits_put (x p n k : Nat) (hx : Um.Word x) (hp : Um.Word p) (h : n + k ≤ 64) (hn : n < 64) :
    bits .or .u64 (x : Int) (IntKind.u64.wrap (bits .and .u64 (p : Int) ((2 ^ n - 1 : Nat) : Int) * 2 ^ k)) = ((x ||| p % 2 ^ n * 2 ^ k : Nat) : Int) := by
  have h1 : Um.Word (2 ^ n - 1) := Nat.lt_of_le_of_lt (Nat.sub_le _ _) (pow_word hn)
  have h2 := shl_word p n k h
  rw [u64_and_nat _ _ hp h1, Um.and_mask, show (((p % 2 ^ n : Nat) : Int) * 2 ^ k) = ((p % 2 ^ n * 2 ^ k : Nat) : Int) by simp, wrap_word h2, u64_or_nat _ _ hx h2]

set_option maxHeartbeats 400000 in
theorem put1_any (x : Nat) (p : Int) (k : Nat) (a : Int) (B C : Nat) (w : World) (hx : Um.Word x) (hp : 0 ≤ p ∧ p < 18446744073709551616) (h0 : 0 ≤ a) (h1 : a < 63) (hk : k < 64) (hak : a.toNat + k ≤ 64) (hBC : B ≠ C)
    (hc : w.cell? ⟨B, 0, none⟩ = some (.int .u64 x)) (hf : w.frozen? ⟨B, 0, none⟩ = false) (hc2 : w.cell? ⟨C, 0, none⟩ = some (.int .i64 k)) (hf2 : w.frozen? ⟨C, 0, none⟩ = false) :
    Calls Try.prog 25 #[.int .u64 p, .int .i64 a, .pointer (some ⟨B, 0, none⟩), .pointer (some ⟨C, 0, none⟩)] w fun e w' =>
      e = .returned (.tuple #[]) ∧ ∃ m y, Hid (y = x ||| (p.toNat % 2 ^ a.toNat) * 2 ^ k) ∧ Um.Word y ∧ w' = ((w.setCell ⟨B, 0, none⟩ (.int .u64 (y : Nat))).setCell ⟨C, 0, none⟩ (.int .i64 (k + a))).drewN m := by
  obtain ⟨hp0, hp1⟩ := hp
  obtain ⟨q, rfl⟩ := Int.eq_ofNat_of_zero_le hp0
  rw [Int.toNat_natCast]
  have hq : Um.Word q := by unfold Um.Word; omega
  have hw : Um.Word (x ||| q % 2 ^ a.toNat * 2 ^ k) := or_word hx (shl_word _ _ _ hak)
  have e := bits_put x q a.toNat k hx hq hak (by omega)
  have E := hide e
  clear e hp0 hp1
  go_enter Try.func25, Try.ntmps25
  go_wp2
  go_region_with ((go_at_call 26; refine (ones_any _ _ (by omega) (by omega)).mono ?_; rintro e w' ⟨rfl, rfl⟩))
  all_goals go_wp2
  all_goals go_end0
  all_goals refine ⟨rfl, 1, _, hide rfl, hw, ?_⟩
  all_goals rw [unhide E]
  all_goals rfl

theorem bcell {W w1 : World} (hb : Below W.heap.size W w1) : (∀ b o, b < W.heap.size → w1.cell? ⟨b, o, none⟩ = W.cell? ⟨b, o, none⟩) ∧ (∀ b o, b < W.heap.size → w1.frozen? ⟨b, o, none⟩ = W.frozen? ⟨b, o, none⟩) :=
  ⟨fun b o h => hb.cell (p := ⟨b, o, none⟩) h, fun b o h => hb.frozen (p := ⟨b, o, none⟩) h⟩

set_option maxHeartbeats 4000000 in
theorem pack_any (g st : Int) (b i o : Bool) (n t : Int) (w : World) :
    Calls Try.prog 10 #[.agg #[.int .i64 g, .int .i64 st, .bool b, .bool i, .bool o, .int .i64 n, .int .i64 t]] w fun e w' =>
      e = .returned (.tuple #[.int .u64 (Um.packV g st b i o n t : Int), .bool (Um.okSt g st n t)]) ∧ Below w.heap.size w w' := by
  go_enter Try.func10, Try.ntmps10
  go_wp2_with fail
  refine (put1_any 0 (IntKind.u64.wrap t) 0 12 _ _ _ (Um.word_iff.2 (by decide)) (wrap_bd t) (by decide) (by decide) (by decide) (by decide) (by omega) (by go_simp) (by go_simp) (by go_simp) (by go_simp)).mono ?_
  rintro e w1 ⟨rfl, n0, x0, H0, hw0, rfl⟩
  go_wp2_with fail
  refine (put1_any x0 (IntKind.u64.wrap n) 12 12 _ _ _ hw0 (wrap_bd n) (by decide) (by decide) (by decide) (by decide) (by omega) (by go_simp) (by go_simp) (by go_simp) (by go_simp)).mono ?_
  rintro e w1 ⟨rfl, n1, x1, H1, hw1, rfl⟩
  go_wp2_with (go_at_call 27; refine (flag_any _ _).mono ?_; rintro e w1 ⟨rfl, rfl⟩)
  refine (put1_any x1 (o.toNat : Int) 24 1 _ _ _ hw1 (by cases o <;> decide) (by decide) (by decide) (by decide) (by decide) (by omega) (by go_simp) (by go_simp) (by go_simp) (by go_simp)).mono ?_
  rintro e w1 ⟨rfl, n2, x2, H2, hw2, rfl⟩
  go_wp2_with (go_at_call 27; refine (flag_any _ _).mono ?_; rintro e w1 ⟨rfl, rfl⟩)
  refine (put1_any x2 (i.toNat : Int) 25 1 _ _ _ hw2 (by cases i <;> decide) (by decide) (by decide) (by decide) (by decide) (by omega) (by go_simp) (by go_simp) (by go_simp) (by go_simp)).mono ?_
  rintro e w1 ⟨rfl, n3, x3, H3, hw3, rfl⟩
  go_wp2_with (go_at_call 27; refine (flag_any _ _).mono ?_; rintro e w1 ⟨rfl, rfl⟩)
  refine (put1_any x3 (b.toNat : Int) 26 1 _ _ _ hw3 (by cases b <;> decide) (by decide) (by decide) (by decide) (by decide) (by omega) (by go_simp) (by go_simp) (by go_simp) (by go_simp)).mono ?_
  rintro e w1 ⟨rfl, n4, x4, H4, hw4, rfl⟩
  go_wp2_with fail
  refine (put1_any x4 (IntKind.u64.wrap st) 27 3 _ _ _ hw4 (wrap_bd st) (by decide) (by decide) (by decide) (by decide) (by omega) (by go_simp) (by go_simp) (by go_simp) (by go_simp)).mono ?_
  rintro e w1 ⟨rfl, n5, x5, H5, hw5, rfl⟩
  go_wp2_with fail
  refine (put1_any x5 (IntKind.u64.wrap g) 30 32 _ _ _ hw5 (wrap_bd g) (by decide) (by decide) (by decide) (by decide) (by omega) (by go_simp) (by go_simp) (by go_simp) (by go_simp)).mono ?_
  rintro e w1 ⟨rfl, n6, x6, H6, hw6, rfl⟩
  go_wp2_with fail
  have hj := Um.join7 H0 H1 H2 H3 H4 H5 H6
  have hp := Um.parts7 (T := (IntKind.u64.wrap t).toNat % 4096) (N := (IntKind.u64.wrap n).toNat % 4096) (S := (IntKind.u64.wrap st).toNat % 8) (G := (IntKind.u64.wrap g).toNat % 4294967296) (x := x6) (o := o) (i := i) (b := b)
    (Nat.mod_lt _ (by decide)) (Nat.mod_lt _ (by decide)) (Nat.mod_lt _ (by decide)) (Nat.mod_lt _ (by decide)) (by rw [hj]; have ho := Um.bool_le o; have hi := Um.bool_le i; have hb := Um.bool_le b; simp only [Int.toNat_natCast]; omega)
  clear H0 H1 H2 H3 H4 H5 H6 hw0 hw1 hw2 hw3 hw4 hw5
  by_cases hg : 1073741824 < g
  · have hok : Um.okSt g st n t = false := by
      cases hh : Um.okSt g st n t
      · rfl
      · have := Um.okSt_iff.1 hh; omega
    have HO := hide hok
    clear hj hp hok
    go_region_with fail
    all_goals go_wp2
    all_goals go_ret2
    all_goals rw [unhide HO, Um.packV_no (unhide HO)]
    all_goals refine ⟨rfl, ?_⟩
    all_goals exact (((((Below.refl _ _).alloc (Nat.le_refl _) _).alloc (by simp) _).alloc (by simp; omega) _).trans ⟨rfl, rfl, rfl, Nat.le_refl _, fun _ _ => rfl⟩)
  · have hneq : ∀ w, (binOp .neq 27 (.agg #[.int .i64 (Um.part x6 30 32), .int .i64 (Um.part x6 27 3), .bool (x6.testBit 26), .bool (x6.testBit 25), .bool (x6.testBit 24), .int .i64 (Um.part x6 12 12), .int .i64 (Um.part x6 0 12)]) (.agg #[.int .i64 g, .int .i64 st, .bool b, .bool i, .bool o, .int .i64 n, .int .i64 t])).run Try.prog w = .ok (.bool (!(Um.okSt g st n t))) w := by
      apply neqStatus _ (Or.inl rfl)
      obtain ⟨h1, h2, h3, h4, h5, h6, h7⟩ := hp
      rw [h1, h2, h3, h4, h5, h6, h7, Bool.eq_iff_iff, Um.okSt_iff, decide_eq_true_iff]
      simp only [true_and]
      rw [IntKind.wrap_u64, IntKind.wrap_u64, IntKind.wrap_u64, IntKind.wrap_u64]
      omega
    have hval : Um.okSt g st n t = true → Um.packN g st b i o n t = x6 := by
      intro hh
      have := Um.okSt_iff.1 hh
      rw [hj]
      unfold Um.packN
      have ho := Um.bool_le o; have hi := Um.bool_le i; have hb := Um.bool_le b
      simp only [Int.toNat_natCast]
      rw [IntKind.wrap_u64, IntKind.wrap_u64, IntKind.wrap_u64, IntKind.wrap_u64]
      omega
    have HV := hide hval
    clear hval hj hp
    cases hok : Um.okSt g st n t
    all_goals
      rw [hok] at hneq
      go_region_with ((go_at_call 13; refine (unpack_any _ _ hw6).mono ?_; rintro e w1 ⟨rfl, hb⟩; obtain ⟨hc, hf⟩ := bcell hb))
      all_goals go_wp2
      all_goals go_ret2
      all_goals try rw [hok]
      all_goals try rw [Um.packV_no hok]
      all_goals try rw [Um.packV_yes hok, unhide HV hok]
      all_goals refine ⟨rfl, ?_⟩
      all_goals exact (below_drewN ((((Below.refl _ _).alloc (Nat.le_refl _) _).alloc (by simp) _).alloc (by simp; omega) _) _).trans (hb.mono (by simp; omega))

end Go.Proofs.Ytbelgielncflfaa
