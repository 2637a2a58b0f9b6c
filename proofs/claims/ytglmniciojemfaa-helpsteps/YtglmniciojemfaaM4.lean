/-
  Texts that the laws stand on, merged (TallyMath, HelpMath, TallyA, WalkB, WalkC, Eq, WalkE, HelpW, HelpN, BlkE, Og, Og2, StoreE, StoreM, StoreF).
-/
import Derived.Test.YtglmniciojemfaaM1
import Derived.Test.YtglmniciojemfaaM3
import Derived.Deep.RegionWith
import Derived.Laws.EntriesVeiled
import Derived.Lib.QuietBelow
import Derived.Orders
import Derived.WalkKit
import Derived.WalkSmall

/-
  Plain arithmetic of layer 3's words: no Go in sight.
-/
namespace Um
set_option maxRecDepth 100000

/-- A tally that has a word. -/
def tok (s : Nat) (p : Int) : Bool := decide (s ≤ 1099511627775 ∧ -1 ≤ p ∧ p ≤ 11)

/-- Its word; 0, if there is none. -/
def tpack (s : Nat) (p : Int) : Nat := if tok s p then 16 * s + (p + 1).toNat else 0

/-- The parts of a word, and the word of which nothing is pending. -/
def seqN (x : Nat) : Nat := x / 16
def penN (x : Nat) : Int := (x % 16 : Nat) - 1
def setlN (x : Nat) : Nat := x - x % 16

theorem setl_word {x : Nat} (h : Word x) : Word (setlN x) := Nat.lt_of_le_of_lt (Nat.sub_le _ _) h
theorem seq_setl (x : Nat) : seqN (setlN x) = seqN x := by unfold seqN setlN; omega
theorem pen_setl (x : Nat) : penN (setlN x) = -1 := by unfold penN setlN; omega
theorem setl_setl (x : Nat) : setlN (setlN x) = setlN x := by unfold setlN; omega
theorem pen_none (x : Nat) : penN x = -1 ↔ x % 16 = 0 := by unfold penN; omega
theorem seq_word {x : Nat} (h : Word x) : seqN x + 1 < 1152921504606846977 := by unfold seqN; unfold Word at h; omega

/-- A commit more may be behind x. -/
def nok (x : Nat) (p : Int) : Bool := decide (penN x = -1 ∧ 0 ≤ p) && tok (seqN x + 1) p

/-- The word behind x; 0, if there is none. -/
def tnext (x : Nat) (p : Int) : Nat := if nok x p then tpack (seqN x + 1) p else 0

def past (n s : Nat) : Bool := decide (0 < n ∧ n ≤ s)

theorem tok_iff {s : Nat} {p : Int} : tok s p = true ↔ s ≤ 1099511627775 ∧ -1 ≤ p ∧ p ≤ 11 := by unfold tok; simp

theorem tok_no {s : Nat} {p : Int} : tok s p = false ↔ ¬ (s ≤ 1099511627775 ∧ -1 ≤ p ∧ p ≤ 11) := by unfold tok; simp

theorem tpack_yes {s : Nat} {p : Int} (h : tok s p = true) : tpack s p = 16 * s + (p + 1).toNat := by unfold tpack; rw [if_pos h]

theorem tpack_no {s : Nat} {p : Int} (h : tok s p = false) : tpack s p = 0 := by unfold tpack; rw [h]; rfl

theorem tpack_word (s : Nat) (p : Int) : Word (tpack s p) := by
  unfold Word
  cases h : tok s p
  · rw [tpack_no h]; omega
  · rw [tpack_yes h]; have := tok_iff.1 h; omega

theorem tpack_seq {s : Nat} {p : Int} (h : tok s p = true) : seqN (tpack s p) = s := by
  unfold seqN; rw [tpack_yes h]; have := tok_iff.1 h; omega

theorem tpack_pending {s : Nat} {p : Int} (h : tok s p = true) : penN (tpack s p) = p := by
  unfold penN; rw [tpack_yes h]; have := tok_iff.1 h; omega

theorem nok_iff {x : Nat} {p : Int} : nok x p = true ↔ penN x = -1 ∧ 0 ≤ p ∧ p ≤ 11 ∧ seqN x + 1 ≤ 1099511627775 := by
  unfold nok
  rw [Bool.and_eq_true, decide_eq_true_iff, tok_iff]
  omega

theorem tnext_yes {x : Nat} {p : Int} (h : nok x p = true) : tnext x p = tpack (seqN x + 1) p := by unfold tnext; rw [if_pos h]

theorem tnext_no {x : Nat} {p : Int} (h : nok x p = false) : tnext x p = 0 := by unfold tnext; rw [h]; rfl

theorem nok_tok {x : Nat} {p : Int} (h : nok x p = true) : tok (seqN x + 1) p = true := by
  unfold nok at h
  exact (Bool.and_eq_true _ _ ▸ h).2

theorem tnext_word (x : Nat) (p : Int) : Word (tnext x p) := by
  cases h : nok x p
  · rw [tnext_no h]; unfold Word; omega
  · rw [tnext_yes h]; exact tpack_word _ _

theorem tpack_inj {s t : Nat} {p q : Int} (h : tok s p = true) (h' : tok t q = true) : tpack s p = tpack t q ↔ s = t ∧ p = q := by
  rw [tpack_yes h, tpack_yes h']
  have := tok_iff.1 h
  have := tok_iff.1 h'
  omega

theorem nok_settled {s : Nat} {q : Int} (h : tok s (-1) = true) : nok (tpack s (-1)) q = true ↔ 0 ≤ q ∧ q < 12 ∧ s < 1099511627775 := by
  rw [nok_iff, tpack_seq h, tpack_pending h]
  omega

theorem nok_settled_no {s : Nat} {q : Int} (h : tok s (-1) = true) (h' : ¬ (0 ≤ q ∧ q < 12 ∧ s < 1099511627775)) : nok (tpack s (-1)) q = false := by
  cases hh : nok (tpack s (-1)) q
  · rfl
  · exact absurd ((nok_settled h).1 hh) h'

theorem tnext_settled {s : Nat} {q : Int} (h : tok s (-1) = true) (h' : 0 ≤ q ∧ q < 12 ∧ s < 1099511627775) : tnext (tpack s (-1)) q = tpack (s + 1) q := by
  rw [tnext_yes ((nok_settled h).2 h'), tpack_seq h]

theorem nok_pending {s : Nat} {q r : Int} (h : tok s q = true) (h0 : 0 ≤ q) : nok (tpack s q) r = false := by
  cases hh : nok (tpack s q) r
  · rfl
  · have := (nok_iff.1 hh).1
    rw [tpack_pending h] at this
    omega

theorem setl_tpack {s : Nat} {q : Int} (h : tok s q = true) : setlN (tpack s q) = tpack s (-1) := by
  have h1 := tok_iff.1 h
  have h2 : tok s (-1) = true := tok_iff.2 (by omega)
  unfold setlN
  rw [tpack_yes h, tpack_yes h2]
  omega

/-- A multiple of 16 and four bits more: or is plus. -/
theorem or_low (s k : Nat) (h : k < 16) : (16 * s) ||| k = 16 * s + k := by
  have := Nat.two_pow_add_eq_or_of_lt (i := 4) (b := k) (by omega) s
  rw [show (2 : Nat) ^ 4 = 16 by decide] at this
  exact this.symm

end Um

/-
  Plain arithmetic of layer 8: a commit that is noted. No Go in sight.
-/
namespace Um
set_option maxRecDepth 100000

/-- a status word's state -/
def stN (x : Nat) : Nat := part x 27 3

/-- a status word of the state Committed, busy as it was -/
def comN (x : Nat) : Nat := moveN x 4 (x.testBit 26)

/-- a help over a memory: the memory, its next step (4: it is done), what it looked at -/
structure Hs where
  m : Mm
  nx : Nat
  s : Nat

/-- a help's step -/
def hstep (c : Cf) (w : Nat) (h : Hs) : Hs :=
  if h.nx = 0 then ⟨mtouch c h.m 3 6 (penN w) 0 (seqN w), 1, h.s⟩
  else if h.nx = 1 then ⟨mtouch c h.m 1 4 (penN w) 0 0, if stN (mtouch c h.m 1 4 (penN w) 0 0).l.old = 3 then 2 else 3, (mtouch c h.m 1 4 (penN w) 0 0).l.old⟩
  else if h.nx = 2 then ⟨mtouch c h.m 3 4 (penN w) h.s (comN h.s), cond (mtouch c h.m 3 4 (penN w) h.s (comN h.s)).l.done 3 1, h.s⟩
  else if h.nx = 3 then ⟨mtouch c h.m 3 1 0 w (setlN w), 4, h.s⟩
  else h

/-- the first step of a word's help -/
def hfst (w : Nat) : Nat := if penN w < 0 then 4 else 0

theorem seq_isword {w : Nat} (h : Word w) : Word (seqN w) := by unfold Word at *; unfold seqN; omega

theorem com_word {x : Nat} (h : Word x) : Word (comN x) := move_word h (by decide)

theorem pen_bd (w : Nat) : -1 ≤ penN w ∧ penN w ≤ 14 := by unfold penN; omega

theorem hstep_words {c : Cf} {w : Nat} {h : Hs} (hw : Word w) (hs : Word h.s) (hm : ∀ i, i < c.n → Word (h.m.ws i)) : (∀ i, i < c.n → Word ((hstep c w h).m.ws i)) ∧ Word (hstep c w h).s := by
  unfold hstep
  split
  · exact ⟨word_touch hm (seq_isword hw), hs⟩
  split
  · exact ⟨word_touch hm (by unfold Word; omega), old_word hm⟩
  split
  · exact ⟨word_touch hm (com_word hs), hs⟩
  split
  · exact ⟨word_touch hm (setl_word hw), hs⟩
  · exact ⟨hm, hs⟩

theorem hstep_nx {c : Cf} {w : Nat} {h : Hs} (hn : h.nx ≤ 4) : (hstep c w h).nx ≤ 4 := by
  unfold hstep
  split
  · show 1 ≤ 4
    decide
  split
  · show (if _ then 2 else 3) ≤ 4
    split <;> decide
  split
  · show cond _ 3 1 ≤ 4
    cases (mtouch c h.m 3 4 (penN w) h.s (comN h.s)).l.done <;> decide
  split
  · show 4 ≤ 4
    decide
  · exact hn

end Um

/-
  The walks of layer 3's functions, and of the document's answers for them.
-/
namespace Go.Proofs.Ytglmniciojemfaa
set_option maxRecDepth 100000
open Go.RowKit Go.Sort

/-- '==' of two tallies. -/
theorem eqTally (T : TypeId) (hT : T = 86 ∨ T = 62) (s p s' p' : Int) (w : World) :
    (Op.equalIn 10000 T (.agg #[.int .u64 s, .int .i64 p]) (.agg #[.int .u64 s', .int .i64 p'])).run Try.prog w = .ok (decide (s = s' ∧ p = p')) w := by
  rw [show (10000:Nat) = 9999 + 1 from rfl]
  rcases hT with rfl | rfl
  all_goals
    rw [run_equalIn_agg w 9999 _ _ _ (by kernel_rfl) (by kernel_rfl)]
    go_simp
    (repeat' split) <;> simp_all

theorem neqTally (T : TypeId) (hT : T = 86 ∨ T = 62) {s p s' p' : Int} {r : Bool} (hr : r = decide (s = s' ∧ p = p')) (w : World) :
    (binOp .neq T (.agg #[.int .u64 s, .int .i64 p]) (.agg #[.int .u64 s', .int .i64 p'])).run Try.prog w = .ok (.bool (!r)) w := by
  rw [run_neq_struct, eqTally T hT, hr]
  rfl

theorem eqlTally (T : TypeId) (hT : T = 86 ∨ T = 62) {s p s' p' : Int} {r : Bool} (hr : r = decide (s = s' ∧ p = p')) (w : World) :
    (binOp .eql T (.agg #[.int .u64 s, .int .i64 p]) (.agg #[.int .u64 s', .int .i64 p'])).run Try.prog w = .ok (.bool r) w := by
  rw [run_eql_struct, eqTally T hT, hr]
  rfl

set_option maxHeartbeats 400000 in
theorem tSettled_any (x : Nat) (w : World) (hx : Um.Word x) :
    Calls Try.prog 61 #[.int .u64 x] w fun e w' => e = .returned (.int .u64 (Um.setlN x : Nat)) ∧ w' = w := by
  go_enter Try.func61, Try.ntmps61
  go_wp2
  go_ret
  refine ⟨ret_u64 ?_, rfl⟩
  rw [IntKind.wrap_u64]
  unfold Um.Word at hx
  unfold Um.setlN
  omega

set_option maxHeartbeats 400000 in
theorem trSettled_any (x : Nat) (w : World) (hx : Um.Word x) :
    Calls Try.prog 27 #[.int .u64 x] w fun e w' => e = .returned (.int .u64 (Um.setlN x : Nat)) ∧ w' = w := by
  unfold Um.Word at hx
  go_enter Try.func27, Try.ntmps27
  go_wp2
  go_ret
  exact ⟨ret_u64 (by unfold Um.setlN; omega), rfl⟩

set_option maxHeartbeats 400000 in
theorem tUnpack_any (x : Nat) (w : World) (hx : Um.Word x) :
    Calls Try.prog 39 #[.int .u64 x] w fun e w' => e = .returned (.agg #[.int .u64 (Um.seqN x : Nat), .int .i64 (Um.penN x)]) ∧ Below w.heap.size w w' := by
  have hle : Um.setlN x ≤ x ∧ x < Um.setlN x + 16 := by unfold Um.setlN; omega
  obtain ⟨hle1, hle2⟩ := hle
  go_enter Try.func39, Try.ntmps39
  go_wp2_with fail
  refine (tSettled_any _ _ hx).mono ?_
  rintro e w1 ⟨rfl, rfl⟩
  go_wp2
  have e1 : (x : Int) - (Um.setlN x : Int) + -1 = Um.penN x := by unfold Um.setlN Um.penN; omega
  have e2 : (x : Int) / 16 = (Um.seqN x : Int) := by unfold Um.seqN; omega
  rw [e1, e2]
  refine bodyPost_ret (v := .agg #[.int .u64 (Um.seqN x : Nat), .int .i64 (Um.penN x)]) (by simp [results, Try.results39, go_sem]) rfl ⟨rfl, ?_⟩
  exact (Below.refl _ _).alloc (Nat.le_refl _) _

set_option maxHeartbeats 400000 in
theorem trUnpack_any (x : Nat) (w : World) (hx : Um.Word x) :
    Calls Try.prog 28 #[.int .u64 x] w fun e w' => e = .returned (.agg #[.int .u64 (Um.seqN x : Nat), .int .i64 (Um.penN x)]) ∧ Below w.heap.size w w' := by
  go_enter Try.func28, Try.ntmps28
  go_wp2
  have e1 : (x : Int) % 16 - 1 = Um.penN x := by unfold Um.penN; omega
  have e2 : IntKind.u64.wrap ((x : Int) / 16) = (Um.seqN x : Int) := by rw [IntKind.wrap_u64]; unfold Um.Word at hx; unfold Um.seqN; omega
  rw [e1, e2]
  refine bodyPost_ret (v := .agg #[.int .u64 (Um.seqN x : Nat), .int .i64 (Um.penN x)]) (by simp [results, Try.results28, go_sem]) rfl ⟨rfl, ?_⟩
  exact (Below.refl _ _).alloc (Nat.le_refl _) _

theorem pack_or {s : Nat} {p : Int} (h : Um.tok s p = true) : bits .or .u64 ((s : Int) * 16) (p + 1) = (Um.tpack s p : Int) := by
  obtain ⟨h1, h2, h3⟩ := Um.tok_iff.1 h
  have e1 : (s : Int) * 16 = ((16 * s : Nat) : Int) := by omega
  have e2 : p + 1 = ((p + 1).toNat : Int) := by omega
  rw [e1, e2, u64_or_nat _ _ (by omega) (by omega), Um.or_low _ _ (by omega), Um.tpack_yes h]

end Go.Proofs.Ytglmniciojemfaa

/-
  The walks of layer 1's functions on words, and of the document's answers for them.
-/
namespace Go.Proofs.Ytglmniciojemfaa
set_option maxRecDepth 100000
open Go.RowKit

set_option maxHeartbeats 400000 in
theorem refWith_any (x : Nat) (a b : Int) (w : World) (hx : Um.Word x) :
    Calls Try.prog 33 #[.int .u64 x, .int .i64 a, .int .i64 b] w fun e w' => e = .returned (.int .u64 (Um.withN x a b)) ∧ w' = w := by
  cases ho : Um.okS a b with
  | true =>
    have hlt := Um.bitAt_lt ho
    have e : Um.withN x a b = Um.setN x ((Um.bitAt a b : Int).toNat) true := by unfold Um.withN; rw [ho]; rfl
    rw [e]
    clear e
    have hat : ∀ w, Calls Try.prog 58 #[.int .i64 a, .int .i64 b] w fun e w' => e = .returned (.int .i64 (Um.bitAt a b : Int)) ∧ w' = w := by
      intro w
      have := at_any a b w
      rwa [if_pos ho] at this
    have HA := hide hat
    clear hat
    generalize Um.bitAt a b = k at *
    go_enter Try.func33, Try.ntmps33
    go_wp2_with (first
      | (go_at_call 58; refine (unhide HA _).mono ?_; rintro e w' ⟨rfl, rfl⟩)
      | (go_at_call 51; refine (put_any _ _ _ _ hx (by omega) (by omega)).mono ?_; rintro e w' ⟨rfl, rfl⟩))
    go_ret
    exact ⟨rfl, rfl⟩
  | false =>
    have e : Um.withN x a b = x := Um.with_bad _ _ _ ho
    rw [e]
    clear e
    have hat : ∀ w, Calls Try.prog 58 #[.int .i64 a, .int .i64 b] w fun e w' => e = .returned (.int .i64 (-1)) ∧ w' = w := by
      intro w
      have := at_any a b w
      rwa [if_neg (by simp [ho])] at this
    have HA := hide hat
    clear hat
    go_enter Try.func33, Try.ntmps33
    go_wp2_with (first
      | (go_at_call 58; refine (unhide HA _).mono ?_; rintro e w' ⟨rfl, rfl⟩))
    go_ret
    exact ⟨rfl, rfl⟩

theorem bits_drop (y : Nat) (a b : Int) (hy : Um.Word y) (hh : Um.hasN y a b = true) : bits .andNot .u64 (y : Int) (Um.slotN a b : Int) = (Um.dropAt y a b false : Int) := by
  have ho : Um.okS a b = true := by unfold Um.hasN at hh; revert hh; cases Um.okS a b <;> simp
  rw [u64_andNot_nat _ _ hy (Um.slot_word a b)]
  unfold Um.dropAt Um.slotN
  rw [if_pos ho, if_pos hh, Um.andNot_pow _ _ hy (by have := Um.bitAt_lt ho; omega)]
  rfl

theorem bits_past (y k : Nat) (b : Int) (hy : Um.Word y) (hk : k < 2) (hh : Um.hasN y k b = true) :
    bits .or .u64 (bits .andNot .u64 (y : Int) (Um.slotN k b : Int)) (2 ^ (24 + k)) = (Um.dropAt y k b true : Int) := by
  rw [bits_drop _ _ _ hy hh, show ((2:Int) ^ (24 + k)) = ((2 ^ (24 + k) : Nat) : Int) by simp, u64_or_nat _ _ (Um.dropAt_word hy _ _ _) (pow_word (by omega)), Um.or_pow]
  unfold Um.dropAt
  rw [if_pos hh, if_pos hh, show ((24 : Int) + k).toNat = 24 + k by omega]
  rfl

end Go.Proofs.Ytglmniciojemfaa

/-
  The walks of packing and unpacking.
-/
namespace Go.Proofs.Ytglmniciojemfaa
set_option maxRecDepth 100000
open Go.RowKit

attribute [local go_sem] alloc_drewN setCell_drewN

theorem div_word {x k : Nat} (h : Um.Word x) : Um.Word (x / k) := Nat.lt_of_le_of_lt (Nat.div_le_self _ _) h

theorem and_part (y n : Nat) (hy : Um.Word y) (hn : n < 63) : wrap64 (bits .and .u64 (y : Int) ((2 ^ n - 1 : Nat) : Int)) = (Um.part y 0 n : Int) := by
  have h1 : Um.Word (2 ^ n - 1) := Nat.lt_of_le_of_lt (Nat.sub_le _ _) (pow_word (by omega))
  have e : Um.part y 0 n = y % 2 ^ n := by unfold Um.part; simp
  rw [u64_and_nat _ _ hy h1, Um.and_mask, e]
  apply wrap64_small
  have h2 := Nat.mod_lt y (Nat.two_pow_pos n)
  have h3 : 2 ^ n < 2 ^ 63 := Nat.pow_lt_pow_right (by decide) hn
  rw [show (2:Nat) ^ 63 = 9223372036854775808 by decide] at h3
  omega

set_option maxHeartbeats 400000 in
theorem take_any (y : Nat) (a : Int) (B : Nat) (w : World) (hy : Um.Word y) (h0 : 0 ≤ a) (h1 : a < 63)
    (hc : w.cell? ⟨B, 0, none⟩ = some (.int .u64 y)) (hf : w.frozen? ⟨B, 0, none⟩ = false) :
    Calls Try.prog 75 #[.int .i64 a, .pointer (some ⟨B, 0, none⟩)] w fun e w' =>
      e = .returned (.int .i64 (Um.part y 0 a.toNat)) ∧ ∃ n, w' = (w.setCell ⟨B, 0, none⟩ (.int .u64 (y / 2 ^ a.toNat : Nat))).drewN n := by
  go_enter Try.func75, Try.ntmps75
  go_wp2
  go_quiet ((go_at_call 76; exact Calls.quiet_of_same (ones_any _ _ (by omega) (by omega))))
  go_wp2
  go_ret
  refine ⟨ret_i64 (and_part _ _ hy (by omega)), nq, ?_⟩
  rw [show ((y : Int) / 2 ^ a.toNat) = ((y / 2 ^ a.toNat : Nat) : Int) by simp]

set_option maxHeartbeats 4000000 in
theorem unpack_any (x : Nat) (w : World) (hx : Um.Word x) :
    Calls Try.prog 70 #[.int .u64 x] w fun e w' => e = .returned (.agg #[.int .i64 (Um.part x 30 32), .int .i64 (Um.part x 27 3), .bool (x.testBit 26), .bool (x.testBit 25), .bool (x.testBit 24), .int .i64 (Um.part x 12 12), .int .i64 (Um.part x 0 12)]) ∧ Below w.heap.size w w' := by
  go_enter Try.func70, Try.ntmps70
  go_wp2_with fail
  refine (take_any (x) _ _ _ (by repeat (first | exact hx | apply div_word)) (by omega) (by omega) (by go_simp) (by go_simp)).mono ?_
  rintro e w' ⟨rfl, n0, rfl⟩
  go_wp2_with fail
  refine (take_any (x / 2 ^ 12) _ _ _ (by repeat (first | exact hx | apply div_word)) (by omega) (by omega) (by go_simp) (by go_simp)).mono ?_
  rintro e w' ⟨rfl, n1, rfl⟩
  go_wp2_with fail
  refine (take_any (x / 2 ^ 12 / 2 ^ 12) _ _ _ (by repeat (first | exact hx | apply div_word)) (by omega) (by omega) (by go_simp) (by go_simp)).mono ?_
  rintro e w' ⟨rfl, n2, rfl⟩
  go_wp2_with fail
  refine (take_any (x / 2 ^ 12 / 2 ^ 12 / 2 ^ 1) _ _ _ (by repeat (first | exact hx | apply div_word)) (by omega) (by omega) (by go_simp) (by go_simp)).mono ?_
  rintro e w' ⟨rfl, n3, rfl⟩
  go_wp2_with fail
  refine (take_any (x / 2 ^ 12 / 2 ^ 12 / 2 ^ 1 / 2 ^ 1) _ _ _ (by repeat (first | exact hx | apply div_word)) (by omega) (by omega) (by go_simp) (by go_simp)).mono ?_
  rintro e w' ⟨rfl, n4, rfl⟩
  go_wp2_with fail
  refine (take_any (x / 2 ^ 12 / 2 ^ 12 / 2 ^ 1 / 2 ^ 1 / 2 ^ 1) _ _ _ (by repeat (first | exact hx | apply div_word)) (by omega) (by omega) (by go_simp) (by go_simp)).mono ?_
  rintro e w' ⟨rfl, n5, rfl⟩
  go_wp2_with fail
  refine (take_any (x / 2 ^ 12 / 2 ^ 12 / 2 ^ 1 / 2 ^ 1 / 2 ^ 1 / 2 ^ 3) _ _ _ (by repeat (first | exact hx | apply div_word)) (by omega) (by omega) (by go_simp) (by go_simp)).mono ?_
  rintro e w' ⟨rfl, n6, rfl⟩
  go_wp2
  simp only [Um.un12, Um.un24, Um.un25, Um.un26, Um.un27, Um.un30]
  refine bodyPost_ret (v := .agg #[.int .i64 (Um.part x 30 32), .int .i64 (Um.part x 27 3), .bool (x.testBit 26), .bool (x.testBit 25), .bool (x.testBit 24), .int .i64 (Um.part x 12 12), .int .i64 (Um.part x 0 12)]) (by simp [results, Try.results70, go_sem]) rfl ⟨rfl, ?_⟩
  apply below_drewN
  exact (((Below.refl _ _).alloc (Nat.le_refl _) _).alloc (by simp) _).alloc (by simp; omega) _

end Go.Proofs.Ytglmniciojemfaa

/-
  '==' of two statuses: field by field.
-/
namespace Go.Proofs.Ytglmniciojemfaa
set_option maxRecDepth 100000
open Go.RowKit

set_option maxHeartbeats 1000000 in
theorem eqStatus (T : TypeId) (hT : T = 128 ∨ T = 116) (g st : Int) (b i o : Bool) (n t : Int) (g' st' : Int) (b' i' o' : Bool) (n' t' : Int) (w : World) :
    (Op.equalIn 10000 T (.agg #[.int .i64 g, .int .i64 st, .bool b, .bool i, .bool o, .int .i64 n, .int .i64 t]) (.agg #[.int .i64 g', .int .i64 st', .bool b', .bool i', .bool o', .int .i64 n', .int .i64 t'])).run Try.prog w
      = .ok (decide (g = g' ∧ st = st' ∧ b = b' ∧ i = i' ∧ o = o' ∧ n = n' ∧ t = t')) w := by
  rw [show (10000:Nat) = 9999 + 1 from rfl]
  rcases hT with rfl | rfl
  all_goals
    rw [run_equalIn_agg w 9999 _ _ _ (by kernel_rfl) (by kernel_rfl)]
    go_simp
    (repeat' split) <;> simp_all

theorem neqStatus (T : TypeId) (hT : T = 128 ∨ T = 116) {g st : Int} {b i o : Bool} {n t : Int} {g' st' : Int} {b' i' o' : Bool} {n' t' : Int} {r : Bool}
    (hr : r = decide (g = g' ∧ st = st' ∧ b = b' ∧ i = i' ∧ o = o' ∧ n = n' ∧ t = t')) (w : World) :
    (binOp .neq T (.agg #[.int .i64 g, .int .i64 st, .bool b, .bool i, .bool o, .int .i64 n, .int .i64 t]) (.agg #[.int .i64 g', .int .i64 st', .bool b', .bool i', .bool o', .int .i64 n', .int .i64 t'])).run Try.prog w
      = .ok (.bool (!r)) w := by
  rw [run_neq_struct, eqStatus T hT, hr]
  rfl

theorem eqlStatus (T : TypeId) (hT : T = 128 ∨ T = 116) {g st : Int} {b i o : Bool} {n t : Int} {g' st' : Int} {b' i' o' : Bool} {n' t' : Int} {r : Bool}
    (hr : r = decide (g = g' ∧ st = st' ∧ b = b' ∧ i = i' ∧ o = o' ∧ n = n' ∧ t = t')) (w : World) :
    (binOp .eql T (.agg #[.int .i64 g, .int .i64 st, .bool b, .bool i, .bool o, .int .i64 n, .int .i64 t]) (.agg #[.int .i64 g', .int .i64 st', .bool b', .bool i', .bool o', .int .i64 n', .int .i64 t'])).run Try.prog w
      = .ok (.bool r) w := by
  rw [run_eql_struct, eqStatus T hT, hr]
  rfl

end Go.Proofs.Ytglmniciojemfaa

/-
  The walks of moving a word, and of the document's answers for moving, packing and unpacking.
-/
namespace Go.Proofs.Ytglmniciojemfaa
set_option maxRecDepth 100000
open Go.RowKit
attribute [local go_sem] alloc_drewN setCell_drewN

theorem mask2 : bits .or .u64 67108864 939524096 = ((1006632960 : Nat) : Int) := by kernel_rfl

theorem move_law (x : Nat) (s : Int) (b : Bool) (hx : Um.Word x) :
    bits .or .u64 (bits .or .u64 (bits .andNot .u64 (x : Int) (bits .or .u64 67108864 939524096)) (IntKind.u64.wrap ((b.toNat : Int) * 67108864))) (IntKind.u64.wrap (bits .and .u64 (IntKind.u64.wrap s) 7 * 134217728))
      = (Um.moveN x (s % 8).toNat b : Int) := by
  have hm : Um.Word 1006632960 := Um.word_iff.2 (by decide)
  have hs : (s % 8).toNat < 8 := by omega
  have hb := Um.bool_le b
  have e1 : IntKind.u64.wrap ((b.toNat : Int) * 67108864) = ((b.toNat * 2 ^ 26 : Nat) : Int) := by rw [IntKind.wrap_u64]; omega
  have e2 : IntKind.u64.wrap s = ((s % 18446744073709551616).toNat : Int) := by rw [IntKind.wrap_u64]; omega
  have hk : Um.Word (s % 18446744073709551616).toNat := by unfold Um.Word; omega
  have e3 : bits .and .u64 (IntKind.u64.wrap s) 7 = ((s % 8).toNat : Int) := by
    rw [e2, show (7 : Int) = ((2 ^ 3 - 1 : Nat) : Int) by decide, u64_and_nat _ _ hk (by decide), Um.and_mask]
    omega
  have e4 : IntKind.u64.wrap (((s % 8).toNat : Int) * 134217728) = (((s % 8).toNat * 2 ^ 27 : Nat) : Int) := by rw [IntKind.wrap_u64]; omega
  have w1 : Um.Word (b.toNat * 2 ^ 26) := by unfold Um.Word; omega
  have w2 : Um.Word ((s % 8).toNat * 2 ^ 27) := by unfold Um.Word; omega
  have w3 : Um.Word (x &&& (18446744073709551615 - 1006632960)) := Um.Word.of fun j hj => by rw [Um.andNot_testBit x _ j hx hm, hx.bits j hj]; rfl
  rw [mask2, e3, e4, e1, u64_andNot_nat _ _ hx hm, u64_or_nat _ _ w3 w1, u64_or_nat _ _ (or_word w3 w1) w2, Um.move_eq _ _ _ hx hs]

set_option maxHeartbeats 400000 in
theorem move_any (x : Nat) (s : Int) (b : Bool) (w : World) (hx : Um.Word x) :
    Calls Try.prog 77 #[.int .u64 x, .int .i64 s, .bool b] w fun e w' => e = .returned (.int .u64 (Um.moveN x (s % 8).toNat b)) ∧ w' = w := by
  go_enter Try.func77, Try.ntmps77
  go_wp2_with (first
    | (go_at_call 76; refine (ones_any _ _ (by decide) (by decide)).mono ?_; rintro e w' ⟨rfl, rfl⟩)
    | (go_at_call 78; refine (flag_any _ _).mono ?_; rintro e w' ⟨rfl, rfl⟩))
  go_ret
  refine ⟨ret_u64 ?_, rfl⟩
  exact move_law _ _ _ hx

theorem tmod8 (s : Int) : (0 ≤ s.tmod 8 → s.tmod 8 = s % 8) ∧ (s.tmod 8 < 0 → s.tmod 8 + 8 = s % 8) := by
  rw [Int.tmod_eq_emod]
  split <;> (constructor <;> intro h <;> simp at h ⊢ <;> omega)

theorem state_law (x : Nat) (s L : Int) (hx : Um.Word x) (hL : L = s % 8) :
    IntKind.u64.wrap (IntKind.u64.wrap ((x : Int) - IntKind.u64.wrap (134217728 * IntKind.u64.wrap (Um.part x 27 3 : Int))) + IntKind.u64.wrap (134217728 * IntKind.u64.wrap L)) = (Um.stateN x (s % 8).toNat : Int) := by
  subst hL
  have h1 : Um.part x 27 3 < 8 := Um.part_lt x 27 3
  have h2 : 134217728 * Um.part x 27 3 ≤ x := by unfold Um.part; omega
  have h3 := Um.state_word hx (show (s % 8).toNat < 8 by omega)
  unfold Um.Word at hx h3
  simp only [IntKind.wrap_u64]
  unfold Um.stateN at h3 ⊢
  generalize Um.part x 27 3 = k at *
  omega

theorem put_int (X : Int) (x : Nat) (hX : X = x) (a : Int) (b : Bool) (w : World) (hx : Um.Word x) (h0 : 0 ≤ a) (h1 : a < 64) :
    Calls Try.prog 51 #[.int .u64 X, .int .i64 a, .bool b] w fun e w' => e = .returned (.int .u64 (Um.setN x a.toNat b)) ∧ w' = w := by
  subst hX
  exact put_any x a b w hx h0 h1

theorem wrap64_id (n : Int) (h0 : -9223372036854775808 ≤ n) (h1 : n ≤ 9223372036854775807) : wrap64 n = n := by
  unfold wrap64
  omega

set_option maxHeartbeats 400000 in
theorem refMove_any (x : Nat) (s : Int) (b : Bool) (w : World) (hx : Um.Word x) :
    Calls Try.prog 25 #[.int .u64 x, .int .i64 s, .bool b] w fun e w' => e = .returned (.int .u64 (Um.moveN x (s % 8).toNat b)) ∧ ∃ n, w' = w.drewN n := by
  have hw := Um.state_word hx (show (s % 8).toNat < 8 by omega)
  have ht := tmod8 s
  have HT := hide ht
  clear ht
  go_enter Try.func25, Try.ntmps25
  go_wp2_with (first
    | (go_at_call 50; refine (power_any _ _ (by omega) (by omega)).mono ?_; rintro e w' ⟨rfl, rfl⟩)
    | (go_at_call 49; refine (number_any _ _ _ _ hx (by omega) (by omega) (by omega) (by omega)).mono ?_; rintro e w' ⟨rfl, nq, rfl⟩))
  · have hl := (unhide HT).2 ‹s.tmod 8 < 0›
    have he : wrap64 (s.tmod 8 + 8) = s % 8 := by rw [hl]; exact wrap64_id _ (by omega) (by omega)
    have HE := hide he
    clear hl he
    refine (put_int _ _ (state_law x s _ hx (unhide HE)) _ _ _ hw (by omega) (by omega)).mono ?_
    rintro e w' ⟨rfl, rfl⟩
    go_wp2
    go_ret
    exact ⟨rfl, ⟨_, rfl⟩⟩
  · have hl := (unhide HT).1 ‹0 ≤ s.tmod 8›
    have HE := hide hl
    clear hl
    refine (put_int _ _ (state_law x s _ hx (unhide HE)) _ _ _ hw (by omega) (by omega)).mono ?_
    rintro e w' ⟨rfl, rfl⟩
    go_wp2
    go_ret
    exact ⟨rfl, ⟨_, rfl⟩⟩

set_option maxHeartbeats 1000000 in
theorem refPack_any (g st : Int) (b i o : Bool) (n t : Int) (w : World) :
    Calls Try.prog 57 #[.agg #[.int .i64 g, .int .i64 st, .bool b, .bool i, .bool o, .int .i64 n, .int .i64 t]] w fun e w' =>
      e = .returned (.tuple #[.int .u64 (Um.packV g st b i o n t : Int), .bool (Um.okSt g st n t)]) ∧ Below w.heap.size w w' := by
  cases hok : Um.okSt g st n t
  · rw [Um.packV_no hok]
    have hno : ¬ (0 ≤ t ∧ t ≤ 4095 ∧ 0 ≤ n ∧ n ≤ 4095 ∧ 0 ≤ st ∧ st ≤ 7 ∧ 0 ≤ g ∧ g ≤ 1073741824) := by
      intro h
      rw [Um.okSt_iff.2 h] at hok
      cases hok
    have HN := hide hno
    clear hno hok
    go_enter Try.func57, Try.ntmps57
    go_wp2
    all_goals first
      | (go_ret2; exact ⟨rfl, (Below.refl _ _).alloc (Nat.le_refl _) _⟩)
      | (exfalso; have h := unhide HN; omega)
  · rw [Um.packV_yes hok]
    obtain ⟨t0, t1, n0, n1, s0, s1, g0, g1⟩ := Um.okSt_iff.1 hok
    go_enter Try.func57, Try.ntmps57
    go_wp2
    go_quiet ((go_at_call 50; exact Calls.quiet_of_same (power_any _ _ (by omega) (by omega))))
    go_wp2_with fail
    have hbw := Um.base_word hok
    refine (put_int _ (Um.baseN g st n t) ?_ _ _ _ hbw (by omega) (by omega)).mono ?_
    · unfold Um.baseN
      omega
    rintro e w' ⟨rfl, rfl⟩
    go_wp2_with fail
    refine (put_int _ _ rfl _ _ _ (hbw.setN (by decide)) (by omega) (by omega)).mono ?_
    rintro e w' ⟨rfl, rfl⟩
    go_wp2_with fail
    refine (put_int _ _ rfl _ _ _ ((hbw.setN (by decide)).setN (by decide)) (by omega) (by omega)).mono ?_
    rintro e w' ⟨rfl, rfl⟩
    go_wp2
    go_ret2
    refine ⟨?_, ?_⟩
    · rw [← Um.base_put hok]
      rfl
    · repeat (first | exact (Below.refl _ _).alloc (Nat.le_refl _) _ | apply below_drewN)

end Go.Proofs.Ytglmniciojemfaa

/-
  Words of layers 1 and 3, as layer 8 asks for them: over blocks of two lists.
-/
namespace Go.Proofs.Ytglmniciojemfaa
set_option maxRecDepth 100000
open Go.RowKit Go.Sort

theorem Sx.drewN {bs : List Nat} {w0 w : World} {l e : List (Nat × List Value)} (h : Sx bs w0 w l e) (n : Nat) : Sx bs w0 (w.drewN n) l e := h.call (below_drewN (Below.refl _ _) n)

theorem trUnpack_x {bs : List Nat} {w0 w : World} {l e : List (Nat × List Value)} (hS : Sx bs w0 w l e) (x : Nat) (hx : Um.Word x) :
    Calls Try.prog 28 #[.int .u64 (x : Nat)] w fun r w' => r = .returned (.agg #[.int .u64 (Um.seqN x : Int), .int .i64 (Um.penN x)]) ∧ Sx bs w0 w' l e :=
  (trUnpack_any x w hx).mono fun _ _ ⟨h1, h2⟩ => ⟨h1, hS.call h2⟩

theorem trSettled_x {bs : List Nat} {w0 w : World} {l e : List (Nat × List Value)} (hS : Sx bs w0 w l e) (x : Nat) (hx : Um.Word x) :
    Calls Try.prog 27 #[.int .u64 (x : Nat)] w fun r w' => r = .returned (.int .u64 (Um.setlN x : Int)) ∧ Sx bs w0 w' l e :=
  (trSettled_any x w hx).mono fun _ _ ⟨h1, h2⟩ => ⟨h1, h2 ▸ hS⟩

set_option maxHeartbeats 1000000 in
theorem rState_x {bs : List Nat} {w0 w : World} {l e : List (Nat × List Value)} (hS : Sx bs w0 w l e) (x : Nat) (hx : Um.Word x) :
    Calls Try.prog 24 #[.int .u64 (x : Nat)] w fun r w' => r = .returned (.int .i64 (Um.stN x : Int)) ∧ Sx bs w0 w' l e := by
  have HC := hide (number_any x 27 3 w hx (by decide) (by decide) (by decide) (by decide))
  have HS := hide hS
  clear hS hx
  go_enter Try.func24, Try.ntmps24
  go_wp2_with fail
  refine (unhide HC).mono ?_
  rintro r u ⟨rfl, n, rfl⟩
  go_wp2
  go_ret
  exact ⟨rfl, (unhide HS).drewN n⟩

set_option maxHeartbeats 1000000 in
theorem rBusy_x {bs : List Nat} {w0 w : World} {l e : List (Nat × List Value)} (hS : Sx bs w0 w l e) (x : Nat) (hx : Um.Word x) :
    Calls Try.prog 26 #[.int .u64 (x : Nat)] w fun r w' => r = .returned (.bool (x.testBit 26)) ∧ Sx bs w0 w' l e := by
  have HC := hide (bit_any x 26 w hx (by decide) (by decide))
  have HS := hide hS
  clear hS hx
  go_enter Try.func26, Try.ntmps26
  go_wp2_with fail
  refine (unhide HC).mono ?_
  rintro r u ⟨rfl, rfl⟩
  go_wp2
  go_ret
  exact ⟨rfl, unhide HS⟩

theorem rMove_x {bs : List Nat} {w0 w : World} {l e : List (Nat × List Value)} (hS : Sx bs w0 w l e) (x : Nat) (b : Bool) (hx : Um.Word x) :
    Calls Try.prog 25 #[.int .u64 (x : Nat), .int .i64 4, .bool b] w fun r w' => r = .returned (.int .u64 (Um.moveN x 4 b : Int)) ∧ Sx bs w0 w' l e :=
  (refMove_any x 4 b w hx).mono fun _ _ ⟨h1, n, h2⟩ => ⟨h1, h2 ▸ hS.drewN n⟩

end Go.Proofs.Ytglmniciojemfaa

/-
  The walks of the document's new help, and of a new status.
-/
namespace Go.Proofs.Ytglmniciojemfaa
set_option maxRecDepth 100000
open Go.RowKit Go.Sort

set_option maxHeartbeats 1000000 in
theorem rNew01_any (st : Int) (w : World) : Calls Try.prog 32 #[.int .i64 st, .int .i64 0] w fun r w' => r = .returned (.int .u64 (Um.packV 0 st false false false 0 0 : Int)) ∧ Below w.heap.size w w' := by
  go_enter Try.func32, Try.ntmps32
  go_wp2_with fail
  refine (refPack_any 0 st false false false 0 0 _).mono ?_
  rintro r u ⟨rfl, hb⟩
  go_wp2
  go_ret
  exact ⟨rfl, hb⟩

theorem field_rtalP (s p : Value) (w : World) : (Instr.field 62 (.agg #[s, p]) 1).run Try.prog w = .ok p w := by simp [Instr.field, go_sem, asAgg]

set_option maxHeartbeats 1000000 in
theorem rNew8_any (x : Nat) (w : World) (hx : Um.Word x) : Calls Try.prog 13 #[.int .u64 (x : Nat)] w fun r w' => r = .returned (.agg #[.int .u64 (x : Nat), .int .i64 0, .int .u64 0, .bool (decide (Um.hfst x = 4))]) ∧ Below w.heap.size w w' := by
  have hS := Sx.new w
  have hf := field_rtalP
  have hE : decide (Um.hfst x = 4) = decide (Um.penN x < 0) := by
    unfold Um.hfst
    by_cases h : Um.penN x < 0 <;> simp [h]
  rw [hE]
  clear hE
  go_enter Try.func13, Try.ntmps13
  go_wp2_with (first | (refine wpx_box hS rfl _ _ rfl _ rfl _ (by intro _; simp only [Act.put, List.setIfInBounds_toArray, List.set_cons_zero, List.set_cons_succ]; first | done | exact rfl) ?_; clear hS; intro _ _ hS; dsimp only [blit, List.set, List.cons_append, List.nil_append, Value.cells, List.toList_toArray] at hS) | (refine wpx_alloc hS rfl _ rfl _ (zer_any2 rfl) _ (by intro _; simp only [Act.put, List.setIfInBounds_toArray, List.set_cons_zero, List.set_cons_succ]; first | done | exact rfl) ?_; clear hS; intro _ _ hS; dsimp only [blit, List.set, List.cons_append, List.nil_append, Value.cells, List.toList_toArray] at hS) | (refine wpx_ld hS rfl _ _ rfl _ _ rfl ?_; (first | refine ⟨0, _, rfl, ?_⟩ | refine ⟨1, _, rfl, ?_⟩ | refine ⟨2, _, rfl, ?_⟩ | refine ⟨3, _, rfl, ?_⟩ | refine ⟨4, _, rfl, ?_⟩ | refine ⟨5, _, rfl, ?_⟩ | refine ⟨6, _, rfl, ?_⟩ | refine ⟨7, _, rfl, ?_⟩ | refine ⟨8, _, rfl, ?_⟩ | refine ⟨9, _, rfl, ?_⟩); first | refine .inl ⟨_, one_any2 rfl, rfl, _, (by simp only [Act.put, List.setIfInBounds_toArray, List.set_cons_zero, List.set_cons_succ]; first | done | exact rfl), ?_⟩ | refine .inr ⟨_, _, row_any2 rfl, rfl, (by dsimp only [cutL, List.drop, List.take]; first | done | exact rfl), _, (by simp only [Act.put, List.setIfInBounds_toArray, List.set_cons_zero, List.set_cons_succ]; first | done | exact rfl), ?_⟩) | (refine wpx_st hS rfl _ _ _ rfl rfl _ _ rfl ?_; (first | refine ⟨0, _, rfl, ?_⟩ | refine ⟨1, _, rfl, ?_⟩ | refine ⟨2, _, rfl, ?_⟩ | refine ⟨3, _, rfl, ?_⟩ | refine ⟨4, _, rfl, ?_⟩ | refine ⟨5, _, rfl, ?_⟩ | refine ⟨6, _, rfl, ?_⟩ | refine ⟨7, _, rfl, ?_⟩ | refine ⟨8, _, rfl, ?_⟩ | refine ⟨9, _, rfl, ?_⟩); refine ⟨_, (by first | exact shA rfl | exact shI rfl | exact shB rfl | exact shS rfl | exact shP rfl | exact shF rfl | exact shN rfl), _, siz_any2 rfl, (by exact rfl), (by exact rfl), (by exact rfl), ?_⟩; clear hS; intro _ hS; dsimp only [blit, List.set, List.cons_append, List.nil_append, Value.cells, List.toList_toArray] at hS))
  refine (trUnpack_any x _ hx).mono ?_
  rintro r u ⟨rfl, hb⟩
  replace hS := hS.call hb
  clear hb
  go_wp2_with (first | (refine wpx_box hS rfl _ _ rfl _ rfl _ (by intro _; simp only [Act.put, List.setIfInBounds_toArray, List.set_cons_zero, List.set_cons_succ]; first | done | exact rfl) ?_; clear hS; intro _ _ hS; dsimp only [blit, List.set, List.cons_append, List.nil_append, Value.cells, List.toList_toArray] at hS) | (refine wpx_alloc hS rfl _ rfl _ (zer_any2 rfl) _ (by intro _; simp only [Act.put, List.setIfInBounds_toArray, List.set_cons_zero, List.set_cons_succ]; first | done | exact rfl) ?_; clear hS; intro _ _ hS; dsimp only [blit, List.set, List.cons_append, List.nil_append, Value.cells, List.toList_toArray] at hS) | (refine wpx_ld hS rfl _ _ rfl _ _ rfl ?_; (first | refine ⟨0, _, rfl, ?_⟩ | refine ⟨1, _, rfl, ?_⟩ | refine ⟨2, _, rfl, ?_⟩ | refine ⟨3, _, rfl, ?_⟩ | refine ⟨4, _, rfl, ?_⟩ | refine ⟨5, _, rfl, ?_⟩ | refine ⟨6, _, rfl, ?_⟩ | refine ⟨7, _, rfl, ?_⟩ | refine ⟨8, _, rfl, ?_⟩ | refine ⟨9, _, rfl, ?_⟩); first | refine .inl ⟨_, one_any2 rfl, rfl, _, (by simp only [Act.put, List.setIfInBounds_toArray, List.set_cons_zero, List.set_cons_succ]; first | done | exact rfl), ?_⟩ | refine .inr ⟨_, _, row_any2 rfl, rfl, (by dsimp only [cutL, List.drop, List.take]; first | done | exact rfl), _, (by simp only [Act.put, List.setIfInBounds_toArray, List.set_cons_zero, List.set_cons_succ]; first | done | exact rfl), ?_⟩) | (refine wpx_st hS rfl _ _ _ rfl rfl _ _ rfl ?_; (first | refine ⟨0, _, rfl, ?_⟩ | refine ⟨1, _, rfl, ?_⟩ | refine ⟨2, _, rfl, ?_⟩ | refine ⟨3, _, rfl, ?_⟩ | refine ⟨4, _, rfl, ?_⟩ | refine ⟨5, _, rfl, ?_⟩ | refine ⟨6, _, rfl, ?_⟩ | refine ⟨7, _, rfl, ?_⟩ | refine ⟨8, _, rfl, ?_⟩ | refine ⟨9, _, rfl, ?_⟩); refine ⟨_, (by first | exact shA rfl | exact shI rfl | exact shB rfl | exact shS rfl | exact shP rfl | exact shF rfl | exact shN rfl), _, siz_any2 rfl, (by exact rfl), (by exact rfl), (by exact rfl), ?_⟩; clear hS; intro _ hS; dsimp only [blit, List.set, List.cons_append, List.nil_append, Value.cells, List.toList_toArray] at hS))
  have hZ := hS.get 0 rfl
  exact bodyPost_ret (v := .agg #[.int .u64 (x : Nat), .int .i64 0, .int .u64 0, .bool (decide (Um.penN x < 0))]) (by simp [results, Try.results13, go_sem, hZ.cell 0 _ rfl, hZ.cell 1 _ rfl, hZ.cell 2 _ rfl, hZ.cell 3 _ rfl]) rfl ⟨rfl, hS.bel⟩

end Go.Proofs.Ytglmniciojemfaa

/-
  Blocks that are handed to a method, and back: one, two or three of them.
-/
namespace Go.Proofs.Ytglmniciojemfaa
set_option maxRecDepth 100000
open Go.RowKit Go.Sort

section
variable {bs : List Nat} {w0 w w' : World} {l e : List (Nat × List Value)} {b1 b2 b3 : Nat} {c1 c2 c3 d1 d2 d3 : List Value}

theorem Sx.enter3 (hS : Sx bs w0 w l e) (i j k : Nat) (hi : l[i]? = some (b1, c1)) (hj : l[j]? = some (b2, c2)) (hk : l[k]? = some (b3, c3)) (hij : i ≠ j) (hik : i ≠ k) (hjk : j ≠ k) : Sx [b1, b2, b3] w w [(b1, c1), (b2, c2), (b3, c3)] [] :=
  hS.enter [(b1, c1), (b2, c2), (b3, c3)] [] (fun p hp => by
      rcases (by simpa using hp : p = (b1, c1) ∨ p = (b2, c2) ∨ p = (b3, c3)) with rfl | rfl | rfl
      · exact List.mem_of_getElem? hi
      · exact List.mem_of_getElem? hj
      · exact List.mem_of_getElem? hk)
    (by
      have h1 := hS.ne i j hi hj hij
      have h2 := hS.ne i k hi hk hik
      have h3 := hS.ne j k hj hk hjk
      simp [h1, h2, h3]) (by simp)

theorem Sx.back3 {r e' : List (Nat × List Value)} (hS : Sx bs w0 w l e) (i j k : Nat) (hi : l[i]? = some (b1, c1)) (hj : l[j]? = some (b2, c2)) (hk : l[k]? = some (b3, c3)) (hL : Sx [b1, b2, b3] w w' ((b1, d1) :: (b2, d2) :: (b3, d3) :: r) e') : Sx bs w0 w' (putL l [(i, b1, d1), (j, b2, d2), (k, b3, d3)]) e := by
  refine hS.sets _ (fun u hu => ?_) hL.off (fun u hu => ?_)
  · rcases (by simpa using hu : u = (i, b1, d1) ∨ u = (j, b2, d2) ∨ u = (k, b3, d3)) with rfl | rfl | rfl
    · exact ⟨_, hi⟩
    · exact ⟨_, hj⟩
    · exact ⟨_, hk⟩
  · rcases (by simpa using hu : u = (i, b1, d1) ∨ u = (j, b2, d2) ∨ u = (k, b3, d3)) with rfl | rfl | rfl
    · exact hL.get 0 rfl
    · exact hL.get 1 rfl
    · exact hL.get 2 rfl

theorem Sx.enter1 (hS : Sx bs w0 w l e) (i : Nat) (hi : l[i]? = some (b1, c1)) : Sx [b1] w w [(b1, c1)] [] :=
  hS.enter [(b1, c1)] [] (fun p hp => by obtain rfl : p = _ := by simpa using hp
                                         exact List.mem_of_getElem? hi) (List.pairwise_singleton _ _) (by simp)

theorem Sx.back1 {r e' : List (Nat × List Value)} (hS : Sx bs w0 w l e) (i : Nat) (hi : l[i]? = some (b1, c1)) (hL : Sx [b1] w w' ((b1, d1) :: r) e') : Sx bs w0 w' (putL l [(i, b1, d1)]) e := by
  refine hS.sets _ (fun u hu => ?_) hL.off (fun u hu => ?_)
  · obtain rfl : u = _ := by simpa using hu
    exact ⟨_, hi⟩
  · obtain rfl : u = _ := by simpa using hu
    exact hL.get 0 rfl

theorem Sx.enter2 (hS : Sx bs w0 w l e) (i j : Nat) (hi : l[i]? = some (b1, c1)) (hj : l[j]? = some (b2, c2)) (hij : i ≠ j) : Sx [b1, b2] w w [(b1, c1), (b2, c2)] [] :=
  hS.enter [(b1, c1), (b2, c2)] [] (fun p hp => by
      rcases (by simpa using hp : p = (b1, c1) ∨ p = (b2, c2)) with rfl | rfl
      · exact List.mem_of_getElem? hi
      · exact List.mem_of_getElem? hj)
    (by
      have h1 := hS.ne i j hi hj hij
      simp [h1]) (by simp)

theorem Sx.back2 {r e' : List (Nat × List Value)} (hS : Sx bs w0 w l e) (i j : Nat) (hi : l[i]? = some (b1, c1)) (hj : l[j]? = some (b2, c2)) (hL : Sx [b1, b2] w w' ((b1, d1) :: (b2, d2) :: r) e') : Sx bs w0 w' (putL l [(i, b1, d1), (j, b2, d2)]) e := by
  refine hS.sets _ (fun u hu => ?_) hL.off (fun u hu => ?_)
  · rcases (by simpa using hu : u = (i, b1, d1) ∨ u = (j, b2, d2)) with rfl | rfl
    · exact ⟨_, hi⟩
    · exact ⟨_, hj⟩
  · rcases (by simpa using hu : u = (i, b1, d1) ∨ u = (j, b2, d2)) with rfl | rfl
    · exact hL.get 0 rfl
    · exact hL.get 1 rfl

end

end Go.Proofs.Ytglmniciojemfaa

/-
  A region that draws its order: one obligation an operation, whatever has come up beside it. No program in sight.
-/
namespace Go.Proofs.Ytglmniciojemfaa
set_option maxRecDepth 100000
open Go.RowKit

section
variable {P : Program} {ops : Array Oper} {Q : Exit → Act → World → Prop} {md : Region.Mode}

theorem count_set (l : List Bool) : ∀ (i : Nat), l[i]? = some false → (l.set i true).count true = l.count true + 1 := by
  induction l with
  | nil => intro i h; simp at h
  | cons x r ih =>
    intro i h
    cases i with
    | zero =>
      simp at h
      subst h
      simp
    | succ i =>
      simp at h
      have := ih i h
      simp only [List.set_cons_succ, List.count_cons, this]
      omega

theorem all_of_count (l : List Bool) (h : l.length ≤ l.count true) : ∀ i, i < l.length → l[i]? = some true := by
  induction l with
  | nil => intro i hi; simp at hi
  | cons x r ih =>
    have h1 := List.count_le_length (a := true) (l := r)
    intro i hi
    cases x with
    | false => simp at h; omega
    | true =>
      simp at h
      cases i with
      | zero => simp
      | succ i => simpa using ih (by omega) i (by simpa using hi)

theorem wpAny_og (I : (Nat → Bool) → Act → World → Prop)
    (hac : ∀ (i : Nat) (o : Oper), ops[i]? = some o → ∀ e ∈ o.after, Region.binds md e = true → e.on < i)
    (hst : ∀ (i : Nat) (o : Oper), ops[i]? = some o → ∀ D a w, D i = false → (∀ e ∈ o.after, Region.binds md e = true → D e.on = true) → I D a w → wpOp P ops Q i (fun a' w' => I (fun j => j == i || D j) a' w') a w)
    (hen : ∀ D a w, (∀ i, i < ops.size → D i = true) → I D a w → Q .normal a w) :
    ∀ (fuel : Nat) (listed : Array Bool) (a : Act) (w : World), listed.size = ops.size → ops.size ≤ fuel + listed.toList.count true → I (fun j => listed.getD j false) a w → wpAny P md ops Q fuel listed a w := by
  have hall : ∀ (listed : Array Bool), listed.size = ops.size → Region.ready md ops listed = [] → ∀ i, i < ops.size → listed.getD i false = true := by
    intro listed hs hr i
    induction i using Nat.strongRecOn with
    | ind i ih =>
      intro hi
      cases hb : listed.getD i false with
      | true => rfl
      | false =>
        have hil : i < listed.size := by omega
        have hin : i ∈ Region.ready md ops listed := by
          rw [mem_ready]
          refine ⟨by simpa [hil] using hb, ops[i], Array.getElem?_eq_getElem hi, fun e he hbd => ?_⟩
          have hlt := hac i ops[i] (Array.getElem?_eq_getElem hi) e he hbd
          exact ih e.on hlt (by omega)
        rw [hr] at hin
        cases hin
  have hat : ∀ (listed : Array Bool) (i : Nat), i ∈ Region.ready md ops listed → listed.getD i false = false ∧ listed.toList[i]? = some false ∧ ∃ o, ops[i]? = some o ∧ ∀ e ∈ o.after, Region.binds md e = true → listed.getD e.on false = true := by
    intro listed i hi
    obtain ⟨h0, o, ho, hp⟩ := mem_ready.1 hi
    have hil : i < listed.size := by
      rcases Nat.lt_or_ge i listed.size with h | h
      · exact h
      · simp [Array.getElem?_eq_none h] at h0
    have h1 : listed[i] = false := by simpa [hil] using h0
    exact ⟨by simp [hil, h1], by simp [hil, h1], o, ho, hp⟩
  intro fuel
  induction fuel with
  | zero =>
    intro listed a w hs hc hI
    have ht : ∀ i, i < ops.size → listed.getD i false = true := by
      intro i hi
      have hk := all_of_count listed.toList (by rw [Array.length_toList]; omega) i (by rw [Array.length_toList]; omega)
      have hil : i < listed.size := by omega
      simp [hil] at hk
      simp [hil, hk]
    refine ⟨?_, hen _ a w ht hI⟩
    apply List.eq_nil_iff_forall_not_mem.2
    intro i hi
    obtain ⟨h0, _, o, ho, _⟩ := hat listed i hi
    rw [ht i (Array.getElem?_eq_some_iff.1 ho).1] at h0
    cases h0
  | succ fuel ih =>
    intro listed a w hs hc hI
    refine ⟨fun hr => hen _ a w (hall listed hs hr) hI, fun i hi => ?_⟩
    obtain ⟨h0, h1, o, ho, hp⟩ := hat listed i hi
    refine wpOp_mono (fun a' w' hI' => ih (listed.setIfInBounds i true) a' w' (by simpa using hs) ?_ ?_) (hst i o ho _ a w h0 hp hI)
    · rw [Array.toList_setIfInBounds, count_set _ _ h1]
      omega
    · have e : (fun j => (listed.setIfInBounds i true).getD j false) = (fun j => j == i || listed.getD j false) := by
        funext j
        by_cases hj : j = i
        · subst hj
          have hil : j < listed.size := by
            rcases Nat.lt_or_ge j listed.size with h | h
            · exact h
            · simp [Array.getElem?_eq_none h] at h1
          simp [hil]
        · have : (j == i) = false := by simpa using hj
          rw [this, Bool.false_or]
          simp [Array.getD_eq_getD_getElem?, Ne.symm hj]
      rw [e]
      exact hI'

/-- edges that bind point to lower numbers, as a Bool -/
def acycB (md : Region.Mode) (ops : Array Oper) : Bool := (List.range ops.size).all fun i => (ops[i]?.map fun o => o.after.toList.all fun e => !Region.binds md e || decide (e.on < i)).getD true

theorem og_acyc (h : acycB md ops = true) {i : Nat} {o : Oper} (hi : ops[i]? = some o) {e : Edge} (he : e ∈ o.after) (hb : Region.binds md e = true) : e.on < i := by
  have h1 := List.all_eq_true.1 h i (List.mem_range.2 (Array.getElem?_eq_some_iff.1 hi).1)
  rw [hi] at h1
  simp only [Option.map_some, Option.getD_some] at h1
  have h2 := List.all_eq_true.1 h1 e (by simpa using he)
  simpa [hb] using h2

/-- one that comes ahead, as a Bool -/
def aheadB (md : Region.Mode) (o : Oper) (j : Nat) : Bool := o.after.toList.any fun e => Region.binds md e && e.on == j

theorem og_pre {o : Oper} {D : Nat → Bool} (hp : ∀ e ∈ o.after, Region.binds md e = true → D e.on = true) {j : Nat} (h : aheadB md o j = true) : D j = true := by
  obtain ⟨e, he, hb⟩ := List.any_eq_true.1 h
  simp only [Bool.and_eq_true, beq_iff_eq] at hb
  rw [← hb.2]
  exact hp e (by simpa using he) hb.1

/-- a region that draws: an assertion over what has come up, kept by each operation -/
theorem wp_region_og {id : Nat} {a : Act} {w : World} (I : (Nat → Bool) → Act → World → Prop) (hm : P.follows .mixedOrders = true)
    (hac : ∀ (i : Nat) (o : Oper), ops[i]? = some o → ∀ e ∈ o.after, Region.binds .any e = true → e.on < i)
    (h0 : I (fun _ => false) a w.drew)
    (hst : ∀ (i : Nat) (o : Oper), ops[i]? = some o → ∀ D a w, D i = false → (∀ e ∈ o.after, Region.binds .any e = true → D e.on = true) → I D a w → wpOp P ops Q i (fun a' w' => I (fun j => j == i || D j) a' w') a w)
    (hen : ∀ D a w, (∀ i, i < ops.size → D i = true) → I D a w → Q .normal a w) : (Code.region id ops true).wp P Q a w := by
  refine wp_region_any hm (wpAny_og I hac hst hen _ _ _ _ (by simp) (by simp) ?_)
  have e : (fun j => (Array.replicate ops.size false).getD j false) = (fun _ => false) := by
    funext j
    by_cases hj : j < ops.size <;> simp [Array.getD_eq_getD_getElem?, hj]
  rw [e]
  exact h0

end

end Go.Proofs.Ytglmniciojemfaa

/-
  A region that draws its order: one obligation an operation; the frame as a list, its own slots written over. No program in sight.
-/
namespace Go.Proofs.Ytglmniciojemfaa
set_option maxRecDepth 100000
open Go.RowKit

theorem wp_region_ogt {P : Program} {ops : Array Oper} {Q : Exit → Act → World → Prop} {id : Nat} {ts : List Value} {w : World} (J : List Value → (Nat → Bool) → List Value → World → Prop) (hm : P.follows .mixedOrders = true)
    (hac : acycB .any ops = true)
    (h0 : J ts (fun _ => false) ts w.drew)
    (hst : ∀ (i : Nat) (o : Oper), ops[i]? = some o → ∀ D ts' w, D i = false → (∀ e ∈ o.after, Region.binds .any e = true → D e.on = true) → J ts D ts' w → wpOp P ops Q i (fun a' w' => ∃ ts'', a' = ⟨List.toArray ts'', []⟩ ∧ J ts (fun j => j == i || D j) ts'' w') ⟨List.toArray ts', []⟩ w)
    (hen : ∀ D ts' w, (∀ i, i < ops.size → D i = true) → J ts D ts' w → Q .normal ⟨List.toArray ts', []⟩ w) : (Code.region id ops true).wp P Q ⟨List.toArray ts, []⟩ w := by
  refine wp_region_og (fun D a' w' => ∃ ts', a' = ⟨List.toArray ts', []⟩ ∧ J ts D ts' w') hm (fun i o hi e he hb => og_acyc hac hi he hb) ⟨ts, rfl, h0⟩ ?_ ?_
  · rintro i o hi D a w hD hp ⟨ts', rfl, hJ⟩
    exact hst i o hi D ts' w hD hp hJ
  · rintro D a w hall ⟨ts', rfl, hJ⟩
    exact hen D ts' w hall hJ

theorem list4_eq {a a' b b' c c' d d' : Value} (h1 : a = a') (h2 : b = b') (h3 : c = c') (h4 : d = d') : [a, b, c, d] = [a', b', c', d'] := by rw [h1, h2, h3, h4]
theorem list3_eq {a a' b b' c c' : Value} (h1 : a = a') (h2 : b = b') (h3 : c = c') : [a, b, c] = [a', b', c'] := by rw [h1, h2, h3]

/-- a block's letter, to be named -/
theorem nameB {bs : List Nat} {w0 w : World} {l e : List (Nat × List Value)} (_ : Sx bs w0 w l e) (k : Nat) {b : Nat} {cs : List Value} (_ : l[k]? = some (b, cs)) : ∃ b', b' = b := ⟨b, rfl⟩

theorem nameW {bs : List Nat} {w0 w : World} {l e : List (Nat × List Value)} (_ : Sx bs w0 w l e) : ∃ u, u = w := ⟨w, rfl⟩

/-- slots written over -/
def putS (ts : List Value) : List (Nat × Value) → List Value
  | [] => ts
  | u :: r => putS (ts.set u.1 u.2) r

end Go.Proofs.Ytglmniciojemfaa

/-
  The walk of an access of a memory.
-/
namespace Go.Proofs.Ytglmniciojemfaa
set_option maxRecDepth 100000
open Go.RowKit Go.Sort

theorem nextI_wrap (z : Int) : IntKind.i64.wrap (z + 1) = Um.nextI z := by
  rw [IntKind.wrap_i64]
  rfl

theorem egL (args : Array Value) (w : World) : (callFunc 48 args).run Try.prog w = .ok (.enter 48 args) w := by go_simp

theorem egS (args : Array Value) (w : World) : (callFunc 47 args).run Try.prog w = .ok (.enter 47 args) w := by go_simp

theorem egW (args : Array Value) (w : World) : (callFunc 69 args).run Try.prog w = .ok (.enter 69 args) w := by go_simp

set_option maxHeartbeats 2000000 in
theorem mAccess_hit {W : World} {B C : Nat} {c : Um.Cf} {m : Um.Mm} (h : MemAt W B C c m) (kind a b : Int) (o v : Nat) (F : FuncId) (eg : ∀ args w, (callFunc F args).run Try.prog w = .ok (.enter F args) w)
    (hF : ∀ x w, Calls Try.prog F #[.agg #[.int .u64 o, .int .u64 v], .int .u64 (x : Nat)] w fun e w' => e = .returned (.tuple #[.int .u64 (Um.trn kind o v x : Nat), .bool (Um.trd kind o x)]) ∧ Below w.heap.size w w')
    (hb0 : -9223372036854775808 ≤ b) (hb1 : b ≤ 9223372036854775807) (hv : Um.Word v) (p : Nat) (hp : c.cl a b = p) :
    Calls Try.prog 46 #[.pointer (some ⟨B, 0, none⟩), .int .i64 kind, (.agg #[.int .i64 a, .int .i64 b]), .func (.func F) #[.agg #[.int .u64 o, .int .u64 v]] #[]] W fun e W' =>
      e = .returned (.agg #[.int .i64 kind, .int .i64 a, .int .i64 b, .int .u64 (m.ws p : Nat), .int .u64 ((Um.trn kind o v (m.ws p) : Nat)), .bool (Um.trd kind o (m.ws p))]) ∧ MemAt W' B C c (Um.mhit m p kind a b o v) ∧ Off B C W W' := by
  have hcl := fun w => cCell_any c.t c.s c.k c.g c.q a b w hb0 hb1
  rw [show Um.cellN (Um.rt c.t c.s c.k c.g c.q) c.t c.s c.k a b = p from hp] at hcl
  have hpn : p < c.n := by have := Um.Cf.cl_lt (c := c) (a := a) (b := b) (by omega); rw [hp] at this; simpa using this
  have hW := hide (h.wd p hpn)
  have hBn : B ≠ W.heap.size ∧ B ≠ W.heap.size + 1 ∧ B ≠ W.heap.size + 1 + 1 := by have := h.hB; omega
  have hCn : C ≠ W.heap.size ∧ C ≠ W.heap.size + 1 ∧ C ≠ W.heap.size + 1 + 1 := by have := h.hC; omega
  clear hp hb0 hb1
  have hne := h.ne
  go_enter Try.func46, Try.ntmps46
  go_wp2_with fail
  generalize hw1 : ((W.alloc (.cells #[.int .i64 a, .int .i64 b] 51)).alloc (.cells #[.int .i64 0, .int .i64 0, .int .i64 0, .int .u64 0, .int .u64 0, .bool false] 96)).alloc (.cells #[.int .i64 kind, .int .i64 a, .int .i64 b, .int .u64 0, .int .u64 0, .bool false] 96) = w1
  obtain ⟨hS1, hR1, hT1⟩ : SpAt w1 W.heap.size a b ∧ TchAt w1 (W.heap.size + 1) ⟨0, 0, 0, 0, 0, false⟩ ∧ TchAt w1 (W.heap.size + 1 + 1) ⟨kind, a, b, 0, 0, false⟩ := by
    subst hw1
    obtain ⟨h1, h2, h3⟩ := alloc3_at W (.cells #[.int .i64 a, .int .i64 b] 51) (.cells #[.int .i64 0, .int .i64 0, .int .i64 0, .int .u64 0, .int .u64 0, .bool false] 96) (.cells #[.int .i64 kind, .int .i64 a, .int .i64 b, .int .u64 0, .int .u64 0, .bool false] 96)
    exact ⟨spAt_new h1, tchAt_new _ h2, tchAt_new _ h3⟩
  have hO1 : Off B C W w1 := by
    subst hw1
    exact (((Off.refl B C W).alloc _).alloc _).alloc _
  have hM1 : MemAt w1 B C c m := by
    subst hw1
    exact h.below ((((Below.refl W.heap.size W).alloc (Nat.le_refl _) _).alloc (by simp) _).alloc (by simp; omega) _) h.hB h.hC
  clear hw1 h
  obtain ⟨_, a0, a1⟩ := id hS1
  obtain ⟨_, _, _, _, f0, f1, f2, f3, f4, _⟩ := id hM1
  have k0 : ∀ d os, (grow (redrawn w1 d) os).cell? ⟨B, 0, none⟩ = some (.int .i64 c.t) := fun d os => cell_regrown f0 d os
  have k1 : ∀ d os, (grow (redrawn w1 d) os).cell? ⟨B, 1, none⟩ = some (.int .i64 c.s) := fun d os => cell_regrown f1 d os
  have k2 : ∀ d os, (grow (redrawn w1 d) os).cell? ⟨B, 2, none⟩ = some (.int .i64 c.k) := fun d os => cell_regrown f2 d os
  have k3 : ∀ d os, (grow (redrawn w1 d) os).cell? ⟨B, 3, none⟩ = some (.int .i64 c.g) := fun d os => cell_regrown f3 d os
  have k4 : ∀ d os, (grow (redrawn w1 d) os).cell? ⟨B, 4, none⟩ = some (.int .u64 c.q) := fun d os => cell_regrown f4 d os
  have k5 : ∀ d os, (grow (redrawn w1 d) os).cell? ⟨W.heap.size, 0, none⟩ = some (.int .i64 a) := fun d os => cell_regrown a0 d os
  have k6 : ∀ d os, (grow (redrawn w1 d) os).cell? ⟨W.heap.size, 1, none⟩ = some (.int .i64 b) := fun d os => cell_regrown a1 d os
  refine wp_region_quiet_below (by kernel_rfl) (by kernel_rfl) ?_
  repeat (go_big_quiet_step (first
    | (go_at_call 67; exact Calls.regrown_of (hcl _))))
  refine wpQuiet_nil ?_
  intro w2 hw2
  have hb2 : Below w1.heap.size w1 w2 := by
    obtain ⟨⟨dq, osq⟩, hw3⟩ := hw2
    subst hw3
    exact below_regrown w1 dq osq
  have hR2 := hR1.below hb2
  have hT2 := hT1.below hb2
  have hM2 := hM1.below hb2 hM1.hB hM1.hC
  have hO2 := hO1.then hb2
  clear hb2 hw2 hR1 hT1 hM1 hO1 hS1 a0 a1 f0 f1 f2 f3 f4 k0 k1 k2 k3 k4 k5 k6 hcl
  have hTl : W.heap.size ≤ W.heap.size + 1 + 1 := by omega
  have hRl : W.heap.size ≤ W.heap.size + 1 := by omega
  have hTR : W.heap.size + 1 + 1 ≠ W.heap.size + 1 := by omega
  obtain ⟨_, hBR, hBT⟩ := hBn
  obtain ⟨_, hCR, hCT⟩ := hCn
  generalize W.heap.size + 1 + 1 = T at *
  generalize W.heap.size + 1 = R at *
  obtain ⟨_, _, _, _, _, _, _, _, _, e5, _⟩ := id hM2
  have e6 := hM2.ws p hpn
  obtain ⟨_, _, _, _, t3, _, _, tz⟩ := id hT2
  have tz3 := tz 3
  have hpi : (p : Int) < (c.n : Int) := by omega
  have hx0 : Um.Word (m.ws p) := unhide hW
  have HX := hide hx0
  clear hx0 hW tz
  go_wp2_with fail
  refine (hF _ _).mono ?_
  rintro e w4 ⟨rfl, hb4⟩
  have hT3 : TchAt (w2.setCell ⟨T, 3, none⟩ (.int .u64 (m.ws p : Nat))) T ⟨kind, a, b, m.ws p, 0, false⟩ := hT2.set3 (m.ws p)
  have hR3 := hR2.set (p := ⟨T, 3, none⟩) (u := .int .u64 (m.ws p : Nat)) hTR
  have hM3 := hM2.set (p := ⟨T, 3, none⟩) (u := .int .u64 (m.ws p : Nat)) (Ne.symm hBT) (Ne.symm hCT)
  have hO3 := hO2.set (p := ⟨T, 3, none⟩) (.inr (.inr hTl)) (.int .u64 (m.ws p : Nat))
  generalize w2.setCell ⟨T, 3, none⟩ (.int .u64 (m.ws p : Nat)) = w3 at *
  have hT4 := hT3.below hb4
  have hR4 := hR3.below hb4
  have hM4 := hM3.below hb4 hM3.hB hM3.hC
  have hO4 := hO3.then hb4
  clear hb4 hT3 hR3 hM3 hO3 hT2 hR2 hM2 hO2 hF eg e5 e6 t3 tz3
  obtain ⟨_, _, _, _, _, t4, t5, tz⟩ := id hT4
  have tz4 := tz 4
  have tz5 := tz 5
  clear tz
  go_wp2_with fail
  have hT5 : TchAt ((w4.setCell ⟨T, 4, none⟩ (.int .u64 (Um.trn kind o v (m.ws p) : Nat))).setCell ⟨T, 5, none⟩ (.bool (Um.trd kind o (m.ws p)))) T ⟨kind, a, b, m.ws p, Um.trn kind o v (m.ws p), Um.trd kind o (m.ws p)⟩ := (hT4.set4 (Um.trn kind o v (m.ws p))).set5 _
  have hR5 := (hR4.set (p := ⟨T, 4, none⟩) (u := .int .u64 (Um.trn kind o v (m.ws p) : Nat)) hTR).set (p := ⟨T, 5, none⟩) (u := .bool (Um.trd kind o (m.ws p))) hTR
  have hM5 := (hM4.set (p := ⟨T, 4, none⟩) (u := .int .u64 (Um.trn kind o v (m.ws p) : Nat)) (Ne.symm hBT) (Ne.symm hCT)).set (p := ⟨T, 5, none⟩) (u := .bool (Um.trd kind o (m.ws p))) (Ne.symm hBT) (Ne.symm hCT)
  have hO5 := (hO4.set (p := ⟨T, 4, none⟩) (.inr (.inr hTl)) (.int .u64 (Um.trn kind o v (m.ws p) : Nat))).set (p := ⟨T, 5, none⟩) (.inr (.inr hTl)) (.bool (Um.trd kind o (m.ws p)))
  generalize World.setCell (w4.setCell ⟨T, 4, none⟩ (.int .u64 (Um.trn kind o v (m.ws p) : Nat))) ⟨T, 5, none⟩ (.bool (Um.trd kind o (m.ws p))) = w5 at *
  clear hT4 hR4 hM4 hO4 t4 t5 tz4 tz5
  have hy := hide (Um.word_trn (kind := kind) (old := o) hv (unhide HX))
  generalize hye : Um.trn kind o v (m.ws p) = y at *
  generalize hde : Um.trd kind o (m.ws p) = dn at *
  have HYE := hide hye
  have HDE := hide hde
  clear hye hde
  have HT := hide hT5
  have HR := hide hR5
  have HM := hide hM5
  have HO := hide hO5
  have e6 := hM5.ws p hpn
  obtain ⟨_, t0, t1, t2, t3, t4, t5, tz⟩ := hT5
  obtain ⟨_, r0, r1, r2, r3, r4, r5, rz⟩ := hR5
  obtain ⟨_, _, _, _, _, _, _, _, _, m5, m6, m7, m8, m9, m10, m11, m12, mz, mc, _, _⟩ := hM5
  have rz0 := rz 0
  have rz1 := rz 1
  have rz2 := rz 2
  have rz3 := rz 3
  have rz4 := rz 4
  have rz5 := rz 5
  have mz6 := mz 6
  have mz7 := mz 7
  have mz8 := mz 8
  have mz9 := mz 9
  have mz10 := mz 10
  have mz11 := mz 11
  have mz12 := mz 12
  have mcp := mc p
  clear tz rz mz mc hO5
  go_region
  go_wp2
  have hM := unhide HM
  have hR := unhide HR
  have hO := unhide HO
  have hY := unhide hy
  have hm := (((((((((((((hM.setWord hpn hY).setCnt (wrap64 (m.cnt + 1))).setL0 kind).setL1 a).setL2 b).setL3 (m.ws p)).setL4 y).setL5 dn).set (p := ⟨R, 0, none⟩) (u := .int .i64 kind) (Ne.symm hBR) (Ne.symm hCR)).set (p := ⟨R, 1, none⟩) (u := .int .i64 a) (Ne.symm hBR) (Ne.symm hCR)).set (p := ⟨R, 2, none⟩) (u := .int .i64 b) (Ne.symm hBR) (Ne.symm hCR)).set (p := ⟨R, 3, none⟩) (u := .int .u64 (m.ws p : Nat)) (Ne.symm hBR) (Ne.symm hCR)).set (p := ⟨R, 4, none⟩) (u := .int .u64 (y : Nat)) (Ne.symm hBR) (Ne.symm hCR)).set (p := ⟨R, 5, none⟩) (u := .bool dn) (Ne.symm hBR) (Ne.symm hCR)
  have hr := (((((((((((((hR.set (p := ⟨C, p, none⟩) (u := .int .u64 (y : Nat)) hCR).set (p := ⟨B, 6, none⟩) (u := .int .i64 (wrap64 (m.cnt + 1))) hBR).set (p := ⟨B, 7, none⟩) (u := .int .i64 kind) hBR).set (p := ⟨B, 8, none⟩) (u := .int .i64 a) hBR).set (p := ⟨B, 9, none⟩) (u := .int .i64 b) hBR).set (p := ⟨B, 10, none⟩) (u := .int .u64 (m.ws p : Nat)) hBR).set (p := ⟨B, 11, none⟩) (u := .int .u64 (y : Nat)) hBR).set (p := ⟨B, 12, none⟩) (u := .bool dn) hBR).set0 kind).set1 a).set2 b).set3 (m.ws p)).set4 y).set5 dn
  have ho := (((((((((((((hO.set (p := ⟨C, p, none⟩) (.inr (.inl rfl)) (.int .u64 (y : Nat))).set (p := ⟨B, 6, none⟩) (.inl rfl) (.int .i64 (wrap64 (m.cnt + 1)))).set (p := ⟨B, 7, none⟩) (.inl rfl) (.int .i64 kind)).set (p := ⟨B, 8, none⟩) (.inl rfl) (.int .i64 a)).set (p := ⟨B, 9, none⟩) (.inl rfl) (.int .i64 b)).set (p := ⟨B, 10, none⟩) (.inl rfl) (.int .u64 (m.ws p : Nat))).set (p := ⟨B, 11, none⟩) (.inl rfl) (.int .u64 (y : Nat))).set (p := ⟨B, 12, none⟩) (.inl rfl) (.bool dn)).set (p := ⟨R, 0, none⟩) (.inr (.inr hRl)) (.int .i64 kind)).set (p := ⟨R, 1, none⟩) (.inr (.inr hRl)) (.int .i64 a)).set (p := ⟨R, 2, none⟩) (.inr (.inr hRl)) (.int .i64 b)).set (p := ⟨R, 3, none⟩) (.inr (.inr hRl)) (.int .u64 (m.ws p : Nat))).set (p := ⟨R, 4, none⟩) (.inr (.inr hRl)) (.int .u64 (y : Nat))).set (p := ⟨R, 5, none⟩) (.inr (.inr hRl)) (.bool dn)
  have hm' := hm.drew
  have hr' := hr.drew
  have ho' := ho.drew
  generalize hWf : World.drew _ = Wf at hm' hr' ho' ⊢
  obtain ⟨_, q0, q1, q2, q3, q4, q5, _⟩ := hr'
  refine bodyPost_ret (v := (.agg #[.int .i64 kind, .int .i64 a, .int .i64 b, .int .u64 (m.ws p : Nat), .int .u64 (y : Nat), .bool dn])) (by simp [results, Try.results46, go_sem, q0, q1, q2, q3, q4, q5]) rfl ⟨by rw [unhide HYE, unhide HDE], ?_, ho'⟩
  unfold Um.mhit
  rw [unhide HYE, unhide HDE]
  dsimp only at hm'
  rw [next_eq] at hm'
  exact hm'

end Go.Proofs.Ytglmniciojemfaa

/-
  The walk of an access of a spot that stands nowhere.
-/
namespace Go.Proofs.Ytglmniciojemfaa
set_option maxRecDepth 100000
open Go.RowKit Go.Sort

set_option maxHeartbeats 2000000 in
theorem mAccess_miss {W : World} {B C : Nat} {c : Um.Cf} {m : Um.Mm} (h : MemAt W B C c m) (kind a b : Int) (fv : Value)
    (hb0 : -9223372036854775808 ≤ b) (hb1 : b ≤ 9223372036854775807) (hp : c.cl a b = -1) :
    Calls Try.prog 46 #[.pointer (some ⟨B, 0, none⟩), .int .i64 kind, (.agg #[.int .i64 a, .int .i64 b]), fv] W fun e W' =>
      e = .returned (.agg #[.int .i64 kind, .int .i64 a, .int .i64 b, .int .u64 0, .int .u64 0, .bool false]) ∧ MemAt W' B C c (Um.mmiss m kind a b) ∧ Off B C W W' := by
  have hcl := fun w => cCell_any c.t c.s c.k c.g c.q a b w hb0 hb1
  rw [show Um.cellN (Um.rt c.t c.s c.k c.g c.q) c.t c.s c.k a b = -1 from hp] at hcl
  have hBn : B ≠ W.heap.size ∧ B ≠ W.heap.size + 1 ∧ B ≠ W.heap.size + 1 + 1 := by have := h.hB; omega
  have hCn : C ≠ W.heap.size ∧ C ≠ W.heap.size + 1 ∧ C ≠ W.heap.size + 1 + 1 := by have := h.hC; omega
  clear hp hb0 hb1
  have hne := h.ne
  go_enter Try.func46, Try.ntmps46
  go_wp2_with fail
  generalize hw1 : ((W.alloc (.cells #[.int .i64 a, .int .i64 b] 51)).alloc (.cells #[.int .i64 0, .int .i64 0, .int .i64 0, .int .u64 0, .int .u64 0, .bool false] 96)).alloc (.cells #[.int .i64 kind, .int .i64 a, .int .i64 b, .int .u64 0, .int .u64 0, .bool false] 96) = w1
  obtain ⟨hS1, hR1, hT1⟩ : SpAt w1 W.heap.size a b ∧ TchAt w1 (W.heap.size + 1) ⟨0, 0, 0, 0, 0, false⟩ ∧ TchAt w1 (W.heap.size + 1 + 1) ⟨kind, a, b, 0, 0, false⟩ := by
    subst hw1
    obtain ⟨h1, h2, h3⟩ := alloc3_at W (.cells #[.int .i64 a, .int .i64 b] 51) (.cells #[.int .i64 0, .int .i64 0, .int .i64 0, .int .u64 0, .int .u64 0, .bool false] 96) (.cells #[.int .i64 kind, .int .i64 a, .int .i64 b, .int .u64 0, .int .u64 0, .bool false] 96)
    exact ⟨spAt_new h1, tchAt_new _ h2, tchAt_new _ h3⟩
  have hO1 : Off B C W w1 := by
    subst hw1
    exact (((Off.refl B C W).alloc _).alloc _).alloc _
  have hM1 : MemAt w1 B C c m := by
    subst hw1
    exact h.below ((((Below.refl W.heap.size W).alloc (Nat.le_refl _) _).alloc (by simp) _).alloc (by simp; omega) _) h.hB h.hC
  clear hw1 h
  obtain ⟨_, a0, a1⟩ := id hS1
  obtain ⟨_, _, _, _, f0, f1, f2, f3, f4, _⟩ := id hM1
  have k0 : ∀ d os, (grow (redrawn w1 d) os).cell? ⟨B, 0, none⟩ = some (.int .i64 c.t) := fun d os => cell_regrown f0 d os
  have k1 : ∀ d os, (grow (redrawn w1 d) os).cell? ⟨B, 1, none⟩ = some (.int .i64 c.s) := fun d os => cell_regrown f1 d os
  have k2 : ∀ d os, (grow (redrawn w1 d) os).cell? ⟨B, 2, none⟩ = some (.int .i64 c.k) := fun d os => cell_regrown f2 d os
  have k3 : ∀ d os, (grow (redrawn w1 d) os).cell? ⟨B, 3, none⟩ = some (.int .i64 c.g) := fun d os => cell_regrown f3 d os
  have k4 : ∀ d os, (grow (redrawn w1 d) os).cell? ⟨B, 4, none⟩ = some (.int .u64 c.q) := fun d os => cell_regrown f4 d os
  have k5 : ∀ d os, (grow (redrawn w1 d) os).cell? ⟨W.heap.size, 0, none⟩ = some (.int .i64 a) := fun d os => cell_regrown a0 d os
  have k6 : ∀ d os, (grow (redrawn w1 d) os).cell? ⟨W.heap.size, 1, none⟩ = some (.int .i64 b) := fun d os => cell_regrown a1 d os
  refine wp_region_quiet_below (by kernel_rfl) (by kernel_rfl) ?_
  repeat (go_big_quiet_step (first
    | (go_at_call 67; exact Calls.regrown_of (hcl _))))
  refine wpQuiet_nil ?_
  intro w2 hw2
  have hb2 : Below w1.heap.size w1 w2 := by
    obtain ⟨⟨dq, osq⟩, hw3⟩ := hw2
    subst hw3
    exact below_regrown w1 dq osq
  have hR2 := hR1.below hb2
  have hT2 := hT1.below hb2
  have hM2 := hM1.below hb2 hM1.hB hM1.hC
  have hO2 := hO1.then hb2
  clear hb2 hw2 hR1 hT1 hM1 hO1 hS1 a0 a1 f0 f1 f2 f3 f4 k0 k1 k2 k3 k4 k5 k6 hcl
  have hTl : W.heap.size ≤ W.heap.size + 1 + 1 := by omega
  have hRl : W.heap.size ≤ W.heap.size + 1 := by omega
  have hTR : W.heap.size + 1 + 1 ≠ W.heap.size + 1 := by omega
  obtain ⟨_, hBR, hBT⟩ := hBn
  obtain ⟨_, hCR, hCT⟩ := hCn
  generalize W.heap.size + 1 + 1 = T at *
  generalize W.heap.size + 1 = R at *
  have HT := hide hT2
  have HR := hide hR2
  have HM := hide hM2
  have HO := hide hO2
  obtain ⟨_, t0, t1, t2, t3, t4, t5, tz⟩ := hT2
  obtain ⟨_, r0, r1, r2, r3, r4, r5, rz⟩ := hR2
  obtain ⟨_, _, _, _, _, _, _, _, _, m5, m6, m7, m8, m9, m10, m11, m12, mz, mc, _, _⟩ := hM2
  have rz0 := rz 0
  have rz1 := rz 1
  have rz2 := rz 2
  have rz3 := rz 3
  have rz4 := rz 4
  have rz5 := rz 5
  have mz6 := mz 6
  have mz7 := mz 7
  have mz8 := mz 8
  have mz9 := mz 9
  have mz10 := mz 10
  have mz11 := mz 11
  have mz12 := mz 12
  clear tz rz mz mc hO2
  go_wp2
  have hM := unhide HM
  have hR := unhide HR
  have hO := unhide HO
  have hm := ((((((((((((hM.setCnt (wrap64 (m.cnt + 1))).setL0 kind).setL1 a).setL2 b).setL3 0).setL4 0).setL5 false).set (p := ⟨R, 0, none⟩) (u := .int .i64 kind) (Ne.symm hBR) (Ne.symm hCR)).set (p := ⟨R, 1, none⟩) (u := .int .i64 a) (Ne.symm hBR) (Ne.symm hCR)).set (p := ⟨R, 2, none⟩) (u := .int .i64 b) (Ne.symm hBR) (Ne.symm hCR)).set (p := ⟨R, 3, none⟩) (u := .int .u64 0) (Ne.symm hBR) (Ne.symm hCR)).set (p := ⟨R, 4, none⟩) (u := .int .u64 0) (Ne.symm hBR) (Ne.symm hCR)).set (p := ⟨R, 5, none⟩) (u := .bool false) (Ne.symm hBR) (Ne.symm hCR)
  have hr := ((((((((((((hR.set (p := ⟨B, 6, none⟩) (u := .int .i64 (wrap64 (m.cnt + 1))) hBR).set (p := ⟨B, 7, none⟩) (u := .int .i64 kind) hBR).set (p := ⟨B, 8, none⟩) (u := .int .i64 a) hBR).set (p := ⟨B, 9, none⟩) (u := .int .i64 b) hBR).set (p := ⟨B, 10, none⟩) (u := .int .u64 0) hBR).set (p := ⟨B, 11, none⟩) (u := .int .u64 0) hBR).set (p := ⟨B, 12, none⟩) (u := .bool false) hBR).set0 kind).set1 a).set2 b).set3 0).set4 0).set5 false
  have ho := ((((((((((((hO.set (p := ⟨B, 6, none⟩) (.inl rfl) (.int .i64 (wrap64 (m.cnt + 1)))).set (p := ⟨B, 7, none⟩) (.inl rfl) (.int .i64 kind)).set (p := ⟨B, 8, none⟩) (.inl rfl) (.int .i64 a)).set (p := ⟨B, 9, none⟩) (.inl rfl) (.int .i64 b)).set (p := ⟨B, 10, none⟩) (.inl rfl) (.int .u64 0)).set (p := ⟨B, 11, none⟩) (.inl rfl) (.int .u64 0)).set (p := ⟨B, 12, none⟩) (.inl rfl) (.bool false)).set (p := ⟨R, 0, none⟩) (.inr (.inr hRl)) (.int .i64 kind)).set (p := ⟨R, 1, none⟩) (.inr (.inr hRl)) (.int .i64 a)).set (p := ⟨R, 2, none⟩) (.inr (.inr hRl)) (.int .i64 b)).set (p := ⟨R, 3, none⟩) (.inr (.inr hRl)) (.int .u64 0)).set (p := ⟨R, 4, none⟩) (.inr (.inr hRl)) (.int .u64 0)).set (p := ⟨R, 5, none⟩) (.inr (.inr hRl)) (.bool false)
  dsimp only at hm
  rw [next_eq] at hm
  simp only [next_eq] at hr ho
  clear HM HR HO hM hR hO HT
  have ez : ((0 : Nat) : Int) = 0 := rfl
  rw [ez] at hm hr
  rw [next_eq]
  generalize World.setCell _ _ _ = Wf at hm hr ho ⊢
  obtain ⟨_, q0, q1, q2, q3, q4, q5, _⟩ := hr
  exact bodyPost_ret (v := (.agg #[.int .i64 kind, .int .i64 a, .int .i64 b, .int .u64 0, .int .u64 0, .bool false])) (by simp [results, Try.results46, go_sem, q0, q1, q2, q3, q4, q5]) rfl ⟨rfl, hm, ho⟩

theorem field_old (k a b o n : Int) (d : Bool) (w : World) : (Instr.field 96 (.agg #[.int .i64 k, .int .i64 a, .int .i64 b, .int .u64 o, .int .u64 n, .bool d]) 2).run Try.prog w = .ok (.int .u64 o) w := by
  simp [Instr.field, go_sem, asAgg]

theorem field_done (k a b o n : Int) (d : Bool) (w : World) : (Instr.field 96 (.agg #[.int .i64 k, .int .i64 a, .int .i64 b, .int .u64 o, .int .u64 n, .bool d]) 4).run Try.prog w = .ok (.bool d) w := by
  simp [Instr.field, go_sem, asAgg]

/-- an access of any spot -/
theorem mAccess_any {W : World} {B C : Nat} {c : Um.Cf} {m : Um.Mm} (h : MemAt W B C c m) (kind a b : Int) (o v : Nat) (F : FuncId) (eg : ∀ args w, (callFunc F args).run Try.prog w = .ok (.enter F args) w)
    (hF : ∀ x w, Calls Try.prog F #[.agg #[.int .u64 o, .int .u64 v], .int .u64 (x : Nat)] w fun e w' => e = .returned (.tuple #[.int .u64 (Um.trn kind o v x : Nat), .bool (Um.trd kind o x)]) ∧ Below w.heap.size w w')
    (hb0 : -9223372036854775808 ≤ b) (hb1 : b ≤ 9223372036854775807) (hv : Um.Word v) (M : Um.Mm) (hM : M = Um.mtouch c m kind a b o v) :
    Calls Try.prog 46 #[.pointer (some ⟨B, 0, none⟩), .int .i64 kind, (.agg #[.int .i64 a, .int .i64 b]), .func (.func F) #[.agg #[.int .u64 o, .int .u64 v]] #[]] W fun e W' =>
      e = .returned (.agg #[.int .i64 (M.l.kind), .int .i64 (M.l.a), .int .i64 (M.l.b), .int .u64 (M.l.old : Nat), .int .u64 (M.l.new : Nat), .bool (M.l.done)]) ∧ MemAt W' B C c M ∧ Off B C W W' := by
  subst hM
  unfold Um.mtouch
  by_cases hp : 0 ≤ c.cl a b
  · rw [if_pos hp]
    exact mAccess_hit h kind a b o v F eg hF hb0 hb1 hv _ (Int.toNat_of_nonneg hp).symm
  · rw [if_neg hp]
    exact mAccess_miss h kind a b _ hb0 hb1 (by have := c.cl_ge a b; omega)

end Go.Proofs.Ytglmniciojemfaa

/-
  The walks of a memory's loads, stores, swaps and adds.
-/
namespace Go.Proofs.Ytglmniciojemfaa
set_option maxRecDepth 100000
open Go.RowKit Go.Sort

attribute [local go_sem] field_old field_done

set_option maxHeartbeats 1000000 in
theorem mLoad_any {W : World} {B C : Nat} {c : Um.Cf} {m : Um.Mm} (h : MemAt W B C c m) (a b : Int) (hb0 : -9223372036854775808 ≤ b) (hb1 : b ≤ 9223372036854775807) (M : Um.Mm) (hM : M = Um.mtouch c m 1 a b 0 0) :
    Calls Try.prog 21 #[.pointer (some ⟨B, 0, none⟩), (.agg #[.int .i64 a, .int .i64 b])] W fun e W' => e = .returned (.int .u64 (M.l.old : Nat)) ∧ MemAt W' B C c M ∧ Off B C W W' := by
  have hS : Off B C W (W.alloc (.cells #[.int .i64 a, .int .i64 b] 51)) := (Off.refl B C W).alloc _
  have hM1 : MemAt (W.alloc (.cells #[.int .i64 a, .int .i64 b] 51)) B C c m := h.below ((Below.refl _ _).alloc (Nat.le_refl _) _) h.hB h.hC
  have hA := mAccess_any hM1 1 a b 0 0 48 egL (wLoad_any 0 0) hb0 hb1 (by unfold Um.Word; omega) M hM
  clear hM h hM1 hb0 hb1
  go_enter Try.func21, Try.ntmps21
  go_wp2_with fail
  refine hA.mono ?_
  rintro e w1 ⟨rfl, hM1, hO1⟩
  have HM := hide hM1
  have HO := hide (hS.trans hO1)
  clear hM1 hO1 hA hS
  go_wp2
  go_ret
  exact ⟨rfl, unhide HM, unhide HO⟩

set_option maxHeartbeats 1000000 in
theorem mStore_any {W : World} {B C : Nat} {c : Um.Cf} {m : Um.Mm} (h : MemAt W B C c m) (a b : Int) (v : Nat) (hv : Um.Word v) (hb0 : -9223372036854775808 ≤ b) (hb1 : b ≤ 9223372036854775807) (M : Um.Mm) (hM : M = Um.mtouch c m 2 a b 0 v) :
    Calls Try.prog 19 #[.pointer (some ⟨B, 0, none⟩), (.agg #[.int .i64 a, .int .i64 b]), .int .u64 (v : Nat)] W fun e W' => e = .returned (.tuple #[]) ∧ MemAt W' B C c M ∧ Off B C W W' := by
  have hS : Off B C W (W.alloc (.cells #[.int .i64 a, .int .i64 b] 51)) := (Off.refl B C W).alloc _
  have hM1 : MemAt (W.alloc (.cells #[.int .i64 a, .int .i64 b] 51)) B C c m := h.below ((Below.refl _ _).alloc (Nat.le_refl _) _) h.hB h.hC
  have hA := mAccess_any hM1 2 a b 0 v 47 egS (wStore_any 0 v) hb0 hb1 hv M hM
  clear hM h hM1 hb0 hb1
  go_enter Try.func19, Try.ntmps19
  go_wp2_with fail
  refine hA.mono ?_
  rintro e w1 ⟨rfl, hM1, hO1⟩
  have HM := hide hM1
  have HO := hide (hS.trans hO1)
  clear hM1 hO1 hA hS
  go_wp2
  go_end0
  exact ⟨rfl, unhide HM, unhide HO⟩

set_option maxHeartbeats 1000000 in
theorem mSwap_any {W : World} {B C : Nat} {c : Um.Cf} {m : Um.Mm} (h : MemAt W B C c m) (a b : Int) (o v : Nat) (hv : Um.Word v) (hb0 : -9223372036854775808 ≤ b) (hb1 : b ≤ 9223372036854775807) (M : Um.Mm) (hM : M = Um.mtouch c m 3 a b o v) :
    Calls Try.prog 62 #[.pointer (some ⟨B, 0, none⟩), (.agg #[.int .i64 a, .int .i64 b]), .int .u64 (o : Nat), .int .u64 (v : Nat)] W fun e W' => e = .returned (.bool M.l.done) ∧ MemAt W' B C c M ∧ Off B C W W' := by
  have hS : Off B C W (W.alloc (.cells #[.int .i64 a, .int .i64 b] 51)) := (Off.refl B C W).alloc _
  have hM1 : MemAt (W.alloc (.cells #[.int .i64 a, .int .i64 b] 51)) B C c m := h.below ((Below.refl _ _).alloc (Nat.le_refl _) _) h.hB h.hC
  have hA := mAccess_any hM1 3 a b o v 69 egW (wSwap_any o v) hb0 hb1 hv M hM
  clear hM h hM1 hb0 hb1
  go_enter Try.func62, Try.ntmps62
  go_wp2_with fail
  refine hA.mono ?_
  rintro e w1 ⟨rfl, hM1, hO1⟩
  have HM := hide hM1
  have HO := hide (hS.trans hO1)
  clear hM1 hO1 hA hS
  go_wp2
  go_ret
  exact ⟨rfl, unhide HM, unhide HO⟩

end Go.Proofs.Ytglmniciojemfaa
