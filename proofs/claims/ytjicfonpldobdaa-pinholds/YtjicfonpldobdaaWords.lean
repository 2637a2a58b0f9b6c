/-
  Small facts on words that the walks share.
-/
import Derived.Test.YtjicfonpldobdaaWalkA
import Derived.WalkSmall
namespace Go.Proofs.Ytjicfonpldobdaa
set_option maxRecDepth 100000
open Go.RowKit

theorem wrap_bd (t : Int) : 0 ≤ IntKind.u64.wrap t ∧ IntKind.u64.wrap t < 18446744073709551616 := by
  rw [IntKind.wrap_u64]
  omega

theorem shl_word (p n k : Nat) (h : n + k ≤ 64) : Um.Word (p % 2 ^ n * 2 ^ k) := by
  apply Um.word_iff.2
  have h1 := Nat.mod_lt p (Nat.two_pow_pos n)
  have h2 : p % 2 ^ n * 2 ^ k < 2 ^ n * 2 ^ k := Nat.mul_lt_mul_of_pos_right h1 (Nat.two_pow_pos k)
  rw [← Nat.pow_add] at h2
  exact Nat.lt_of_lt_of_le h2 (Nat.pow_le_pow_right (by decide) h)

theorem or_word {x y : Nat} (hx : Um.Word x) (hy : Um.Word y) : Um.Word (x ||| y) :=
  Um.word_iff.2 (Nat.or_lt_two_pow (Um.word_iff.1 hx) (Um.word_iff.1 hy))

theorem word_of {a : Int} (h : (Lit.int .u64 a).wf = true) : ∃ x : Nat, a = x ∧ Um.Word x := by
  have hx : 0 ≤ a ∧ a ≤ 18446744073709551615 := by simpa [Lit.wf, IntKind.min, IntKind.max, IntKind.signed, IntKind.bits] using h
  obtain ⟨n, rfl⟩ := Int.eq_ofNat_of_zero_le hx.1
  exact ⟨n, rfl, by unfold Um.Word; omega⟩

theorem int_of {a : Int} (h : (Lit.int .i64 a).wf = true) : -9223372036854775808 ≤ a ∧ a ≤ 9223372036854775807 := by
  simpa [Lit.wf, IntKind.min, IntKind.max, IntKind.signed, IntKind.bits] using h

theorem alloc_drewN (w : World) (n : Nat) (o : Obj) : (w.drewN n).alloc o = (w.alloc o).drewN n := rfl
theorem setCell_drewN (w : World) (n : Nat) (a : Addr) (v : Value) : (w.drewN n).setCell a v = (w.setCell a v).drewN n := rfl

theorem bcell {W w1 : World} (hb : Below W.heap.size W w1) : (∀ b o, b < W.heap.size → w1.cell? ⟨b, o, none⟩ = W.cell? ⟨b, o, none⟩) ∧ (∀ b o, b < W.heap.size → w1.frozen? ⟨b, o, none⟩ = W.frozen? ⟨b, o, none⟩) :=
  ⟨fun b o h => hb.cell (p := ⟨b, o, none⟩) h, fun b o h => hb.frozen (p := ⟨b, o, none⟩) h⟩

end Go.Proofs.Ytjicfonpldobdaa
