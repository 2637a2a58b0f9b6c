/-
  Words that were handed in: what their reading says of their cells.
-/
import Derived.Test.YtafnoloamfdanaaStoreA
import Derived.WalkKit
import Derived.ProofKit
import Derived.OpenShut
import Derived.ShutString
import Derived.SizedLaws
namespace Go.Proofs.Ytafnoloamfdanaa
set_option maxRecDepth 100000
open Go.ChangeShapes Go.WideShapes Go.ChangeAt Go.RowKit

theorem cellsWU : Try.prog.cellsOf 22 = 1 := by kernel_rfl

theorem cellsWI : Try.prog.cellsOf 3 = 1 := by kernel_rfl

theorem okWide_arr {P : Program} {w : World} {r : Reach} {base : Nat} {t : TypeId} {v : Value} {n : Nat} {e : TypeId} (ht : P.underlying t = some (.array n e)) (h : Value.okWide P w r base t v) : ∃ cs, v = .agg cs ∧ cs.size = P.cellsOf t := by
  simp only [Value.okWide, ht] at h
  obtain ⟨cs, h1, h2, _⟩ := h
  exact ⟨cs, h1, h2⟩

theorem open_words {H : Type} {enc : TypeId × Value → H} {W : World} {base : Nat} {v : Value} {d : DataW H} {p : List MemPlace}
    (hv : Value.okWide Try.prog W .any base 25 v) (h : DataW.Trod enc Try.prog W 0 (fun _ => true) true 25 v d p) :
    ∃ n ws, IsWords W v n ws := by
  obtain ⟨a0, len0, cap0, rfl⟩ := okWide_slice Try.underlying25 hv
  obtain ⟨fuel, hf⟩ := h
  rcases open_ints Try.underlying25 Try.underlying22 cellsWU hf with ⟨hcs, _⟩ | ⟨a, len, cap, zs, hcs, _, hl, hm, hz, _, hcell, hwf⟩
  · simp [Value.cells] at hcs
    obtain ⟨rfl, rfl, rfl⟩ := hcs
    exact ⟨0, fun _ => 0, Or.inl ⟨_, _, rfl, rfl⟩⟩
  · simp [Value.cells] at hcs
    obtain ⟨rfl, rfl, rfl⟩ := hcs
    by_cases h0 : len0 = 0
    · subst h0
      exact ⟨0, fun _ => 0, Or.inl ⟨_, _, rfl, rfl⟩⟩
    have hzc : zs.length = cap0 := hz
    obtain ⟨b, off, rfl, hc⟩ := ints_at hcell (by omega)
    have hw : ∀ j, j < zs.length → ∃ x : Nat, zs.getD j 0 = x ∧ Um.Word x := by
      intro j hj
      have e : zs.getD j 0 = zs[j] := by simp [hj]
      rw [e]
      exact word_of (hwf _ (List.getElem_mem hj))
    refine ⟨len0, fun j => (zs.getD j 0).toNat, Or.inr ⟨b, off, cap0, rfl, by omega, hl, hm, ?_, fun j hj => ?_⟩⟩
    · exact World.block_lt_of_cell? W _ (hc 0 (by omega))
    · obtain ⟨x, hx, hw'⟩ := hw j (by omega)
      have e : (zs.getD j 0).toNat = x := by rw [hx]; rfl
      exact ⟨by rw [hc j (by omega), hx, ← e], by rw [← e] at hw'; exact hw'⟩

theorem open_nil {H : Type} {enc : TypeId × Value → H} {W : World} {base : Nat} {v : Value} {d : DataW H} {p : List MemPlace}
    (hv : Value.okWide Try.prog W .any base 25 v) (h : DataW.Trod enc Try.prog W 0 (fun _ => true) true 25 v d p) :
    ∀ ao n cap, v = .slice ao n cap → ao = none → cap = 0 := by
  rintro ao n cap rfl rfl
  obtain ⟨fuel, hf⟩ := h
  rcases open_ints Try.underlying25 Try.underlying22 cellsWU hf with ⟨hcs, _⟩ | ⟨a, len, cap, zs, hcs, _, hl, hm, hzl, hx, _, _⟩
  · simp [Value.cells] at hcs
    exact hcs.2
  · simp [Value.cells] at hcs

theorem bytesWU : Try.prog.bytesOf 22 = 8 := by kernel_rfl

theorem open_words_sized {H : Type} {enc : TypeId × Value → H} {W : World} {base : Nat} {v : Value} {d : DataW H} {p : List MemPlace}
    (hv : Value.okWide Try.prog W .any base 25 v) (h : DataW.Trod enc Try.prog W 0 (fun _ => true) true 25 v d p)
    (hz : ∀ elems spare, d = .slice elems spare → (elems.length + spare.length) * Try.prog.bytesOf 22 ≤ reachBytes) :
    ∃ n ws, IsWords W v n ws ∧ n * 8 ≤ 140737488355328 := by
  obtain ⟨n, ws, hI⟩ := open_words hv h
  refine ⟨n, ws, hI, ?_⟩
  obtain ⟨a0, len0, cap0, rfl⟩ := okWide_slice Try.underlying25 hv
  obtain ⟨fuel, hf⟩ := h
  have hl : n = len0 := by
    rcases hI with ⟨_, _, e, h⟩ | ⟨_, _, _, e, _⟩
    · cases e; exact h
    · cases e; rfl
  subst hl
  rcases open_ints Try.underlying25 Try.underlying22 cellsWU hf with ⟨hcs, _⟩ | ⟨a, len, cap, zs, hcs, _, hl, hm, hzl, hx, _, _⟩
  · simp [Value.cells] at hcs
    obtain ⟨rfl, rfl, rfl⟩ := hcs
    omega
  · simp [Value.cells] at hcs
    obtain ⟨rfl, rfl, rfl⟩ := hcs
    cases hx
    have := hz _ _ rfl
    rw [bytesWU] at this
    have hr := reachBytes_lt
    have hzc : zs.length = cap0 := hzl
    simp [lits] at this
    have h47 : (2 : Nat) ^ 47 = 140737488355328 := by decide
    omega

theorem arr3 {α : Type} {cs : Array α} (h : cs.size = 3) : ∃ c0 c1 c2, cs = #[c0, c1, c2] := by
  obtain ⟨l⟩ := cs
  match l, h with
  | [c0, c1, c2], _ => exact ⟨c0, c1, c2, rfl⟩

theorem lst3 {α : Type} {cs : List α} (h : cs.length = 3) : ∃ c0 c1 c2, cs = [c0, c1, c2] := by
  match cs, h with
  | [c0, c1, c2], _ => exact ⟨c0, c1, c2, rfl⟩

theorem arr4 {α : Type} {cs : Array α} (h : cs.size = 4) : ∃ c0 c1 c2 c3, cs = #[c0, c1, c2, c3] := by
  obtain ⟨l⟩ := cs
  match l, h with
  | [c0, c1, c2, c3], _ => exact ⟨c0, c1, c2, c3, rfl⟩

theorem lst4 {α : Type} {cs : List α} (h : cs.length = 4) : ∃ c0 c1 c2 c3, cs = [c0, c1, c2, c3] := by
  match cs, h with
  | [c0, c1, c2, c3], _ => exact ⟨c0, c1, c2, c3, rfl⟩

theorem arr5 {α : Type} {cs : Array α} (h : cs.size = 5) : ∃ c0 c1 c2 c3 c4, cs = #[c0, c1, c2, c3, c4] := by
  obtain ⟨l⟩ := cs
  match l, h with
  | [c0, c1, c2, c3, c4], _ => exact ⟨c0, c1, c2, c3, c4, rfl⟩

theorem lst5 {α : Type} {cs : List α} (h : cs.length = 5) : ∃ c0 c1 c2 c3 c4, cs = [c0, c1, c2, c3, c4] := by
  match cs, h with
  | [c0, c1, c2, c3, c4], _ => exact ⟨c0, c1, c2, c3, c4, rfl⟩

theorem cellsW3 : Try.prog.cellsOf 60 = 3 := by kernel_rfl

theorem open_w3 {H : Type} {enc : TypeId × Value → H} {W : World} {base : Nat} {v : Value} {d : DataW H} {p : List MemPlace}
    (hv : Value.okWide Try.prog W .any base 60 v) (h : DataW.Trod enc Try.prog W 0 (fun _ => true) true 60 v d p) :
    ∃ (q0 q1 q2 : Nat), v = .agg #[.int .u64 (q0 : Nat), .int .u64 (q1 : Nat), .int .u64 (q2 : Nat)] ∧ Um.Word q0 ∧ Um.Word q1 ∧ Um.Word q2 := by
  obtain ⟨cs, rfl, hsz⟩ := okWide_arr Try.underlying60 hv
  obtain ⟨c0, c1, c2, rfl⟩ := arr3 (hsz.trans cellsW3)
  obtain ⟨fuel, hf⟩ := h
  obtain ⟨xs, k, hk, hxy, _, hxl, hfx⟩ := DataW.trod_array Try.underlying60 hf
  obtain ⟨y0, y1, y2, rfl⟩ := lst3 hxl
  have g0 := hfx 0 (by omega)
  have g1 := hfx 1 (by omega)
  have g2 := hfx 2 (by omega)
  simp [cellsWU, Value.cells] at g0 g1 g2
  obtain ⟨a0, z0, _, b0⟩ := DataW.trod_int Try.underlying22 g0
  obtain ⟨a1, z1, _, b1⟩ := DataW.trod_int Try.underlying22 g1
  obtain ⟨a2, z2, _, b2⟩ := DataW.trod_int Try.underlying22 g2
  simp at z0 z1 z2
  subst z0 z1 z2
  obtain ⟨q0, rfl, w0⟩ := word_of b0
  obtain ⟨q1, rfl, w1⟩ := word_of b1
  obtain ⟨q2, rfl, w2⟩ := word_of b2
  exact ⟨q0, q1, q2, rfl, w0, w1, w2⟩

theorem cellsW4 : Try.prog.cellsOf 58 = 4 := by kernel_rfl

theorem open_w4 {H : Type} {enc : TypeId × Value → H} {W : World} {base : Nat} {v : Value} {d : DataW H} {p : List MemPlace}
    (hv : Value.okWide Try.prog W .any base 58 v) (h : DataW.Trod enc Try.prog W 0 (fun _ => true) true 58 v d p) :
    ∃ (q0 q1 q2 q3 : Nat), v = .agg #[.int .u64 (q0 : Nat), .int .u64 (q1 : Nat), .int .u64 (q2 : Nat), .int .u64 (q3 : Nat)] ∧ Um.Word q0 ∧ Um.Word q1 ∧ Um.Word q2 ∧ Um.Word q3 := by
  obtain ⟨cs, rfl, hsz⟩ := okWide_arr Try.underlying58 hv
  obtain ⟨c0, c1, c2, c3, rfl⟩ := arr4 (hsz.trans cellsW4)
  obtain ⟨fuel, hf⟩ := h
  obtain ⟨xs, k, hk, hxy, _, hxl, hfx⟩ := DataW.trod_array Try.underlying58 hf
  obtain ⟨y0, y1, y2, y3, rfl⟩ := lst4 hxl
  have g0 := hfx 0 (by omega)
  have g1 := hfx 1 (by omega)
  have g2 := hfx 2 (by omega)
  have g3 := hfx 3 (by omega)
  simp [cellsWU, Value.cells] at g0 g1 g2 g3
  obtain ⟨a0, z0, _, b0⟩ := DataW.trod_int Try.underlying22 g0
  obtain ⟨a1, z1, _, b1⟩ := DataW.trod_int Try.underlying22 g1
  obtain ⟨a2, z2, _, b2⟩ := DataW.trod_int Try.underlying22 g2
  obtain ⟨a3, z3, _, b3⟩ := DataW.trod_int Try.underlying22 g3
  simp at z0 z1 z2 z3
  subst z0 z1 z2 z3
  obtain ⟨q0, rfl, w0⟩ := word_of b0
  obtain ⟨q1, rfl, w1⟩ := word_of b1
  obtain ⟨q2, rfl, w2⟩ := word_of b2
  obtain ⟨q3, rfl, w3⟩ := word_of b3
  exact ⟨q0, q1, q2, q3, rfl, w0, w1, w2, w3⟩

theorem cellsOp : Try.prog.cellsOf 46 = 5 := by kernel_rfl

theorem open_op {H : Type} {enc : TypeId × Value → H} {W : World} {base : Nat} {v : Value} {d : DataW H} {p : List MemPlace}
    (hv : Value.okWide Try.prog W .any base 46 v) (h : DataW.Trod enc Try.prog W 0 (fun _ => true) true 46 v d p) :
    ∃ (k a b : Int) (o x : Nat), v = .agg #[.int .i64 k, .int .i64 a, .int .i64 b, .int .u64 (o : Nat), .int .u64 (x : Nat)] ∧ (-9223372036854775808 ≤ b ∧ b ≤ 9223372036854775807) ∧ Um.Word o ∧ Um.Word x := by
  obtain ⟨cs, rfl, hsz⟩ := okWide_struct Try.underlying46 hv
  obtain ⟨c0, c1, c2, c3, c4, rfl⟩ := arr5 (hsz.trans cellsOp)
  obtain ⟨fuel, hf⟩ := h
  obtain ⟨xs, n, _, _, hl, hlen, hx⟩ := DataW.trod_struct Try.underlying46 hf
  obtain ⟨y0, y1, y2, y3, y4, rfl⟩ := lst5 hlen
  obtain ⟨k, e0, _, _⟩ := DataW.trod_int Try.underlying3 (hx 0 _ rfl)
  obtain ⟨a, e1, _, _⟩ := DataW.trod_int Try.underlying3 (hx 1 _ rfl)
  obtain ⟨b, e2, _, k2⟩ := DataW.trod_int Try.underlying3 (hx 2 _ rfl)
  obtain ⟨o, e3, _, k3⟩ := DataW.trod_int Try.underlying22 (hx 3 _ rfl)
  obtain ⟨x, e4, _, k4⟩ := DataW.trod_int Try.underlying22 (hx 4 _ rfl)
  obtain ⟨o', rfl, w3⟩ := word_of k3
  obtain ⟨x', rfl, w4⟩ := word_of k4
  simp [Value.cells, cellsWI, cellsWU] at e0 e1 e2 e3 e4
  subst e0 e1 e2 e3 e4
  exact ⟨k, a, b, o', x', rfl, int_of k2, w3, w4⟩

end Go.Proofs.Ytafnoloamfdanaa
