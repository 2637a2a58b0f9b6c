/-
  A play that was handed in (a thread, an epoch, how many steps, what is written meanwhile): what its reading says of its cells.
-/
import Derived.Test.YtjicfonpldobdaaOpenWords
import Derived.WalkKit
import Derived.ProofKit
import Derived.OpenShut
import Derived.ShutString
import Derived.Deep.Slices
namespace Go.Proofs.Ytjicfonpldobdaa
set_option maxRecDepth 100000
open Go.ChangeShapes Go.WideShapes Go.ChangeAt Go.RowKit

theorem cellsPlay : Try.prog.cellsOf 54 = 4 := by kernel_rfl
theorem cellsPoke : Try.prog.cellsOf 100 = 4 := by kernel_rfl
theorem cellsPokes : Try.prog.cellsOf 52 = 1 := by kernel_rfl

theorem ar4 {α : Type} {cs : Array α} (h : cs.size = 4) : ∃ c0 c1 c2 c3, cs = #[c0, c1, c2, c3] := by
  obtain ⟨l⟩ := cs
  match l, h with
  | [c0, c1, c2, c3], _ => exact ⟨c0, c1, c2, c3, rfl⟩

theorem ls4 {α : Type} {cs : List α} (h : cs.length = 4) : ∃ c0 c1 c2 c3, cs = [c0, c1, c2, c3] := by
  match cs, h with
  | [c0, c1, c2, c3], _ => exact ⟨c0, c1, c2, c3, rfl⟩

/-- what is written: ahead of which step, which spot, which word -/
structure Pok where
  st : Int
  k : Int
  a : Int
  v : Nat

/-- pokes lie in a row of elder cells -/
def PokesAt (w : World) (la : Option Addr) (nl : Nat) (Z : Nat → Pok) : Prop :=
  nl = 0 ∨ ∃ lb off, la = some ⟨lb, off, none⟩ ∧ lb < w.heap.size ∧
      ∀ i, i < nl → (w.cell? ⟨lb, off + i * 4, none⟩ = some (.int .i64 (Z i).st) ∧ w.cell? ⟨lb, off + (i * 4 + 1), none⟩ = some (.int .i64 (Z i).k) ∧ w.cell? ⟨lb, off + (i * 4 + 2), none⟩ = some (.int .i64 (Z i).a) ∧ w.cell? ⟨lb, off + (i * 4 + 3), none⟩ = some (.int .u64 ((Z i).v : Nat))) ∧
        (-9223372036854775808 ≤ (Z i).a ∧ (Z i).a ≤ 9223372036854775807) ∧ Um.Word (Z i).v

theorem open_pokes {H : Type} {enc : TypeId × Value → H} {W : World} {fuel : Nat} {cs : List Value} {x : DataW H × List MemPlace}
    (h : DataW.trod enc Try.prog W 0 (fun _ => true) true fuel 52 cs = some x) :
    ∃ la nl cl Z, cs = [.slice la nl cl] ∧ nl ≤ cl ∧ PokesAt W la nl Z := by
  rcases Deep.open_slice Try.underlying52 h with ⟨hcs, _⟩ | ⟨a, len, cap, m, n, D, Pl, hcs, _, hl, hm, hmm, _, hx⟩
  · exact ⟨none, 0, 0, fun _ => ⟨0, 0, 0, 0⟩, hcs, Nat.le_refl _, .inl rfl⟩
  · by_cases h0 : len = 0
    · subst h0
      exact ⟨some a, 0, cap, fun _ => ⟨0, 0, 0, 0⟩, hcs, Nat.zero_le _, .inl rfl⟩
    have hmc : m = cap := by rw [hmm]; rfl
    subst hmc
    have each : ∀ i, i < len → ∃ q : Pok, (W.cell? (a.add (i * 4)) = some (.int .i64 q.st) ∧ W.cell? (a.add (i * 4 + 1)) = some (.int .i64 q.k) ∧ W.cell? (a.add (i * 4 + 2)) = some (.int .i64 q.a) ∧ W.cell? (a.add (i * 4 + 3)) = some (.int .u64 (q.v : Nat))) ∧
        (-9223372036854775808 ≤ q.a ∧ q.a ≤ 9223372036854775807) ∧ Um.Word q.v := by
      intro i hi
      obtain ⟨cs', h1, h2⟩ := hx i (by omega)
      rw [cellsPoke] at h1
      obtain ⟨_, hlen, hcell⟩ := World.cells?_some h1
      obtain ⟨v0, v1, v2, v3, rfl⟩ := ls4 hlen
      obtain ⟨xs, n, _, _, hl, hxl, hfx⟩ := DataW.trod_struct Try.underlying100 h2
      obtain ⟨y0, y1, y2, y3, rfl⟩ := ls4 hxl
      obtain ⟨q0, e0, _, _⟩ := DataW.trod_int Try.underlying3 (hfx 0 _ rfl)
      obtain ⟨q1, e1, _, _⟩ := DataW.trod_int Try.underlying3 (hfx 1 _ rfl)
      obtain ⟨q2, e2, _, k2⟩ := DataW.trod_int Try.underlying3 (hfx 2 _ rfl)
      obtain ⟨q3, e3, _, k3⟩ := DataW.trod_int Try.underlying22 (hfx 3 _ rfl)
      obtain ⟨x', rfl, w3⟩ := word_of k3
      simp [cellsWI, cellsWU] at e0 e1 e2 e3
      subst e0 e1 e2 e3
      have c0 := hcell 0 (by omega)
      have c1 := hcell 1 (by omega)
      have c2 := hcell 2 (by omega)
      have c3 := hcell 3 (by omega)
      rw [Deep.add_add] at c0 c1 c2 c3
      exact ⟨⟨q0, q1, q2, x'⟩, ⟨by simpa using c0, by simpa using c1, by simpa using c2, by simpa using c3⟩, int_of k2, w3⟩
    have : ∃ Z : Nat → Pok, ∀ i, i < len → (W.cell? (a.add (i * 4)) = some (.int .i64 (Z i).st) ∧ W.cell? (a.add (i * 4 + 1)) = some (.int .i64 (Z i).k) ∧ W.cell? (a.add (i * 4 + 2)) = some (.int .i64 (Z i).a) ∧ W.cell? (a.add (i * 4 + 3)) = some (.int .u64 ((Z i).v : Nat))) ∧
        (-9223372036854775808 ≤ (Z i).a ∧ (Z i).a ≤ 9223372036854775807) ∧ Um.Word (Z i).v :=
      ⟨fun i => if hi : i < len then (each i hi).choose else ⟨0, 0, 0, 0⟩, fun i hi => by simp only [hi, dite_true]; exact (each i hi).choose_spec⟩
    obtain ⟨q, hq⟩ := this
    obtain ⟨b, off, spot⟩ := a
    have hspot : spot = none := by simpa [Addr.add] using World.cell?_spot (hq 0 (by omega)).1.1
    subst hspot
    refine ⟨_, len, m, q, hcs, hl, .inr ⟨b, off, rfl, ?_, fun i hi => ?_⟩⟩
    · have := (hq 0 (by omega)).1.1
      rw [Go.WideShapes.add_plain] at this
      exact World.block_lt_of_cell? W _ this
    · have := hq i hi
      simp only [Go.WideShapes.add_plain] at this
      exact this

theorem open_play {H : Type} {enc : TypeId × Value → H} {W : World} {base : Nat} {v : Value} {d : DataW H} {p : List MemPlace}
    (hv : Value.okWide Try.prog W .any base 54 v) (h : DataW.Trod enc Try.prog W 0 (fun _ => true) true 54 v d p) :
    ∃ (t st : Int) (ret : Nat) (la : Option Addr) (nl cl : Nat) (Z : Nat → Pok), v = .agg #[.int .i64 t, .int .u64 (ret : Nat), .int .i64 st, .slice la nl cl] ∧ (-9223372036854775808 ≤ t ∧ t ≤ 9223372036854775807) ∧ Um.Word ret ∧ nl ≤ cl ∧ PokesAt W la nl Z := by
  obtain ⟨cs, rfl, hsz⟩ := okWide_struct Try.underlying54 hv
  obtain ⟨c0, c1, c2, c3, rfl⟩ := ar4 (hsz.trans cellsPlay)
  obtain ⟨fuel, hf⟩ := h
  obtain ⟨xs, n, _, _, hl, hlen, hx⟩ := DataW.trod_struct Try.underlying54 hf
  obtain ⟨y0, y1, y2, y3, rfl⟩ := ls4 hlen
  obtain ⟨t, e0, _, k0⟩ := DataW.trod_int Try.underlying3 (hx 0 _ rfl)
  obtain ⟨r, e1, _, k1⟩ := DataW.trod_int Try.underlying22 (hx 1 _ rfl)
  obtain ⟨st, e2, _, _⟩ := DataW.trod_int Try.underlying3 (hx 2 _ rfl)
  obtain ⟨la, nl, cl, Z, e3, hnc, hZ⟩ := open_pokes (hx 3 _ rfl)
  obtain ⟨r', rfl, w1⟩ := word_of k1
  simp [Value.cells, cellsWI, cellsWU, cellsPokes] at e0 e1 e2 e3
  subst e0 e1 e2 e3
  exact ⟨t, st, r', la, nl, cl, Z, rfl, int_of k0, w1, hnc, hZ⟩

end Go.Proofs.Ytjicfonpldobdaa
