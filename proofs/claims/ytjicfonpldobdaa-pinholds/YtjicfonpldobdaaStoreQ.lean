/-
  The walk of the document's own 'are two rows of words the same'.
-/
import Derived.Test.YtjicfonpldobdaaStoreR
import Derived.LoopTactic
namespace Go.Proofs.Ytjicfonpldobdaa
set_option maxRecDepth 100000
open Go.RowKit Go.Sort

set_option maxHeartbeats 1000000 in
theorem rSame_true {W : World} {v1 v2 : Value} {n : Nat} {xs ys : Nat → Nat} (h1 : IsWords W v1 n xs) (h2 : IsWords W v2 n ys) (hn : n ≤ 1000) (he : ∀ j, j < n → xs j = ys j) :
    Calls Try.prog 52 #[v1, v2] W fun e W' => e = .returned (.bool true) ∧ Below W.heap.size W W' := by
  rcases h1 with ⟨a1, c1, rfl, rfl⟩ | ⟨b1, o1, c1, rfl, p1, q1, r1, s1, d1⟩
  · obtain ⟨a2, c2, rfl⟩ := words_len h2
    clear h2 he
    go_enter Try.func52, Try.ntmps52
    go_wp2_with fail
    go_loopw [5] (fun i wr => i = .int .i64 0 ∧ wr = W) (fun _ _ => 0)
    case atStart => exact ⟨rfl, rfl⟩
    case round =>
      obtain ⟨rfl, rfl⟩ := hrel
      go_wp2
      go_ret
      exact ⟨rfl, Below.refl _ _⟩
  · rcases h2 with ⟨a2, c2, _, rfl⟩ | ⟨b2, o2, c2, rfl, p2, q2, r2, s2, d2⟩
    · omega
    have D1 := hide d1
    have D2 := hide d2
    have HE := hide he
    clear d1 d2 he
    go_enter Try.func52, Try.ntmps52
    go_wp2_with fail
    go_loopw [5] (fun i wr => ∃ j : Nat, j ≤ n ∧ i = .int .i64 j ∧ Below W.heap.size W wr) (fun i _ => n - (intOf i).toNat)
    case atStart => exact ⟨0, by omega, rfl, Below.refl _ _⟩
    case round =>
      rename_i wr
      obtain ⟨j, hj, rfl, hB⟩ := hrel
      by_cases hlt : j < n
      · have hlti : (j : Int) < (n : Int) := by omega
        have k1 := (hB.cell (p := ⟨b1, o1 + j, none⟩) s1).trans ((unhide D1) j hlt).1
        have k2 := (hB.cell (p := ⟨b2, o2 + j, none⟩) s2).trans ((unhide D2) j hlt).1
        rw [(unhide HE) j hlt] at k1
        go_wp2_with fail
        go_quiet (fail)
        go_wp2
        exact ⟨⟨j + 1, by omega, by go_num, hB.trans (by first | exact below_drewN (Below.refl _ _) _ | exact (Below.refl _ _).drew)⟩, by simp [intOf]; omega⟩
      · obtain rfl : j = n := by omega
        go_wp2
        go_ret
        exact ⟨rfl, hB⟩

end Go.Proofs.Ytjicfonpldobdaa
