/-
  A pin's step, of whatever step; a new memory; how many accesses there were.
-/
import Derived.Test.YtjicfonpldobdaaPinG
import Derived.Test.YtjicfonpldobdaaStoreN
namespace Go.Proofs.Ytjicfonpldobdaa
set_option maxRecDepth 100000
open Go.RowKit Go.Sort

/-- a pin's cells -/
def pinL (P : Nat) (t : Int) (ep st : Nat) : List Value :=
  [.int .i64 t, .int .u64 ep, if st = 0 then .func (.func 53) #[.pointer (some ⟨P, 0, none⟩)] #[] else if st = 1 then .func (.func 67) #[.pointer (some ⟨P, 0, none⟩)] #[] else .nilFunc]

section
variable {bs : List Nat} {w0 w : World} {l e : List (Nat × List Value)} {B C P : Nat} {c : Um.Cf} {m : Um.Mm} {t : Int}

theorem pStep_any (hS : Sx bs w0 w l e) (i j k : Nat) (s S : Um.Ps) (hs : S = Um.pstep c t s) (hst : s.st ≤ 2) (hi : l[i]? = some (B, memL c C s.m)) (hj : l[j]? = some (C, rowW s.m.ws c.n)) (hk : l[k]? = some (P, pinL P t s.ep s.st)) (hij : i ≠ j) (hik : i ≠ k) (hjk : j ≠ k) (hr : c.r = true) (hw : WordsOk c s.m) (ht : -9223372036854775808 ≤ t ∧ t ≤ 9223372036854775807) :
    Calls Try.prog 24 #[.pointer (some ⟨P, 0, none⟩), .pointer (some ⟨B, 0, none⟩)] w fun r w' => r = .returned (.tuple #[]) ∧ WordsOk c S.m ∧ S.st ≤ 2 ∧ Sx bs w0 w' (putL l [(i, B, memL c C S.m), (j, C, rowW S.m.ws c.n), (k, P, pinL P t S.ep S.st)]) e := by
  obtain ⟨m, ep, st⟩ := s
  dsimp only at *
  match st, hst with
  | 0, _ =>
    have e0 : S = ⟨Um.mtouch c m 1 2 0 0 0, (Um.mtouch c m 1 2 0 0 0).l.old, 1⟩ := hs
    subst e0
    refine (pStep_0 hS i j k hi hj t ep hk hij hik hjk hr hw _ rfl).mono ?_
    rintro r w' ⟨h1, h2, h3⟩
    exact ⟨h1, h2, (by decide : (1 : Nat) ≤ 2), h3⟩
  | 1, _ =>
    have e0 : S = ⟨Um.mtouch c m 2 3 t 0 (Um.addW ep 1), ep, 2⟩ := hs
    subst e0
    refine (pStep_1 hS i j k hi hj t ep hk hij hik hjk hr hw ht _ rfl).mono ?_
    rintro r w' ⟨h1, h2, h3⟩
    exact ⟨h1, h2, (by decide : (2 : Nat) ≤ 2), h3⟩
  | 2, _ =>
    have e0 : S = ⟨m, ep, 2⟩ := hs
    subst e0
    refine (pStep_2 hS k t ep hk _).mono ?_
    rintro r w' ⟨h1, rfl⟩
    refine ⟨h1, hw, (by decide : (2 : Nat) ≤ 2), ?_⟩
    unfold putL putL putL putL
    dsimp only
    rw [set_same hi, set_same hj, set_same hk]
    exact hS

theorem pDone_any (hS : Sx bs w0 w l e) (k : Nat) (ep st : Nat) (hst : st ≤ 2) (hk : l[k]? = some (P, pinL P t ep st)) : Calls Try.prog 26 #[.pointer (some ⟨P, 0, none⟩)] w fun r w' => r = .returned (.bool (decide (st = 2))) ∧ w' = w := by
  match st, hst with
  | 0, _ => exact pDone_x hS k t ep _ _ _ hk
  | 1, _ => exact pDone_x hS k t ep _ _ _ hk
  | 2, _ => exact pDone_nil hS k t ep hk

theorem pNew_any (hS : Sx bs w0 w l e) (t : Int) : Calls Try.prog 21 #[.int .i64 t] w fun r w' => ∃ P, r = .returned (.pointer (some ⟨P, 0, none⟩)) ∧ Sx bs w0 w' (l ++ [(P, pinL P t 0 0)]) e := pNew_x hS t

theorem new_x (hS : Sx bs w0 w l e) (c : Um.Cf) (hr : c.r = true) : Calls Try.prog 35 #[(.agg #[.int .i64 (c.t), .int .i64 (c.s), .int .i64 (c.k), .int .i64 (c.g), .int .u64 (c.q : Int)])] w fun r w' => ∃ B C, r = .returned (.tuple #[.pointer (some ⟨B, 0, none⟩), .int .i64 0]) ∧ WordsOk c ⟨fun _ => 0, 0, Um.noT⟩ ∧ Sx bs w0 w' (l ++ [(B, memL c C ⟨fun _ => 0, 0, Um.noT⟩), (C, rowW (fun _ => 0) c.n)]) e := by
  refine (sNew_right c w hr).mono ?_
  rintro r w' ⟨B, C, rfl, h1, h2, hM, hb⟩
  refine ⟨B, C, rfl, hM.wd, hS.adds hb _ (fun p hp => ?_) (fun p hp => ?_) ?_⟩
  · rcases (by simpa using hp : p = (B, memL c C ⟨fun _ => 0, 0, Um.noT⟩) ∨ p = (C, rowW (fun _ => 0) c.n)) with rfl | rfl
    · exact hM.blkB
    · exact hM.blkC
  · rcases (by simpa using hp : p = (B, memL c C ⟨fun _ => 0, 0, Um.noT⟩) ∨ p = (C, rowW (fun _ => 0) c.n)) with rfl | rfl
    · exact h1
    · exact h2
  · simpa using hM.ne

theorem count_x (hS : Sx bs w0 w l e) (i j : Nat) (hi : l[i]? = some (B, memL c C m)) (hj : l[j]? = some (C, rowW m.ws c.n)) (hij : i ≠ j) (hr : c.r = true) (hw : WordsOk c m) : Calls Try.prog 43 #[.pointer (some ⟨B, 0, none⟩)] w fun r w' => r = .returned (.int .i64 m.cnt) ∧ w' = w :=
  mCount_any (hS.mem i j hi hj hij hr hw)

theorem gLater_x {G : Nat} {own oth : Int} {ret : Nat} {later : Bool} (hS : Sx bs w0 w l e) (k : Nat) (hk : l[k]? = some (G, grcL G own ret oth later)) : Calls Try.prog 32 #[.pointer (some ⟨G, 0, none⟩)] w fun r w' => r = .returned (.bool later) ∧ w' = w := gLater_blk (hS.get k hk)

end

end Go.Proofs.Ytjicfonpldobdaa
