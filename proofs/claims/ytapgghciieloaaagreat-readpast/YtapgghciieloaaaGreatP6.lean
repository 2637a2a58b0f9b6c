/-
  Texts that the laws stand on, merged (BlkE, HelpMath5, OpenMath2, OpenMath3, OpenMath4, OpenMath5, OpenMath6, GateMath, GateMath2, StoreN, StoreZ2, BlkR, Og2, TicketA, TicketB, GateW, GateS).
-/
import Derived.Test.YtapgghciieloaaaGreatP1
import Derived.Test.YtapgghciieloaaaGreatP2
import Derived.Test.YtapgghciieloaaaGreatP3
import Derived.Test.YtapgghciieloaaaGreatP4
import Derived.Test.YtapgghciieloaaaGreatP5
import Derived.BigQuiet
import Derived.Deep.QuietTactic
import Derived.Deep.RegionLawGrows
import Derived.Deep.RegionWith
import Derived.Laws.AppendOwnNone
import Derived.Laws.EntriesVeiled
import Derived.Lib.QuietBelow
import Derived.LoopN
import Derived.LoopTactic

/-
  Blocks that are handed to a method, and back: one, two or three of them.
-/
namespace Go.Proofs.YtapgghciieloaaaGreat
set_option maxRecDepth 100000
open Go.RowKit Go.Sort

section
variable {bs : List Nat} {w0 w w' : World} {l e : List (Nat × List Value)} {b1 b2 b3 : Nat} {c1 c2 c3 d1 d2 d3 : List Value}

theorem Sx.enter3 (hS : Sx bs w0 w l e) (i j k : Nat) (hi : l[i]? = some (b1, c1)) (hj : l[j]? = some (b2, c2)) (hk : l[k]? = some (b3, c3)) (hij : i ≠ j) (hik : i ≠ k) (hjk : j ≠ k) : Sx [b1, b2, b3] w w [(b1, c1), (b2, c2), (b3, c3)] [] :=
  hS.enter [(b1, c1), (b2, c2), (b3, c3)] [] (fun p hp => by
      rcases (by simpa using hp : p = (b1, c1) ∨ p = (b2, c2) ∨ p = (b3, c3)) with rfl | rfl | rfl
      · exact List.mem_of_getElem? hi
      · exact List.mem_of_getElem? hj
      · exact List.mem_of_getElem? hk)
    (by
      have h1 := hS.ne i j hi hj hij
      have h2 := hS.ne i k hi hk hik
      have h3 := hS.ne j k hj hk hjk
      simp [h1, h2, h3]) (by simp)

theorem Sx.back3 {r e' : List (Nat × List Value)} (hS : Sx bs w0 w l e) (i j k : Nat) (hi : l[i]? = some (b1, c1)) (hj : l[j]? = some (b2, c2)) (hk : l[k]? = some (b3, c3)) (hL : Sx [b1, b2, b3] w w' ((b1, d1) :: (b2, d2) :: (b3, d3) :: r) e') : Sx bs w0 w' (putL l [(i, b1, d1), (j, b2, d2), (k, b3, d3)]) e := by
  refine hS.sets _ (fun u hu => ?_) hL.off (fun u hu => ?_)
  · rcases (by simpa using hu : u = (i, b1, d1) ∨ u = (j, b2, d2) ∨ u = (k, b3, d3)) with rfl | rfl | rfl
    · exact ⟨_, hi⟩
    · exact ⟨_, hj⟩
    · exact ⟨_, hk⟩
  · rcases (by simpa using hu : u = (i, b1, d1) ∨ u = (j, b2, d2) ∨ u = (k, b3, d3)) with rfl | rfl | rfl
    · exact hL.get 0 rfl
    · exact hL.get 1 rfl
    · exact hL.get 2 rfl

theorem Sx.enter1 (hS : Sx bs w0 w l e) (i : Nat) (hi : l[i]? = some (b1, c1)) : Sx [b1] w w [(b1, c1)] [] :=
  hS.enter [(b1, c1)] [] (fun p hp => by obtain rfl : p = _ := by simpa using hp
                                         exact List.mem_of_getElem? hi) (List.pairwise_singleton _ _) (by simp)

theorem Sx.back1 {r e' : List (Nat × List Value)} (hS : Sx bs w0 w l e) (i : Nat) (hi : l[i]? = some (b1, c1)) (hL : Sx [b1] w w' ((b1, d1) :: r) e') : Sx bs w0 w' (putL l [(i, b1, d1)]) e := by
  refine hS.sets _ (fun u hu => ?_) hL.off (fun u hu => ?_)
  · obtain rfl : u = _ := by simpa using hu
    exact ⟨_, hi⟩
  · obtain rfl : u = _ := by simpa using hu
    exact hL.get 0 rfl

end

end Go.Proofs.YtapgghciieloaaaGreat

/-
  Plain arithmetic of layer 8: conflicts that are laid meanwhile. No Go in sight.
-/
namespace Um
set_option maxRecDepth 100000

theorem put_ws (c : Cf) (m : Mm) (a b : Int) (v i : Nat) : (mtouch c m 2 a b 0 v).ws i = if (i : Int) = c.cl a b then v else m.ws i := by
  unfold mtouch
  split
  · rename_i h
    show putW m.ws (c.cl a b).toNat (trn 2 0 v (m.ws (c.cl a b).toNat)) i = _
    by_cases e : i = (c.cl a b).toNat
    · subst e
      rw [putW_same, if_pos (by omega)]
      rfl
    · rw [putW_other e, if_neg (by omega)]
  · rename_i h
    rw [if_neg (by omega)]
    rfl

theorem with_bits (x : Nat) (a b : Int) (j : Nat) (hj : 24 ≤ j) : (withN x a b).testBit j = x.testBit j := by
  unfold withN
  split
  · rename_i h
    have := bitAt_lt h
    rw [testBit_setN, if_neg (by omega)]
  · rfl

theorem st_with (x : Nat) (a b : Int) : stN (withN x a b) = stN x := by
  apply Nat.eq_of_testBit_eq
  intro j
  unfold stN
  rw [testBit_part, testBit_part, with_bits _ _ _ _ (by omega)]

theorem with_ok (x : Nat) {a b : Int} (ho : okS a b = true) : withN x a b = setN x (bitAt a b) true := by
  unfold withN
  exact if_pos ho

theorem com_with (x : Nat) (a b : Int) : comN (withN x a b) = withN (comN x) a b := by
  unfold comN
  rw [with_bits x a b 26 (by decide)]
  cases ho : okS a b with
  | false => rw [with_bad x a b ho, with_bad _ a b ho]
  | true =>
    have hlt := bitAt_lt ho
    rw [with_ok _ ho, with_ok _ ho]
    generalize x.testBit 26 = q
    generalize bitAt a b = k at *
    apply Nat.eq_of_testBit_eq
    intro j
    rw [move_bits (by decide), testBit_setN, testBit_setN, move_bits (by decide)]
    by_cases h : k = j
    · subst h
      rw [if_pos rfl, if_pos rfl, if_neg (show ¬ k = 26 by omega), if_neg (show ¬ (27 ≤ k ∧ k < 30) by omega)]
    · rw [if_neg h, if_neg h]

/-- a help, while conflicts are laid to its transaction; W: what its status will be -/
structure Sid (c : Cf) (x W : Nat) (m : Mm) (nx s : Nat) : Prop where
  le : nx ≤ 4
  low : nx ≤ 2 → stN (m.ws (iS c x).toNat) = 3 ∧ comN (m.ws (iS c x).toNat) = W
  high : 3 ≤ nx → m.ws (iS c x).toNat = W
  n0 : nx = 0 → m.ws (iN c x).toNat = 0
  n1 : 1 ≤ nx → m.ws (iN c x).toNat = seqN x

theorem Sid.ws {c : Cf} {x W : Nat} {m m' : Mm} {nx s : Nat} (h : Sid c x W m nx s) (e : m'.ws = m.ws) : Sid c x W m' nx s :=
  ⟨h.le, fun q => by rw [e]; exact h.low q, fun q => by rw [e]; exact h.high q, fun q => by rw [e]; exact h.n0 q, fun q => by rw [e]; exact h.n1 q⟩

theorem Sid.lay {c : Cf} {x W : Nat} {m : Mm} {nx s : Nat} (hi : 0 < iS c x ∧ iN c x = iS c x + 2) {sl : Int} (hpen : penN x = sl) (h : Sid c x W m nx s) (a b : Int) (S : Nat) (hS : S = m.ws (iS c x).toNat) (m' : Mm) (hm : m' = mtouch c m 2 4 sl 0 (withN S a b)) : Sid c x (withN W a b) m' nx s := by
  have e1 : m'.ws (iS c x).toNat = withN S a b := by
    rw [hm, put_ws, if_pos]
    show _ = c.cl 4 sl
    rw [← hpen]
    show _ = iS c x
    omega
  have e2 : m'.ws (iN c x).toNat = m.ws (iN c x).toNat := by
    rw [hm, put_ws, if_neg]
    show ¬ _ = c.cl 4 sl
    rw [← hpen]
    show ¬ _ = iS c x
    omega
  refine ⟨h.le, fun q => ?_, fun q => ?_, fun q => ?_, fun q => ?_⟩
  · rw [e1, st_with, com_with, hS, (h.low q).2]
    exact ⟨(h.low q).1, rfl⟩
  · rw [e1, hS, h.high q]
  · rw [e2]; exact h.n0 q
  · rw [e2]; exact h.n1 q

end Um

/-
  Plain arithmetic of layer 9: alone. No Go in sight.
-/
namespace Um
set_option maxRecDepth 100000

theorem sl_cells {c : Cf} (hr : c.r = true) {f : Int} (h0 : 0 ≤ f) (h1 : f < c.s) : 0 < c.cl 4 f ∧ c.cl 5 f = c.cl 4 f + 1 ∧ c.cl 6 f = c.cl 4 f + 2 := by
  have hb := c.rb hr
  unfold Cf.cl cellN
  rw [hr]
  simp [h0, h1]
  omega

/-- the lowest slot that is free -/
structure Got (c : Cf) (ws : Nat → Nat) (f : Int) : Prop where
  lo : 0 ≤ f
  hi : f < c.s
  fr : frN c (ws (c.cl 4 f).toNat) = true
  least : ∀ i : Int, 0 ≤ i → i < f → frN c (ws (c.cl 4 i).toNat) = false

/-- no slot is free -/
def Full (c : Cf) (ws : Nat → Nat) : Prop := ∀ i : Int, 0 ≤ i → i < c.s → frN c (ws (c.cl 4 i).toNat) = false

/-- the words when a slot was taken -/
def ws1 (c : Cf) (ws : Nat → Nat) (f : Int) (i : Nat) : Nat := if (i : Int) = c.cl 4 f then moveN (ws i) 1 false else ws i

/-- and behind a help -/
def ws2 (c : Cf) (ws : Nat → Nat) (f : Int) (i : Nat) : Nat := hgN c (ws 0) (ws1 c ws f) i

/-- and at the end -/
def ws3 (c : Cf) (ws : Nat → Nat) (f : Int) (i : Nat) : Nat := if (i : Int) = c.cl 4 f then moveN (ws i) 2 false else if (i : Int) = c.cl 5 f then seqN (ws 0) else ws2 c ws f i

structure Al (c : Cf) (ws : Nat → Nat) (o : Os) : Prop where
  nx : o.nx ≤ 6
  lo : o.nx = 0 → 0 ≤ o.sl ∧ o.sl < c.s ∧ (∀ i, o.m.ws i = ws i) ∧ ∀ i : Int, 0 ≤ i → i < o.sl → frN c (ws (c.cl 4 i).toNat) = false
  tk : 1 ≤ o.nx → o.nx ≤ 5 → Got c ws o.sl ∧ o.s = ws (c.cl 4 o.sl).toNat
  t1 : o.nx = 1 → ∀ i, o.m.ws i = ws i
  t2 : o.nx = 2 → (∀ i, o.m.ws i = ws1 c ws o.sl i) ∨ (0 ≤ penN (ws 0) ∧ ∀ i, o.m.ws i = ws2 c ws o.sl i)
  t3 : o.nx = 3 → o.w = ws 0 ∧ 0 ≤ penN (ws 0) ∧ Mix c (ws 0) (ws1 c ws o.sl) o.m.ws ∧ Knows c (ws 0) (ws1 c ws o.sl) o.m.ws ⟨o.m, o.hn, o.hs⟩ ∧ o.hn ≠ 4
  t4 : o.nx = 4 → (∀ i, o.m.ws i = ws2 c ws o.sl i) ∧ o.q = seqN (ws 0)
  t5 : o.nx = 5 → (∀ i, o.m.ws i = if (i : Int) = c.cl 5 o.sl then seqN (ws 0) else ws2 c ws o.sl i) ∧ o.q = seqN (ws 0)
  t6 : o.nx = 6 → (Full c ws ∧ (∀ i, o.m.ws i = ws i) ∧ o.te = 6 ∧ o.th = 0 ∧ o.tn = 0) ∨ ∃ f, Got c ws f ∧ (∀ i, o.m.ws i = ws3 c ws f i) ∧ o.te = 0 ∧ o.th = mkN f ((gnN (ws (c.cl 4 f).toNat) : Nat) : Int) ∧ o.tn = seqN (ws 0)

end Um

/-
  Plain arithmetic of layer 9: two at once, over a new world. No Go in sight.
-/
namespace Um
set_option maxRecDepth 100000

/-- a slot is one's: it was taken by it -/
def Owns (o : Os) (i : Int) : Prop := 2 ≤ o.nx ∧ (o.nx = 6 → o.te = 0) ∧ o.sl = i

structure Side9 (c : Cf) (m : Mm) (a b : Os) : Prop where
  nx : a.nx ≤ 6
  n3 : a.nx ≠ 3
  lo : 0 ≤ a.sl
  lt : a.nx ≤ 5 → a.sl < c.s
  s : 1 ≤ a.nx → a.nx ≤ 5 → a.s = 0
  pass : ∀ i : Int, 0 ≤ i → i < a.sl → Owns b i
  mine : Owns a a.sl → stN (m.ws (c.cl 4 a.sl).toNat) ≠ 0 ∧ a.sl < c.s
  end6 : a.nx = 6 → (a.te = 0 ∧ a.th = mkN a.sl 0) ∨ (a.te = 6 ∧ a.sl = c.s)

structure Duo9 (c : Cf) (m : Mm) (a b : Os) : Prop where
  tal : m.ws 0 = 0
  A : Side9 c m a b
  B : Side9 c m b a
  apart : ∀ i, Owns a i → ¬ Owns b i
  all : ∀ i : Int, 0 ≤ i → i < c.s → m.ws (c.cl 4 i).toNat = 0 ∨ Owns a i ∨ Owns b i

theorem Duo9.swap {c : Cf} {m : Mm} {a b : Os} (h : Duo9 c m a b) : Duo9 c m b a :=
  ⟨h.tal, h.B, h.A, fun i q r => h.apart i r q, fun i i0 i1 => (h.all i i0 i1).imp id Or.symm⟩

end Um

/-
  Plain arithmetic of layer 9: two at once, to their end; commits that are counted meanwhile. No Go in sight.
-/
namespace Um
set_option maxRecDepth 100000

/-- one, while commits are counted: from so many on, up to now -/
structure Seen (c : Cf) (m : Mm) (o : Os) (sq now : Nat) : Prop where
  nx : o.nx ≤ 6
  n3 : o.nx ≠ 3
  sl : o.sl = 0
  tal : m.ws 0 = 16 * now
  le : sq ≤ now
  fr : o.nx ≤ 1 → m.ws (c.cl 4 0).toNat = 0
  s : o.nx = 1 → o.s = 0
  q : 4 ≤ o.nx → sq ≤ o.q ∧ o.q ≤ now
  sn : 5 ≤ o.nx → m.ws (c.cl 5 0).toNat = o.q
  t6 : o.nx = 6 → o.te = 0 ∧ o.tn = o.q

end Um

/-
  Plain arithmetic of layer 9: begun again and again; generations that are too great. No Go in sight.
-/
namespace Um
set_option maxRecDepth 100000

/-- so many slots have been got, of a world in which nothing is pending -/
structure Fu (c : Cf) (ws : Nat → Nat) (i : Int) : Prop where
  tal : ws 0 = 0
  low : ∀ j : Int, 0 ≤ j → j < i → stN (ws (c.cl 4 j).toNat) ≠ 0
  high : ∀ j : Int, i ≤ j → j < c.s → ws (c.cl 4 j).toNat = 0

end Um

/-
  Plain arithmetic of layer 9: the lowest slot that is free, looked for from above; what alone leaves. No Go in sight.
-/
namespace Um
set_option maxRecDepth 100000

/-- what was found from slot k on -/
structure Lo9 (c : Cf) (ws : Nat → Nat) (k f : Int) : Prop where
  none : f < 0 → f = -1 ∧ ∀ i : Int, k ≤ i → i < c.s → frN c (ws (c.cl 4 i).toNat) = false
  one : 0 ≤ f → k ≤ f ∧ f < c.s ∧ frN c (ws (c.cl 4 f).toNat) = true ∧ ∀ i : Int, k ≤ i → i < f → frN c (ws (c.cl 4 i).toNat) = false

theorem Lo9.no {c : Cf} {ws : Nat → Nat} {k f : Int} (h : Lo9 c ws (k + 1) f) (hf : frN c (ws (c.cl 4 k).toNat) = false) : Lo9 c ws k f := by
  refine ⟨fun q => ⟨(h.none q).1, fun i i0 i1 => ?_⟩, fun q => ?_⟩
  · by_cases e : i = k
    · rw [e]; exact hf
    · exact (h.none q).2 i (by omega) i1
  · obtain ⟨a, b, d, e⟩ := h.one q
    refine ⟨by omega, b, d, fun i i0 i1 => ?_⟩
    by_cases e2 : i = k
    · rw [e2]; exact hf
    · exact e i (by omega) i1

/-- a beginning over another memory -/
def setM (m : Mm) (o : Os) : Os := ⟨m, o.sl, o.nx, o.s, o.q, o.w, o.hn, o.hs, o.te, o.th, o.tn⟩

/-- right over whatever words -/
def OkW (c : Cf) (o : Os) : Prop := ∀ m : Mm, (∀ i, i < c.n → Word (m.ws i)) → Ook c (setM m o)

theorem Ook.okw {c : Cf} {o : Os} (h : Ook c o) : OkW c o := fun _ hm => ⟨hm, h.s, h.q, h.w, h.hs, h.hn, h.nx, h.sl0, h.sl1, h.th, h.tn, h.sl⟩

theorem Duo9.at {c : Cf} {m : Mm} {a b : Os} (h : Duo9 c m a b) (m' : Mm) : Duo9 c m (setM m' a) b :=
  ⟨h.tal, ⟨h.A.nx, h.A.n3, h.A.lo, h.A.lt, h.A.s, h.A.pass, h.A.mine, h.A.end6⟩, ⟨h.B.nx, h.B.n3, h.B.lo, h.B.lt, h.B.s, h.B.pass, h.B.mine, h.B.end6⟩, h.apart, h.all⟩

theorem Seen.at {c : Cf} {m : Mm} {o : Os} {sq now : Nat} (h : Seen c m o sq now) (m' : Mm) : Seen c m (setM m' o) sq now :=
  ⟨h.nx, h.n3, h.sl, h.tal, h.le, h.fr, h.s, h.q, h.sn, h.t6⟩

end Um

/-
  Plain arithmetic of layer 10: a call that enters, one that leaves. No Go in sight.
-/
namespace Um
set_option maxRecDepth 100000

/-- a status, busy -/
def bzN (s : Nat) : Nat := setN s 26 true

/-- what is amiss with a status, of a ticket and states -/
def flN (h : Nat) (inn : Nat → Bool) (s : Nat) : Int :=
  if ((gnN s : Nat) : Int) ≠ tgN h ∨ stN s = 0 ∨ stN s = 1 then 2 else if s.testBit 26 then 3 else if inn (stN s) then 0 else 4

/-- an entering over a memory: is its next step a swap, what it looked at, what it laid, its error, has it ended -/
structure Es where
  m : Mm
  tk : Bool
  s : Nat
  w : Nat
  e : Int
  en : Bool

/-- is it done -/
def edn (c : Cf) (h : Nat) (o : Es) : Bool := o.en || !ook h c.s

/-- what it tells -/
def eer (c : Cf) (h : Nat) (o : Es) : Int := if ook h c.s then o.e else 2

def estep (c : Cf) (h : Nat) (inn : Nat → Bool) (o : Es) : Es :=
  if edn c h o = true then o
  else if o.tk = true then
    ⟨mtouch c o.m 3 4 (svN h) o.s (bzN o.s), false, o.s, if (mtouch c o.m 3 4 (svN h) o.s (bzN o.s)).l.done then bzN o.s else o.w, o.e, (mtouch c o.m 3 4 (svN h) o.s (bzN o.s)).l.done⟩
  else
    ⟨mtouch c o.m 1 4 (svN h) 0 0, decide (flN h inn (mtouch c o.m 1 4 (svN h) 0 0).l.old = 0), (mtouch c o.m 1 4 (svN h) 0 0).l.old, o.w, flN h inn (mtouch c o.m 1 4 (svN h) 0 0).l.old, !decide (flN h inn (mtouch c o.m 1 4 (svN h) 0 0).l.old = 0)⟩

def eit (c : Cf) (h : Nat) (inn : Nat → Bool) (o : Es) : Nat → Es
  | 0 => o
  | k + 1 => estep c h inn (eit c h inn o k)

def enew (m : Mm) : Es := ⟨m, false, 0, 0, 0, false⟩

/-- words -/
structure Eok (c : Cf) (o : Es) : Prop where
  wd : ∀ i, i < c.n → Word (o.m.ws i)
  s : Word o.s
  w : Word o.w
  en : o.en = true → o.tk = false

theorem bz_word {s : Nat} (h : Word s) : Word (bzN s) := h.setN (by decide)

theorem enew_ok {c : Cf} {m : Mm} (h : ∀ i, i < c.n → Word (m.ws i)) : Eok c (enew m) := ⟨h, zero_word, zero_word, fun _ => rfl⟩

theorem estep_ok {c : Cf} {h : Nat} {inn : Nat → Bool} {o : Es} (ho : Eok c o) : Eok c (estep c h inn o) := by
  unfold estep
  split
  · exact ho
  split
  · refine ⟨word_touch ho.wd (bz_word ho.s), ho.s, ?_, fun _ => rfl⟩
    show Word (if _ then _ else _)
    split
    · exact bz_word ho.s
    · exact ho.w
  · refine ⟨word_touch ho.wd zero_word, old_word ho.wd, ho.w, fun q => ?_⟩
    have q' : (!decide (flN h inn (mtouch c o.m 1 4 (svN h) 0 0).l.old = 0)) = true := q
    show decide _ = false
    cases hd : decide (flN h inn (mtouch c o.m 1 4 (svN h) 0 0).l.old = 0)
    · rfl
    · rw [hd] at q'; cases q'

theorem estep_done {c : Cf} {h : Nat} {inn : Nat → Bool} {o : Es} (hd : edn c h o = true) : estep c h inn o = o := by
  unfold estep
  rw [if_pos hd]

theorem eit_done {c : Cf} {h : Nat} {inn : Nat → Bool} {o : Es} {q : Nat} (hd : edn c h (eit c h inn o q) = true) {k : Nat} (hk : q ≤ k) : eit c h inn o k = eit c h inn o q := by
  obtain ⟨d, rfl⟩ : ∃ d, k = q + d := ⟨k - q, by omega⟩
  clear hk
  induction d with
  | zero => rfl
  | succ d ih =>
    show estep c h inn (eit c h inn o (q + d)) = _
    rw [ih]
    exact estep_done hd

/-- what a ticket that is named says of its slot -/
theorem ook_facts {h : Nat} {n : Int} (ho : ook h n = true) : 0 ≤ svN h ∧ svN h < n ∧ svN h = tsN h := by
  have hq := of_decide_eq_true ho
  have hs : sok h = true := decide_eq_true ⟨hq.1, hq.2.1⟩
  rw [sv_yes hs]
  exact ⟨hq.1, hq.2.2.2, rfl⟩

theorem sv_range (h : Nat) : 0 ≤ svN h ∧ svN h ≤ 11 := by
  unfold svN
  split
  · rename_i e
    have := of_decide_eq_true e
    omega
  · omega

/-- the first step: a look -/
theorem estep_look {c : Cf} (hr : c.r = true) {h : Nat} {inn : Nat → Bool} {o : Es} (hn : ook h c.s = true) (h1 : o.en = false) (h2 : o.tk = false) :
    estep c h inn o = ⟨mtouch c o.m 1 4 (svN h) 0 0, decide (flN h inn (o.m.ws (c.cl 4 (svN h)).toNat) = 0), o.m.ws (c.cl 4 (svN h)).toNat, o.w, flN h inn (o.m.ws (c.cl 4 (svN h)).toNat), !decide (flN h inn (o.m.ws (c.cl 4 (svN h)).toNat) = 0)⟩ := by
  obtain ⟨f0, f1, _⟩ := ook_facts hn
  have hc := (sl_cells hr f0 f1).1
  have hold : (mtouch c o.m 1 4 (svN h) 0 0).l.old = o.m.ws (c.cl 4 (svN h)).toNat := by rw [load_old, if_pos (by omega)]
  unfold estep edn
  rw [if_neg (by rw [h1, hn]; decide), if_neg (by rw [h2]; decide), hold]

/-- the second one: a swap -/
theorem estep_take {c : Cf} (hr : c.r = true) {h : Nat} {inn : Nat → Bool} {o : Es} (hn : ook h c.s = true) (h1 : o.en = false) (h2 : o.tk = true) :
    estep c h inn o = ⟨mtouch c o.m 3 4 (svN h) o.s (bzN o.s), false, o.s, if o.m.ws (c.cl 4 (svN h)).toNat = o.s then bzN o.s else o.w, o.e, decide (o.m.ws (c.cl 4 (svN h)).toNat = o.s)⟩ := by
  obtain ⟨f0, f1, _⟩ := ook_facts hn
  have hc := (sl_cells hr f0 f1).1
  have hd : (mtouch c o.m 3 4 (svN h) o.s (bzN o.s)).l.done = decide (o.m.ws (c.cl 4 (svN h)).toNat = o.s) := by
    rw [swap_done]
    by_cases e : o.m.ws (c.cl 4 (svN h)).toNat = o.s
    · rw [decide_eq_true e, decide_eq_true ⟨by omega, e⟩]
    · rw [decide_eq_false e, decide_eq_false (fun q => e q.2)]
  unfold estep edn
  rw [if_neg (by rw [h1, hn]; decide), if_pos h2, hd]
  by_cases e : o.m.ws (c.cl 4 (svN h)).toNat = o.s
  · rw [decide_eq_true e, if_pos rfl, if_pos e]
  · rw [decide_eq_false e, if_neg (by decide), if_neg e]

/-- alone, with something amiss: a step, nothing is changed -/
theorem alone_amiss {c : Cf} (hr : c.r = true) {h : Nat} {inn : Nat → Bool} (m : Mm) (hn : ook h c.s = true) (hf : flN h inn (m.ws (c.cl 4 (svN h)).toNat) ≠ 0) {k : Nat} (hk : 1 ≤ k) (A : Es) (hA : A = eit c h inn (enew m) k) :
    A.en = true ∧ A.e = flN h inn (m.ws (c.cl 4 (svN h)).toNat) ∧ A.w = 0 ∧ A.m.ws = m.ws := by
  have h1 : eit c h inn (enew m) 1 = _ := estep_look hr (inn := inn) (o := enew m) hn rfl rfl
  have hen : (eit c h inn (enew m) 1).en = true := by
    rw [h1]
    show (!decide (flN h inn (m.ws (c.cl 4 (svN h)).toNat) = 0)) = true
    rw [decide_eq_false hf]
    rfl
  have hd : edn c h (eit c h inn (enew m) 1) = true := by unfold edn; rw [hen]; rfl
  rw [hA, eit_done hd hk]
  refine ⟨hen, ?_, ?_, ?_⟩
  · rw [h1]; rfl
  · rw [h1]; rfl
  · rw [h1]; exact load_ws c m 4 (svN h)

/-- alone, with nothing amiss: two steps, its slot is busy -/
theorem alone_enters {c : Cf} (hr : c.r = true) {h : Nat} {inn : Nat → Bool} (m : Mm) (hn : ook h c.s = true) (hf : flN h inn (m.ws (c.cl 4 (svN h)).toNat) = 0) {k : Nat} (hk : 2 ≤ k) (A : Es) (hA : A = eit c h inn (enew m) k) :
    A.en = true ∧ A.e = 0 ∧ A.w = bzN (m.ws (c.cl 4 (svN h)).toNat) ∧ (∀ i : Nat, A.m.ws i = if (i : Int) = c.cl 4 (svN h) then bzN (m.ws i) else m.ws i) ∧ edn c h (eit c h inn (enew m) 1) = false := by
  obtain ⟨f0, f1, _⟩ := ook_facts hn
  have hc := (sl_cells hr f0 f1).1
  have h1 : eit c h inn (enew m) 1 = _ := estep_look hr (inn := inn) (o := enew m) hn rfl rfl
  have hen : (eit c h inn (enew m) 1).en = false := by
    rw [h1]
    show (!decide (flN h inn (m.ws (c.cl 4 (svN h)).toNat) = 0)) = false
    rw [decide_eq_true hf]
    rfl
  have htk : (eit c h inn (enew m) 1).tk = true := by rw [h1]; exact decide_eq_true hf
  have hm1 : (eit c h inn (enew m) 1).m.ws = m.ws := by rw [h1]; exact load_ws c m 4 (svN h)
  have hs1 : (eit c h inn (enew m) 1).s = m.ws (c.cl 4 (svN h)).toNat := by rw [h1]; rfl
  have he1 : (eit c h inn (enew m) 1).e = 0 := by rw [h1]; exact hf
  have h2 : eit c h inn (enew m) 2 = _ := estep_take hr (inn := inn) (o := eit c h inn (enew m) 1) hn hen htk
  have heq : (eit c h inn (enew m) 1).m.ws (c.cl 4 (svN h)).toNat = (eit c h inn (enew m) 1).s := by rw [hm1, hs1]
  have hen2 : (eit c h inn (enew m) 2).en = true := by rw [h2]; exact decide_eq_true heq
  have hd : edn c h (eit c h inn (enew m) 2) = true := by unfold edn; rw [hen2]; rfl
  rw [hA, eit_done hd hk]
  refine ⟨hen2, ?_, ?_, fun i => ?_, ?_⟩
  · rw [h2]; exact he1
  · rw [h2]
    show (if _ then _ else _) = _
    rw [if_pos heq, hs1]
  · rw [h2]
    show (mtouch c _ 3 4 (svN h) _ _).ws i = _
    rw [swap_ws, hm1, hs1]
    by_cases e : (i : Int) = c.cl 4 (svN h)
    · have ei : i = (c.cl 4 (svN h)).toNat := by omega
      rw [if_pos ⟨e, by rw [ei]⟩, if_pos e, ei]
    · rw [if_neg (fun q => e q.1), if_neg e]
  · unfold edn
    rw [hen, hn]
    rfl

/-- a leaving over a memory: has it looked, at what, is it done -/
structure Ls where
  m : Mm
  lk : Bool
  s : Nat
  dn : Bool

/-- the state that is laid -/
def lst (st : Int) (s : Nat) : Nat := if st < 0 ∨ 7 < st then stN s else st.toNat

def lstep (c : Cf) (sl st : Int) (o : Ls) : Ls :=
  if o.dn = true then o
  else if o.lk = false then ⟨mtouch c o.m 1 4 sl 0 0, true, (mtouch c o.m 1 4 sl 0 0).l.old, false⟩
  else ⟨mtouch c o.m 3 4 sl o.s (moveN o.s (lst st o.s) false), false, o.s, (mtouch c o.m 3 4 sl o.s (moveN o.s (lst st o.s) false)).l.done⟩

def lit10 (c : Cf) (sl st : Int) (o : Ls) : Nat → Ls
  | 0 => o
  | k + 1 => lstep c sl st (lit10 c sl st o k)

def lnew (m : Mm) : Ls := ⟨m, false, 0, false⟩

structure Lok (c : Cf) (o : Ls) : Prop where
  wd : ∀ i, i < c.n → Word (o.m.ws i)
  s : Word o.s

theorem lst_lt (st : Int) (s : Nat) : lst st s < 8 := by
  unfold lst
  split
  · exact part_lt s 27 3
  · omega

theorem lnew_ok {c : Cf} {m : Mm} (h : ∀ i, i < c.n → Word (m.ws i)) : Lok c (lnew m) := ⟨h, zero_word⟩

theorem lstep_ok {c : Cf} {sl st : Int} {o : Ls} (ho : Lok c o) : Lok c (lstep c sl st o) := by
  unfold lstep
  split
  · exact ho
  split
  · exact ⟨word_touch ho.wd zero_word, old_word ho.wd⟩
  · exact ⟨word_touch ho.wd (move_word ho.s (lst_lt _ _)), ho.s⟩

theorem lstep_done {c : Cf} {sl st : Int} {o : Ls} (hd : o.dn = true) : lstep c sl st o = o := by
  unfold lstep
  rw [if_pos hd]

theorem lit_done {c : Cf} {sl st : Int} {o : Ls} {q : Nat} (hd : (lit10 c sl st o q).dn = true) {k : Nat} (hk : q ≤ k) : lit10 c sl st o k = lit10 c sl st o q := by
  obtain ⟨d, rfl⟩ : ∃ d, k = q + d := ⟨k - q, by omega⟩
  clear hk
  induction d with
  | zero => rfl
  | succ d ih =>
    show lstep c sl st (lit10 c sl st o (q + d)) = _
    rw [ih]
    exact lstep_done hd

theorem lstep_look {c : Cf} (hr : c.r = true) {sl st : Int} {o : Ls} (h0 : 0 ≤ sl) (h1 : sl < c.s) (h2 : o.dn = false) (h3 : o.lk = false) :
    lstep c sl st o = ⟨mtouch c o.m 1 4 sl 0 0, true, o.m.ws (c.cl 4 sl).toNat, false⟩ := by
  have hc := (sl_cells hr h0 h1).1
  have hold : (mtouch c o.m 1 4 sl 0 0).l.old = o.m.ws (c.cl 4 sl).toNat := by rw [load_old, if_pos (by omega)]
  unfold lstep
  rw [if_neg (by rw [h2]; decide), if_pos h3, hold]

theorem lstep_lay {c : Cf} (hr : c.r = true) {sl st : Int} {o : Ls} (h0 : 0 ≤ sl) (h1 : sl < c.s) (h2 : o.dn = false) (h3 : o.lk = true) :
    lstep c sl st o = ⟨mtouch c o.m 3 4 sl o.s (moveN o.s (lst st o.s) false), false, o.s, decide (o.m.ws (c.cl 4 sl).toNat = o.s)⟩ := by
  have hc := (sl_cells hr h0 h1).1
  have hd : (mtouch c o.m 3 4 sl o.s (moveN o.s (lst st o.s) false)).l.done = decide (o.m.ws (c.cl 4 sl).toNat = o.s) := by
    rw [swap_done]
    by_cases e : o.m.ws (c.cl 4 sl).toNat = o.s
    · rw [decide_eq_true e, decide_eq_true ⟨by omega, e⟩]
    · rw [decide_eq_false e, decide_eq_false (fun q => e q.2)]
  unfold lstep
  rw [if_neg (by rw [h2]; decide), if_neg (by rw [h3]; decide), hd]

/-- alone: two steps, and it has left -/
theorem alone_leaves {c : Cf} (hr : c.r = true) {sl st : Int} (h0 : 0 ≤ sl) (h1 : sl < c.s) (m : Mm) {k : Nat} (hk : 2 ≤ k) (A : Ls) (hA : A = lit10 c sl st (lnew m) k) :
    A.dn = true ∧ (∀ i : Nat, A.m.ws i = if (i : Int) = c.cl 4 sl then moveN (m.ws i) (lst st (m.ws i)) false else m.ws i) ∧ (lit10 c sl st (lnew m) 0).dn = false ∧ (lit10 c sl st (lnew m) 1).dn = false := by
  have hc := (sl_cells hr h0 h1).1
  have e1 : lit10 c sl st (lnew m) 1 = _ := lstep_look hr (st := st) (o := lnew m) h0 h1 rfl rfl
  have hm1 : (lit10 c sl st (lnew m) 1).m.ws = m.ws := by rw [e1]; exact load_ws c m 4 sl
  have hs1 : (lit10 c sl st (lnew m) 1).s = m.ws (c.cl 4 sl).toNat := by rw [e1]; rfl
  have hd1 : (lit10 c sl st (lnew m) 1).dn = false := by rw [e1]
  have e2 : lit10 c sl st (lnew m) 2 = _ := lstep_lay hr (st := st) (o := lit10 c sl st (lnew m) 1) h0 h1 hd1 (by rw [e1])
  have hd2 : (lit10 c sl st (lnew m) 2).dn = true := by rw [e2]; exact decide_eq_true (by rw [hm1, hs1])
  rw [hA, lit_done hd2 hk]
  refine ⟨hd2, fun i => ?_, rfl, hd1⟩
  rw [e2]
  show (mtouch c _ 3 4 sl _ _).ws i = _
  rw [swap_ws, hm1, hs1]
  by_cases e : (i : Int) = c.cl 4 sl
  · have ei : i = (c.cl 4 sl).toNat := by omega
    rw [if_pos ⟨e, by rw [ei]⟩, if_pos e, ei]
  · rw [if_neg (fun q => e q.1), if_neg e]

end Um

/-
  Plain arithmetic of layer 10: two that enter at once; conflicts that are laid meanwhile. No Go in sight.
-/
namespace Um
set_option maxRecDepth 100000

/-- another memory -/
def setE (m : Mm) (o : Es) : Es := ⟨m, o.tk, o.s, o.w, o.e, o.en⟩
def setLs (m : Mm) (o : Ls) : Ls := ⟨m, o.lk, o.s, o.dn⟩

def EokW (c : Cf) (o : Es) : Prop := ∀ m : Mm, (∀ i, i < c.n → Word (m.ws i)) → Eok c (setE m o)
def LokW (c : Cf) (o : Ls) : Prop := ∀ m : Mm, (∀ i, i < c.n → Word (m.ws i)) → Lok c (setLs m o)

theorem Eok.okw {c : Cf} {o : Es} (h : Eok c o) : EokW c o := fun _ hm => ⟨hm, h.s, h.w, h.en⟩
theorem Lok.okw {c : Cf} {o : Ls} (h : Lok c o) : LokW c o := fun _ hm => ⟨hm, h.s⟩

/-- an active status, and it busy -/
def actW : Nat := 268435456
def busW : Nat := bzN actW

def won (a : Es) : Prop := a.en = true ∧ a.e = 0

structure Side10 (W : Nat) (a : Es) : Prop where
  fin : a.en = true → (a.e = 0 ∨ a.e = 3) ∧ W = busW
  tk : a.tk = true → a.s = actW ∧ a.en = false ∧ a.e = 0

structure Duo10 (W : Nat) (a b : Es) : Prop where
  wd : W = actW ∨ W = busW
  A : Side10 W a
  B : Side10 W b
  one : W = busW → (won a ∧ ¬ won b) ∨ (won b ∧ ¬ won a)

theorem Duo10.swap {W : Nat} {a b : Es} (h : Duo10 W a b) : Duo10 W b a := ⟨h.wd, h.B, h.A, fun q => (h.one q).symm⟩

theorem Duo10.at {W : Nat} {a b : Es} (h : Duo10 W a b) (m : Mm) : Duo10 W (setE m a) b := ⟨h.wd, ⟨h.A.fin, h.A.tk⟩, ⟨h.B.fin, h.B.tk⟩, h.one⟩

/-! ## sides -/

theorem move_with (x : Nat) (a b : Int) {st : Nat} (hs : st < 8) (bz : Bool) : moveN (withN x a b) st bz = withN (moveN x st bz) a b := by
  cases ho : okS a b with
  | false => rw [with_bad x a b ho, with_bad _ a b ho]
  | true =>
    have hlt := bitAt_lt ho
    rw [with_ok _ ho, with_ok _ ho]
    generalize bitAt a b = k at *
    apply Nat.eq_of_testBit_eq
    intro j
    rw [move_bits hs, testBit_setN, testBit_setN, move_bits hs]
    by_cases h : k = j
    · subst h
      rw [if_pos rfl, if_pos rfl, if_neg (show ¬ k = 26 by omega), if_neg (show ¬ (27 ≤ k ∧ k < 30) by omega)]
    · rw [if_neg h, if_neg h]

/-- busy, of its own state -/
theorem move_bz (x : Nat) : moveN x (stN x) true = bzN x := by
  have hs : stN x < 8 := part_lt x 27 3
  unfold bzN
  apply Nat.eq_of_testBit_eq
  intro j
  rw [testBit_setN, move_bits hs]
  by_cases e : 26 = j
  · rw [if_pos e, if_pos e.symm]
  · have e' : ¬ j = 26 := fun q => e q.symm
    rw [if_neg e, if_neg e']
    by_cases e2 : 27 ≤ j ∧ j < 30
    · rw [if_pos e2]
      unfold stN
      rw [testBit_part, show j - 27 + 27 = j by omega, decide_eq_true (show j - 27 < 3 by omega)]
      simp
    · rw [if_neg e2]

theorem gn_with (x : Nat) (a b : Int) : gnN (withN x a b) = gnN x := by
  apply Nat.eq_of_testBit_eq
  intro j
  unfold gnN
  rw [testBit_part, testBit_part, with_bits _ _ _ _ (by omega)]

/-- one that enters, and then leaves for the state 5, while conflicts are laid; V: what its status will be -/
structure Sid10 (W V : Nat) (e : Es) (l : Ls) : Prop where
  v : stN V = 5 ∧ V.testBit 26 = false ∧ gnN V = 0
  a : e.en = false → W = moveN V 2 false ∧ l.dn = false ∧ l.lk = false
  tk : e.tk = true → e.en = false
  b : e.en = true → l.dn = false → W = moveN V 2 true
  d : l.dn = true → W = V

theorem Sid10.lay {W V : Nat} {e : Es} {l : Ls} (h : Sid10 W V e l) (x y : Int) : Sid10 (withN W x y) (withN V x y) e l := by
  obtain ⟨v1, v2, v3⟩ := h.v
  refine ⟨⟨by rw [st_with]; exact v1, by rw [with_bits _ _ _ _ (by decide)]; exact v2, by rw [gn_with]; exact v3⟩, fun q => ⟨?_, (h.a q).2⟩, h.tk, fun q r => ?_, fun q => by rw [h.d q]⟩
  · rw [(h.a q).1, move_with _ _ _ (by decide)]
  · rw [h.b q r, move_with _ _ _ (by decide)]

theorem Sid10.at {W V : Nat} {e : Es} {l : Ls} (h : Sid10 W V e l) (m m' : Mm) : Sid10 W V (setE m e) (setLs m' l) := ⟨h.v, h.a, h.tk, h.b, h.d⟩

end Um

/-
  The walks of layer 6's maker of a new memory.
-/
namespace Go.Proofs.YtapgghciieloaaaGreat
set_option maxRecDepth 100000
open Go.RowKit Go.Sort

theorem zero_words (w : World) (m : Nat) (hp : 0 < m) (hn : m ≤ 1000) : IsWords (w.alloc (.cells (rowW (fun _ => 0) m).toArray 22)) (.slice (some ⟨w.heap.size, 0, none⟩) m m) m (fun _ => 0) :=
  (LowWords.of_row hp hn (heap_alloc_new w _) (fun _ _ => by unfold Um.Word; omega)).is (by simp)

set_option maxHeartbeats 2000000 in
theorem sNew_right (c : Um.Cf) (w : World) (h : c.r = true) :
    Calls Tryz.prog 32 #[(.agg #[.int .i64 (c.t), .int .i64 (c.s), .int .i64 (c.k), .int .i64 (c.g), .int .u64 (c.q : Int)])] w fun e w' => ∃ B C, e = .returned (.tuple #[.pointer (some ⟨B, 0, none⟩), .int .i64 0]) ∧ w.heap.size ≤ B ∧ w.heap.size ≤ C ∧ MemAt w' B C c ⟨fun _ => 0, 0, Um.noT⟩ ∧ Below w.heap.size w w' := by
  have hL := cLen_any c.t c.s c.k c.g c.q
  rw [Cf_len] at hL
  have hp := Um.Cf.n_pos h
  have hO := fun v w => sOf_right c v (fun _ => 0) w h
  have hk := run_makeW c.n (by have := c.n_le; omega)
  have hm := c.n_le
  have HO := hide hO
  clear h hO
  generalize c.n = m at *
  go_enter Tryz.func32, Tryz.ntmps32
  go_wp2_with fail
  have K := cfAt_alloc w c 24
  have hB : Below w.heap.size w (w.alloc (.cells #[.int .i64 c.t, .int .i64 c.s, .int .i64 c.k, .int .i64 c.g, .int .u64 c.q] 24)) := (Below.refl _ _).alloc (Nat.le_refl _) _
  generalize w.alloc _ = W at *
  obtain ⟨_, a0, a1, a2, a3, a4⟩ := id K
  go_region_with (first | (go_at_call 71; refine (hL _).mono ?_; rintro e w3 ⟨rfl, hb3⟩; obtain ⟨_, b0, b1, b2, b3, b4⟩ := K.below (below_undrew hb3)) | (go_at_call 41; refine ((unhide HO) _ _ (zero_words _ m (by omega) (by omega))).mono ?_; rintro e w4 ⟨B, C, rfl, hl1, hl2, hM, hb4⟩))
  all_goals
    have hB3 := hB.trans ((below_undrew hb3).mono hB.size)
    have hs3 := hB3.size
    have hB4 := (hB3.alloc hB3.size _).trans (hb4.mono (by simp; exact Nat.le_succ_of_le hB3.size))
    have HM := hide hM
    simp at hl1 hl2
    clear hb3 hb4 b0 b1 b2 b3 b4 a0 a1 a2 a3 a4 K hk HO hL hM
    go_wp2
    go_ret2
    exact ⟨B, C, rfl, by omega, by omega, unhide HM, hB4⟩

end Go.Proofs.YtapgghciieloaaaGreat

/-
  A new memory, how many accesses there were, and its words: over blocks of two lists.
-/
namespace Go.Proofs.YtapgghciieloaaaGreat
set_option maxRecDepth 100000
open Go.RowKit Go.Sort

theorem set_same {α : Type} {l : List α} {k : Nat} {x : α} (h : l[k]? = some x) : l.set k x = l := by
  obtain ⟨h1, h2⟩ := List.getElem?_eq_some_iff.1 h
  subst h2
  exact List.set_getElem_self h1

section
variable {bs : List Nat} {w0 w : World} {l e : List (Nat × List Value)} {B C P : Nat} {c : Um.Cf} {m : Um.Mm}

theorem new_x (hS : Sx bs w0 w l e) (c : Um.Cf) (hr : c.r = true) : Calls Tryz.prog 32 #[(.agg #[.int .i64 (c.t), .int .i64 (c.s), .int .i64 (c.k), .int .i64 (c.g), .int .u64 (c.q : Int)])] w fun r w' => ∃ B C, r = .returned (.tuple #[.pointer (some ⟨B, 0, none⟩), .int .i64 0]) ∧ WordsOk c ⟨fun _ => 0, 0, Um.noT⟩ ∧ Sx bs w0 w' (l ++ [(B, memL c C ⟨fun _ => 0, 0, Um.noT⟩), (C, rowW (fun _ => 0) c.n)]) e := by
  refine (sNew_right c w hr).mono ?_
  rintro r w' ⟨B, C, rfl, h1, h2, hM, hb⟩
  refine ⟨B, C, rfl, hM.wd, hS.adds hb _ (fun p hp => ?_) (fun p hp => ?_) ?_⟩
  · rcases (by simpa using hp : p = (B, memL c C ⟨fun _ => 0, 0, Um.noT⟩) ∨ p = (C, rowW (fun _ => 0) c.n)) with rfl | rfl
    · exact hM.blkB
    · exact hM.blkC
  · rcases (by simpa using hp : p = (B, memL c C ⟨fun _ => 0, 0, Um.noT⟩) ∨ p = (C, rowW (fun _ => 0) c.n)) with rfl | rfl
    · exact h1
    · exact h2
  · simpa using hM.ne

end

theorem cells_x {bs : List Nat} {w0 w : World} {l e : List (Nat × List Value)} {B C : Nat} {c : Um.Cf} {m : Um.Mm} (hS : Sx bs w0 w l e) (i j : Nat) (hi : l[i]? = some (B, memL c C m)) (hj : l[j]? = some (C, rowW m.ws c.n)) (hij : i ≠ j) (hr : c.r = true) (hw : WordsOk c m) :
    Calls Tryz.prog 31 #[.pointer (some ⟨B, 0, none⟩)] w fun r w' => ∃ X, r = .returned (.slice (some ⟨X, 0, none⟩) c.n c.n) ∧ Sx bs w0 w' (l ++ [(X, rowW m.ws c.n)]) e := by
  refine (mCells_any (hS.mem i j hi hj hij hr hw)).mono ?_
  rintro r w' ⟨rfl, hg, hb⟩
  have := hS.add hb (blkAt_new hg) (Nat.le_refl _)
  rw [List.toList_toArray] at this
  exact ⟨_, rfl, this⟩

end Go.Proofs.YtapgghciieloaaaGreat

/-
  Blocks: what layers 8 and on ask for beside BlkX: loads from blocks that are only read, four blocks handed in, a new block beside turned ones; fields of structs; words of layer 1; a memory's world.
-/
namespace Go.Proofs.YtapgghciieloaaaGreat
set_option maxRecDepth 100000
open Go.RowKit Go.Sort

section
variable {P : Program} {ops : Array Oper} {rest : List Oper} {op : Oper} {a : Act} {bs : List Nat} {w w0 : World} {Q : Exit → Act → World → Prop} {l e : List (Nat × List Value)}

/-- a load from a block that is only read -/
theorem wpx_load1e (hS : Sx bs w0 w l e) (k : Nat) (hw : Region.wanted op (yielded ops a.tmps) = true) (ty : TypeId) (x : Operand) (ho : op.op = .load ty x) (b o : Nat) (hx : a.eval x = .pointer (some ⟨b, o, none⟩)) (cs : List Value) (hk : e[k]? = some (b, cs)) (hr : One P ty) (v : Value) (hv : cs[o]? = some v)
    (a' : Act) (ha : a.put op.dst v = a') (h : wpList P ops Q rest a' w) : wpList P ops Q (op :: rest) a w := by
  refine BigFrame.wpList_want hw fun K hK => ?_
  obtain ⟨d, hu, hd⟩ := hr
  subst ha
  have e : (execOp a.eval op).run P w = .ok (.value v) w := by
    unfold execOp
    rw [ho]
    simp [hx, run_load1_st (P := P) (hS.getE k hk) o ty v hv d hu hd]
  unfold Oper.wp
  rw [e]
  exact hK _ _ h

end

theorem Sx.read1 {w : World} {g : Nat} {cs : List Value} (hB : BlkAt w g cs) : Sx [] w w [] [(g, cs)] :=
  Sx.read w [(g, cs)] (fun p hp => by
    obtain rfl : p = _ := by simpa using hp
    exact hB)

section
variable {bs : List Nat} {w0 w w' : World} {l e : List (Nat × List Value)} {b1 b2 b3 b4 : Nat} {c1 c2 c3 c4 d1 d2 d3 d4 : List Value}

end

theorem field_cfgS (a b c d e : Value) (w : World) : (Instr.field 24 (.agg #[a, b, c, d, e]) 1).run Tryz.prog w = .ok b w := by simp [Instr.field, go_sem, asAgg]

section
variable {bs : List Nat} {w0 w : World} {l e : List (Nat × List Value)} {B C : Nat} {c : Um.Cf} {m : Um.Mm}

theorem config9_x (hS : Sx bs w0 w l e) (i j : Nat) (hi : l[i]? = some (B, memL c C m)) (hj : l[j]? = some (C, rowW m.ws c.n)) (hij : i ≠ j) (hr : c.r = true) (hw : WordsOk c m) : Calls Tryz.prog 123 #[.pointer (some ⟨B, 0, none⟩)] w fun r w' => r = .returned (.agg #[.int .i64 (c.t), .int .i64 (c.s), .int .i64 (c.k), .int .i64 (c.g), .int .u64 (c.q : Int)]) ∧ Below w.heap.size w w' :=
  mConfig_any (hS.mem i j hi hj hij hr hw)

end

set_option maxHeartbeats 1000000 in
theorem rGen_x {bs : List Nat} {w0 w : World} {l e : List (Nat × List Value)} (hS : Sx bs w0 w l e) (x : Nat) (hx : Um.Word x) :
    Calls Tryz.prog 37 #[.int .u64 (x : Nat)] w fun r w' => r = .returned (.int .i64 (Um.gnN x : Int)) ∧ Sx bs w0 w' l e := by
  have HC := hide (number_any x 30 32 w hx (by decide) (by decide) (by decide) (by decide))
  have HS := hide hS
  clear hS hx
  go_enter Tryz.func37, Tryz.ntmps37
  go_wp2_with fail
  refine (unhide HC).mono ?_
  rintro r u ⟨rfl, n, rfl⟩
  go_wp2
  go_ret
  exact ⟨rfl, (unhide HS).drewN n⟩

theorem rGen_b (x : Nat) (w : World) (hx : Um.Word x) : Calls Tryz.prog 37 #[.int .u64 (x : Nat)] w fun r w' => r = .returned (.int .i64 (Um.gnN x : Int)) ∧ Below w.heap.size w w' :=
  (rGen_x (Sx.new w) x hx).mono fun _ _ ⟨h1, h2⟩ => ⟨h1, h2.bel⟩

theorem rState_b (x : Nat) (w : World) (hx : Um.Word x) : Calls Tryz.prog 58 #[.int .u64 (x : Nat)] w fun r w' => r = .returned (.int .i64 (Um.stN x : Int)) ∧ Below w.heap.size w w' :=
  (rState_x (Sx.new w) x hx).mono fun _ _ ⟨h1, h2⟩ => ⟨h1, h2.bel⟩

theorem lst1_eq {a a' : Value} (h : a = a') : [a] = [a'] := by rw [h]

end Go.Proofs.YtapgghciieloaaaGreat

/-
  A region that draws its order: one obligation an operation; the frame as a list, its own slots written over. No program in sight.
-/
namespace Go.Proofs.YtapgghciieloaaaGreat
set_option maxRecDepth 100000
open Go.RowKit

theorem wp_region_ogt {P : Program} {ops : Array Oper} {Q : Exit → Act → World → Prop} {id : Nat} {ts : List Value} {w : World} (J : List Value → (Nat → Bool) → List Value → World → Prop) (hm : P.follows .mixedOrders = true)
    (hac : acycB .any ops = true)
    (h0 : J ts (fun _ => false) ts w.drew)
    (hst : ∀ (i : Nat) (o : Oper), ops[i]? = some o → ∀ D ts' w, D i = false → (∀ e ∈ o.after, Region.binds .any e = true → D e.on = true) → J ts D ts' w → wpOp P ops Q i (fun a' w' => ∃ ts'', a' = ⟨List.toArray ts'', []⟩ ∧ J ts (fun j => j == i || D j) ts'' w') ⟨List.toArray ts', []⟩ w)
    (hen : ∀ D ts' w, (∀ i, i < ops.size → D i = true) → J ts D ts' w → Q .normal ⟨List.toArray ts', []⟩ w) : (Code.region id ops true).wp P Q ⟨List.toArray ts, []⟩ w := by
  refine wp_region_og (fun D a' w' => ∃ ts', a' = ⟨List.toArray ts', []⟩ ∧ J ts D ts' w') hm (fun i o hi e he hb => og_acyc hac hi he hb) ⟨ts, rfl, h0⟩ ?_ ?_
  · rintro i o hi D a w hD hp ⟨ts', rfl, hJ⟩
    exact hst i o hi D ts' w hD hp hJ
  · rintro D a w hall ⟨ts', rfl, hJ⟩
    exact hen D ts' w hall hJ

theorem list4_eq {a a' b b' c c' d d' : Value} (h1 : a = a') (h2 : b = b') (h3 : c = c') (h4 : d = d') : [a, b, c, d] = [a', b', c', d'] := by rw [h1, h2, h3, h4]
theorem list3_eq {a a' b b' c c' : Value} (h1 : a = a') (h2 : b = b') (h3 : c = c') : [a, b, c] = [a', b', c'] := by rw [h1, h2, h3]

/-- a block's letter, to be named -/
theorem nameB {bs : List Nat} {w0 w : World} {l e : List (Nat × List Value)} (_ : Sx bs w0 w l e) (k : Nat) {b : Nat} {cs : List Value} (_ : l[k]? = some (b, cs)) : ∃ b', b' = b := ⟨b, rfl⟩

theorem nameW {bs : List Nat} {w0 w : World} {l e : List (Nat × List Value)} (_ : Sx bs w0 w l e) : ∃ u, u = w := ⟨w, rfl⟩

/-- slots written over -/
def putS (ts : List Value) : List (Nat × Value) → List Value
  | [] => ts
  | u :: r => putS (ts.set u.1 u.2) r

end Go.Proofs.YtapgghciieloaaaGreat

/-
  The walks of layer 4's row of functions, and of what is told by it.
-/
namespace Go.Proofs.YtapgghciieloaaaGreat
set_option maxRecDepth 100000
open Go.RowKit Go.Sort

set_option maxHeartbeats 400000 in
theorem row2_any (x : Nat) (w : World) (hx : Um.Word x) :
    Calls Tryz.prog 112 #[.int .u64 x] w fun e w' => e = .returned (.int .i64 (Um.tsN x)) ∧ w' = w := by
  have hb : bits .and .u64 (x : Int) 15 = ((x % 16 : Nat) : Int) := by
    rw [show (15 : Int) = ((15 : Nat) : Int) from rfl, u64_and_nat _ _ hx (by decide)]
    have := Um.and_mask x 4
    rw [show (2 : Nat) ^ 4 - 1 = 15 by decide, show (2 : Nat) ^ 4 = 16 by decide] at this
    rw [this]
  go_enter Tryz.func112, Tryz.ntmps112
  go_wp2
  go_ret
  refine ⟨ret_i64 ?_, rfl⟩
  unfold Um.tsN
  omega

set_option maxHeartbeats 400000 in
theorem row3_any (n : Int) (w : World) :
    Calls Tryz.prog 113 #[.int .i64 n] w fun e w' => e = .returned (.int .i64 (Um.nearS n)) ∧ w' = w := by
  go_enter Tryz.func113, Tryz.ntmps113
  go_wp2
  all_goals go_ret
  all_goals refine ⟨ret_i64 ?_, rfl⟩
  all_goals unfold Um.nearS
  all_goals omega

set_option maxHeartbeats 400000 in
theorem row5_any (x : Nat) (w : World) (hx : Um.Word x) :
    Calls Tryz.prog 115 #[.int .u64 x] w fun e w' => e = .returned (.int .i64 (Um.tgN x)) ∧ w' = w := by
  unfold Um.Word at hx
  go_enter Tryz.func115, Tryz.ntmps115
  go_wp2
  all_goals go_ret
  all_goals refine ⟨ret_i64 ?_, rfl⟩
  all_goals unfold Um.tgN
  all_goals omega

set_option maxHeartbeats 400000 in
theorem row6_any (n : Int) (w : World) :
    Calls Tryz.prog 116 #[.int .i64 n] w fun e w' => e = .returned (.int .i64 (Um.nearG n)) ∧ w' = w := by
  go_enter Tryz.func116, Tryz.ntmps116
  go_wp2
  all_goals go_ret
  all_goals refine ⟨ret_i64 ?_, rfl⟩
  all_goals unfold Um.nearG
  all_goals omega

set_option maxHeartbeats 400000 in
theorem trow_any (w : World) :
    Calls Tryz.prog 100 #[] w fun e w' => e = .returned (.agg #[.func (.func 111) #[] #[], .func (.func 112) #[] #[], .func (.func 113) #[] #[], .func (.func 114) #[] #[], .func (.func 115) #[] #[], .func (.func 116) #[] #[]]) ∧ Below w.heap.size w w' := by
  go_enter Tryz.func100, Tryz.ntmps100
  go_wp2
  refine bodyPost_ret (v := .agg #[.func (.func 111) #[] #[], .func (.func 112) #[] #[], .func (.func 113) #[] #[], .func (.func 114) #[] #[], .func (.func 115) #[] #[], .func (.func 116) #[] #[]]) (by simp [results, Tryz.results100, go_sem]) rfl ⟨rfl, ?_⟩
  exact (Below.refl _ _).alloc (Nat.le_refl _) _

theorem index_row0 (a0 a1 a2 a3 a4 a5 : Value) (w : World) : Sem.run Tryz.prog (Instr.index 167 (.agg #[a0, a1, a2, a3, a4, a5]) (.int .i64 0)) w = .ok (.agg #[a0, a1, a2]) w := by
  simp [Instr.index, go_sem]

theorem index_row1 (a0 a1 a2 a3 a4 a5 : Value) (w : World) : Sem.run Tryz.prog (Instr.index 167 (.agg #[a0, a1, a2, a3, a4, a5]) (.int .i64 1)) w = .ok (.agg #[a3, a4, a5]) w := by
  simp [Instr.index, go_sem]

attribute [local go_sem] index_row0 index_row1

set_option maxHeartbeats 2000000 in
theorem apart_any (x : Nat) (w : World) (hx : Um.Word x) :
    Calls Tryz.prog 81 #[.int .u64 x] w fun e w' => e = .returned (.agg #[.int .i64 (Um.tsN x), .int .i64 (Um.tgN x)]) ∧ Below w.heap.size w w' := by
  go_enter Tryz.func81, Tryz.ntmps81
  go_wp2_with fail
  refine (trow_any _).mono ?_
  rintro e w1 ⟨rfl, hb1⟩
  obtain ⟨hc1, hf1⟩ := bcell hb1
  have hz1 : w.heap.size + 1 < w1.heap.size := by have := hb1.size; simp at this; omega
  have hz0 : w.heap.size < w1.heap.size := by omega
  have hB1 : Below w.heap.size w w1 := (((Below.refl w.heap.size w).alloc (Nat.le_refl _) _).alloc (by simp) _).trans (hb1.mono (by simp; omega))
  have hz : w.heap.size < w.heap.size + 2 := by omega
  have c00 : w1.cell? ⟨w.heap.size, 0, none⟩ = some (.int .i64 0) := by go_simp
  have f00 : w1.frozen? ⟨w.heap.size, 0, none⟩ = false := by go_simp
  have c01 : w1.cell? ⟨w.heap.size, 1, none⟩ = some (.int .i64 0) := by go_simp
  have f01 : w1.frozen? ⟨w.heap.size, 1, none⟩ = false := by go_simp
  have c10 : w1.cell? ⟨w.heap.size + 1, 0, none⟩ = some (.int .i64 0) := by go_simp
  have f10 : w1.frozen? ⟨w.heap.size + 1, 0, none⟩ = false := by go_simp
  have c11 : w1.cell? ⟨w.heap.size + 1, 1, none⟩ = some (.int .i64 0) := by go_simp
  have f11 : w1.frozen? ⟨w.heap.size + 1, 1, none⟩ = false := by go_simp
  clear hc1 hf1 hb1 hz
  go_wp2_with fail
  refine wp_loop_rounds 3 ?_
  rw [rounds_succ]
  go_wp2_with fail
  refine (row2_any _ _ hx).mono ?_
  rintro e w2 ⟨rfl, rfl⟩
  go_wp2_with fail
  rw [rounds_succ]
  go_wp2_with fail
  refine (row5_any _ _ hx).mono ?_
  rintro e w3 ⟨rfl, rfl⟩
  go_wp2_with fail
  rw [rounds_succ]
  go_wp2
  generalize hW : World.alloc _ _ = W
  have hk0 : W.cell? ⟨w.heap.size, 0, none⟩ = some (.int .i64 (Um.tsN x)) := by subst hW; go_simp
  have hk1 : W.cell? ⟨w.heap.size, 1, none⟩ = some (.int .i64 (Um.tgN x)) := by subst hW; go_simp
  refine bodyPost_ret (v := .agg #[.int .i64 (Um.tsN x), .int .i64 (Um.tgN x)]) (by simp [results, Tryz.results81, go_sem, hk0, hk1]) rfl ⟨rfl, ?_⟩
  subst hW
  repeat first | exact hB1 | refine Below.alloc ?_ (by simp; omega) _ | refine Below.setCell ?_ (by simp) _ | refine Below.drew ?_

set_option maxHeartbeats 2000000 in
theorem near_any (a b : Int) (w : World) :
    Calls Tryz.prog 82 #[.agg #[.int .i64 a, .int .i64 b]] w fun e w' => e = .returned (.agg #[.int .i64 (Um.nearS a), .int .i64 (Um.nearG b)]) ∧ Below w.heap.size w w' := by
  go_enter Tryz.func82, Tryz.ntmps82
  go_wp2_with fail
  refine (trow_any _).mono ?_
  rintro e w1 ⟨rfl, hb1⟩
  obtain ⟨hc1, hf1⟩ := bcell hb1
  have hz1 : w.heap.size + 1 < w1.heap.size := by have := hb1.size; simp at this; omega
  have hz0 : w.heap.size < w1.heap.size := by omega
  have hB1 : Below w.heap.size w w1 := (((Below.refl w.heap.size w).alloc (Nat.le_refl _) _).alloc (by simp) _).trans (hb1.mono (by simp; omega))
  have hz : w.heap.size < w.heap.size + 2 := by omega
  have c00 : w1.cell? ⟨w.heap.size, 0, none⟩ = some (.int .i64 a) := by go_simp
  have f00 : w1.frozen? ⟨w.heap.size, 0, none⟩ = false := by go_simp
  have c01 : w1.cell? ⟨w.heap.size, 1, none⟩ = some (.int .i64 b) := by go_simp
  have f01 : w1.frozen? ⟨w.heap.size, 1, none⟩ = false := by go_simp
  have c10 : w1.cell? ⟨w.heap.size + 1, 0, none⟩ = some (.int .i64 0) := by go_simp
  have f10 : w1.frozen? ⟨w.heap.size + 1, 0, none⟩ = false := by go_simp
  have c11 : w1.cell? ⟨w.heap.size + 1, 1, none⟩ = some (.int .i64 0) := by go_simp
  have f11 : w1.frozen? ⟨w.heap.size + 1, 1, none⟩ = false := by go_simp
  clear hc1 hf1 hb1 hz
  go_wp2_with fail
  go_loopw [6] (fun i wr => ∃ (k : Nat) (a' b' : Int), ((k = 0 ∧ a' = a ∧ b' = b) ∨ (k = 1 ∧ a' = Um.nearS a ∧ b' = b) ∨ (k = 2 ∧ a' = Um.nearS a ∧ b' = Um.nearG b)) ∧ i = .int .i64 k ∧ Below w.heap.size w wr ∧ w.heap.size + 1 < wr.heap.size ∧
    wr.cell? ⟨w.heap.size, 0, none⟩ = some (.int .i64 a') ∧ wr.cell? ⟨w.heap.size, 1, none⟩ = some (.int .i64 b') ∧ wr.cell? ⟨w.heap.size + 1, 0, none⟩ = some (.int .i64 0) ∧ wr.cell? ⟨w.heap.size + 1, 1, none⟩ = some (.int .i64 0) ∧
    wr.frozen? ⟨w.heap.size, 0, none⟩ = false ∧ wr.frozen? ⟨w.heap.size, 1, none⟩ = false ∧ wr.frozen? ⟨w.heap.size + 1, 0, none⟩ = false ∧ wr.frozen? ⟨w.heap.size + 1, 1, none⟩ = false) (fun i _ => 2 - (intOf i).toNat)
  case atStart => exact ⟨0, a, b, .inl ⟨rfl, rfl, rfl⟩, rfl, hB1, hz1, c00, c01, c10, c11, f00, f01, f10, f11⟩
  case round =>
    rename_i wr
    clear c00 c01 c10 c11 f00 f01 f10 f11 hB1 hz1 hz0
    obtain ⟨k, a', b', hcase, rfl, hB, hz1, c00, c01, c10, c11, f00, f01, f10, f11⟩ := hrel
    have hz0 : w.heap.size < wr.heap.size := by omega
    rcases hcase with ⟨rfl, rfl, rfl⟩ | ⟨rfl, rfl, rfl⟩ | ⟨rfl, rfl, rfl⟩
    · go_wp2_with fail
      go_region_with (go_at_call 113; refine (row3_any _ _).mono ?_; rintro e w' ⟨rfl, rfl⟩)
      all_goals
        go_wp2_with fail
        refine ⟨⟨1, _, _, .inr (.inl ⟨rfl, rfl, rfl⟩), rfl, ((hB.setCell (by simp) _).alloc (by simp; omega) _).drew, by simp; omega, by go_simp, by go_simp, by go_simp, by go_simp, by go_simp, by go_simp, by go_simp, by go_simp⟩, by simp [intOf]⟩
    · go_wp2_with fail
      go_region_with (go_at_call 116; refine (row6_any _ _).mono ?_; rintro e w' ⟨rfl, rfl⟩)
      all_goals
        go_wp2_with fail
        refine ⟨⟨2, _, _, .inr (.inr ⟨rfl, rfl, rfl⟩), rfl, ((hB.setCell (by simp) _).alloc (by simp; omega) _).drew, by simp; omega, by go_simp, by go_simp, by go_simp, by go_simp, by go_simp, by go_simp, by go_simp, by go_simp⟩, by simp [intOf]⟩
    · go_wp2
      generalize hW : World.setCell _ _ _ = W
      have hk0 : W.cell? ⟨w.heap.size + 1, 0, none⟩ = some (.int .i64 (Um.nearS a)) := by subst hW; go_simp
      have hk1 : W.cell? ⟨w.heap.size + 1, 1, none⟩ = some (.int .i64 (Um.nearG b)) := by subst hW; go_simp
      refine bodyPost_ret (v := .agg #[.int .i64 (Um.nearS a), .int .i64 (Um.nearG b)]) (by simp [results, Tryz.results82, go_sem, hk0, hk1]) rfl ⟨rfl, ?_⟩
      subst hW
      exact (hB.setCell (by simp) _).setCell (by simp) _

end Go.Proofs.YtapgghciieloaaaGreat

/-
  The walks of layer 4's functions, and of the document's answers for them.
-/
namespace Go.Proofs.YtapgghciieloaaaGreat
set_option maxRecDepth 100000
open Go.RowKit Go.Sort

theorem index_parts0 (a0 a1 : Value) (w : World) : Sem.run Tryz.prog (Instr.index 143 (.agg #[a0, a1]) (.int .i64 0)) w = .ok a0 w := by
  simp [Instr.index, go_sem]

theorem index_parts1 (a0 a1 : Value) (w : World) : Sem.run Tryz.prog (Instr.index 143 (.agg #[a0, a1]) (.int .i64 1)) w = .ok a1 w := by
  simp [Instr.index, go_sem]

attribute [local go_sem] index_row0 index_row1 index_parts0 index_parts1

theorem ret_twoI {a b : Int} {c : Bool} (h : a = b) : Ending.returned (.tuple #[.int .i64 a, .bool c]) = .returned (.tuple #[.int .i64 b, .bool c]) := by rw [h]

set_option maxHeartbeats 400000 in
theorem kGen_any (x : Nat) (w : World) (hx : Um.Word x) :
    Calls Tryz.prog 117 #[.int .u64 x] w fun e w' => e = .returned (.int .i64 (Um.tgN x)) ∧ Below w.heap.size w w' := by
  go_enter Tryz.func117, Tryz.ntmps117
  go_wp2_with fail
  refine (apart_any _ _ hx).mono ?_
  rintro e w1 ⟨rfl, hb1⟩
  go_wp2
  go_ret
  exact ⟨rfl, hb1⟩

set_option maxHeartbeats 1000000 in
theorem kSlot_any (x : Nat) (w : World) (hx : Um.Word x) :
    Calls Tryz.prog 83 #[.int .u64 x] w fun e w' => e = .returned (.tuple #[.int .i64 (Um.svN x), .bool (Um.sok x)]) ∧ Below w.heap.size w w' := by
  have hneq := neqParts (Um.near_sok (x := x))
  cases hok : Um.sok x
  · rw [Um.sv_no hok]
    rw [hok] at hneq
    clear hok
    go_enter Tryz.func83, Tryz.ntmps83
    go_wp2_with fail
    refine (apart_any _ _ hx).mono ?_
    rintro e w1 ⟨rfl, hb1⟩
    go_wp2_with fail
    generalize hW : w1.alloc _ = W
    have hk0 : ∀ d os, (grow (redrawn W d) os).cell? ⟨w1.heap.size, 0, none⟩ = some (.int .i64 (Um.tsN x)) := fun d os => cell_regrown (by subst hW; go_simp) d os
    have hk1 : ∀ d os, (grow (redrawn W d) os).cell? ⟨w1.heap.size, 1, none⟩ = some (.int .i64 0) := fun d os => cell_regrown (by subst hW; go_simp) d os
    have hB : Below w.heap.size w W := by rw [← hW]; exact hb1.alloc hb1.size _
    clear hW
    refine wp_region_quiet_below (by kernel_rfl) (by kernel_rfl) ?_
    repeat (go_big_quiet_step (first | (go_at_call 82; exact Calls.regrown_of (near_any _ _ _))))
    refine wpQuiet_nil ?_
    intro _ hw'
    obtain ⟨⟨dq, osq⟩, hw''⟩ := hw'
    subst hw''
    go_wp2
    go_ret2
    exact ⟨rfl, hB.trans ((below_regrown W dq osq).mono hB.size)⟩
  · rw [Um.sv_yes hok]
    rw [hok] at hneq
    clear hok
    go_enter Tryz.func83, Tryz.ntmps83
    go_wp2_with fail
    refine (apart_any _ _ hx).mono ?_
    rintro e w1 ⟨rfl, hb1⟩
    go_wp2_with fail
    generalize hW : w1.alloc _ = W
    have hk0 : ∀ d os, (grow (redrawn W d) os).cell? ⟨w1.heap.size, 0, none⟩ = some (.int .i64 (Um.tsN x)) := fun d os => cell_regrown (by subst hW; go_simp) d os
    have hk1 : ∀ d os, (grow (redrawn W d) os).cell? ⟨w1.heap.size, 1, none⟩ = some (.int .i64 0) := fun d os => cell_regrown (by subst hW; go_simp) d os
    have hB : Below w.heap.size w W := by rw [← hW]; exact hb1.alloc hb1.size _
    clear hW
    refine wp_region_quiet_below (by kernel_rfl) (by kernel_rfl) ?_
    repeat (go_big_quiet_step (first | (go_at_call 82; exact Calls.regrown_of (near_any _ _ _))))
    refine wpQuiet_nil ?_
    intro _ hw'
    obtain ⟨⟨dq, osq⟩, hw''⟩ := hw'
    subst hw''
    go_wp2
    go_ret2
    exact ⟨rfl, hB.trans ((below_regrown W dq osq).mono hB.size)⟩

set_option maxHeartbeats 1000000 in
theorem kOf_any (x : Nat) (n : Int) (w : World) (hx : Um.Word x) :
    Calls Tryz.prog 43 #[.int .u64 x, .int .i64 n] w fun e w' => e = .returned (.tuple #[.int .i64 (Um.osN x n), .int .i64 (Um.ogN x n), .bool (Um.ook x n)]) ∧ Below w.heap.size w w' := by
  have hneq := neqParts (Um.near_ook (x := x))
  by_cases h1 : 0 ≤ Um.tsN x ∧ Um.tsN x ≤ 11 ∧ Um.tgN x ≤ 1073741823
  · rw [decide_eq_true h1] at hneq
    by_cases h2 : Um.tsN x < n
    · have hok : Um.ook x n = true := Um.ook_iff.2 ⟨h1.1, h1.2.1, h1.2.2, h2⟩
      rw [Um.os_yes hok, Um.og_yes hok, hok]
      clear hok h1
      go_enter Tryz.func43, Tryz.ntmps43
      go_wp2_with fail
      refine (apart_any _ _ hx).mono ?_
      rintro e w1 ⟨rfl, hb1⟩
      go_wp2_with fail
      generalize hW : w1.alloc _ = W
      have hk0 : ∀ d os, (grow (redrawn W d) os).cell? ⟨w1.heap.size, 0, none⟩ = some (.int .i64 (Um.tsN x)) := fun d os => cell_regrown (by subst hW; go_simp) d os
      have hk1 : ∀ d os, (grow (redrawn W d) os).cell? ⟨w1.heap.size, 1, none⟩ = some (.int .i64 (Um.tgN x)) := fun d os => cell_regrown (by subst hW; go_simp) d os
      have hB : Below w.heap.size w W := by rw [← hW]; exact hb1.alloc hb1.size _
      clear hW
      refine wp_region_quiet_below (by kernel_rfl) (by kernel_rfl) ?_
      repeat (go_big_quiet_step (first | (go_at_call 82; exact Calls.regrown_of (near_any _ _ _))))
      refine wpQuiet_nil ?_
      intro _ hw'
      obtain ⟨⟨dq, osq⟩, hw''⟩ := hw'
      subst hw''
      have hB2 := hB.trans ((below_regrown W dq osq).mono hB.size)
      have hk0' := hk0 dq osq
      have hk1' := hk1 dq osq
      clear hk0 hk1
      generalize grow (redrawn W dq) osq = W2 at *
      go_wp2_with fail
      go_quiet (fail)
      go_wp2
      refine bodyPost_ret (v := .tuple #[.int .i64 (Um.tsN x), .int .i64 (Um.tgN x), .bool true]) (by simp [results, Tryz.results43, go_sem]) rfl ⟨rfl, ?_⟩
      exact below_drewN hB2 _
    · have hok : Um.ook x n = false := Um.ook_no.2 (by omega)
      rw [Um.os_no hok, Um.og_no hok, hok]
      have h3 : n ≤ Um.tsN x := by omega
      clear hok h1 h2
      go_enter Tryz.func43, Tryz.ntmps43
      go_wp2_with fail
      refine (apart_any _ _ hx).mono ?_
      rintro e w1 ⟨rfl, hb1⟩
      go_wp2_with fail
      generalize hW : w1.alloc _ = W
      have hk0 : ∀ d os, (grow (redrawn W d) os).cell? ⟨w1.heap.size, 0, none⟩ = some (.int .i64 (Um.tsN x)) := fun d os => cell_regrown (by subst hW; go_simp) d os
      have hk1 : ∀ d os, (grow (redrawn W d) os).cell? ⟨w1.heap.size, 1, none⟩ = some (.int .i64 (Um.tgN x)) := fun d os => cell_regrown (by subst hW; go_simp) d os
      have hB : Below w.heap.size w W := by rw [← hW]; exact hb1.alloc hb1.size _
      clear hW
      refine wp_region_quiet_below (by kernel_rfl) (by kernel_rfl) ?_
      repeat (go_big_quiet_step (first | (go_at_call 82; exact Calls.regrown_of (near_any _ _ _))))
      refine wpQuiet_nil ?_
      intro _ hw'
      obtain ⟨⟨dq, osq⟩, hw''⟩ := hw'
      subst hw''
      have hB2 := hB.trans ((below_regrown W dq osq).mono hB.size)
      have hk0' := hk0 dq osq
      have hk1' := hk1 dq osq
      clear hk0 hk1
      generalize grow (redrawn W dq) osq = W2 at *
      go_wp2
      refine bodyPost_ret (v := .tuple #[.int .i64 0, .int .i64 0, .bool false]) (by simp [results, Tryz.results43, go_sem]) rfl ⟨rfl, ?_⟩
      exact hB2
  · have hok : Um.ook x n = false := Um.ook_no.2 (by omega)
    rw [Um.os_no hok, Um.og_no hok, hok]
    rw [decide_eq_false h1] at hneq
    clear hok h1
    go_enter Tryz.func43, Tryz.ntmps43
    go_wp2_with fail
    refine (apart_any _ _ hx).mono ?_
    rintro e w1 ⟨rfl, hb1⟩
    go_wp2_with fail
    generalize hW : w1.alloc _ = W
    have hk0 : ∀ d os, (grow (redrawn W d) os).cell? ⟨w1.heap.size, 0, none⟩ = some (.int .i64 (Um.tsN x)) := fun d os => cell_regrown (by subst hW; go_simp) d os
    have hk1 : ∀ d os, (grow (redrawn W d) os).cell? ⟨w1.heap.size, 1, none⟩ = some (.int .i64 (Um.tgN x)) := fun d os => cell_regrown (by subst hW; go_simp) d os
    have hB : Below w.heap.size w W := by rw [← hW]; exact hb1.alloc hb1.size _
    clear hW
    refine wp_region_quiet_below (by kernel_rfl) (by kernel_rfl) ?_
    repeat (go_big_quiet_step (first | (go_at_call 82; exact Calls.regrown_of (near_any _ _ _))))
    refine wpQuiet_nil ?_
    intro _ hw'
    obtain ⟨⟨dq, osq⟩, hw''⟩ := hw'
    subst hw''
    have hB2 := hB.trans ((below_regrown W dq osq).mono hB.size)
    have hk0' := hk0 dq osq
    have hk1' := hk1 dq osq
    clear hk0 hk1
    generalize grow (redrawn W dq) osq = W2 at *
    go_wp2
    refine bodyPost_ret (v := .tuple #[.int .i64 0, .int .i64 0, .bool false]) (by simp [results, Tryz.results43, go_sem]) rfl ⟨rfl, ?_⟩
    exact hB2

set_option maxHeartbeats 400000 in
theorem krSlot_any (x : Nat) (w : World) (hx : Um.Word x) :
    Calls Tryz.prog 60 #[.int .u64 x] w fun e w' => e = .returned (.tuple #[.int .i64 (Um.svN x), .bool (Um.sok x)]) ∧ w' = w := by
  unfold Um.Word at hx
  cases hok : Um.sok x
  · rw [Um.sv_no hok]
    have hno := Um.sok_no.1 hok
    unfold Um.tsN at hno
    have HN := hide hno
    clear hok hno
    go_enter Tryz.func60, Tryz.ntmps60
    go_wp2
    all_goals first
      | (go_ret2; exact ⟨rfl, rfl⟩)
      | (exfalso; have h := unhide HN; omega)
  · rw [Um.sv_yes hok]
    have hyes := Um.sok_iff.1 hok
    unfold Um.tsN at hyes
    have HN := hide hyes
    clear hok hyes
    go_enter Tryz.func60, Tryz.ntmps60
    go_wp2
    all_goals first
      | (exfalso; have h := unhide HN; omega)
      | (go_ret2; exact ⟨ret_twoI (by unfold Um.tsN; omega), rfl⟩)

set_option maxHeartbeats 400000 in
theorem krGen_any (x : Nat) (w : World) (hx : Um.Word x) :
    Calls Tryz.prog 61 #[.int .u64 x] w fun e w' => e = .returned (.int .i64 (Um.tgN x)) ∧ w' = w := by
  unfold Um.Word at hx
  go_enter Tryz.func61, Tryz.ntmps61
  go_wp2
  all_goals go_ret
  all_goals refine ⟨ret_i64 ?_, rfl⟩
  all_goals unfold Um.tgN
  all_goals omega

set_option maxHeartbeats 1000000 in
theorem krOf_any (x : Nat) (n : Int) (w : World) (hx : Um.Word x) :
    Calls Tryz.prog 22 #[.int .u64 x, .int .i64 n] w fun e w' => e = .returned (.tuple #[.int .i64 (Um.osN x n), .int .i64 (Um.ogN x n), .bool (Um.ook x n)]) ∧ w' = w := by
  have hb := Um.tg_bd x
  cases hs : Um.sok x
  · have hok : Um.ook x n = false := Um.ook_no.2 (by have := Um.sok_no.1 hs; omega)
    rw [Um.os_no hok, Um.og_no hok, hok]
    have hc := krSlot_any x w hx
    rw [hs] at hc
    clear hok hs
    go_enter Tryz.func22, Tryz.ntmps22
    go_wp2_with fail
    refine hc.mono ?_
    rintro e w1 ⟨rfl, rfl⟩
    go_wp2
    refine bodyPost_ret (v := .tuple #[.int .i64 0, .int .i64 0, .bool false]) (by simp [results, Tryz.results22, go_sem]) rfl ⟨rfl, rfl⟩
  · have hc := krSlot_any x w hx
    rw [hs, Um.sv_yes hs] at hc
    have h1 := Um.sok_iff.1 hs
    clear hs
    by_cases h2 : Um.tsN x < n
    · by_cases h3 : Um.tgN x ≤ 1073741823
      · have hok : Um.ook x n = true := Um.ook_iff.2 ⟨h1.1, h1.2, h3, h2⟩
        rw [Um.os_yes hok, Um.og_yes hok, hok]
        clear hok h1
        go_enter Tryz.func22, Tryz.ntmps22
        go_wp2_with fail
        refine hc.mono ?_
        rintro e w1 ⟨rfl, rfl⟩
        go_wp2_with fail
        refine (krGen_any _ _ hx).mono ?_
        rintro e w1 ⟨rfl, rfl⟩
        go_wp2_with fail
        refine (krGen_any _ _ hx).mono ?_
        rintro e w1 ⟨rfl, rfl⟩
        go_wp2
        refine bodyPost_ret (v := .tuple #[.int .i64 (Um.tsN x), .int .i64 (Um.tgN x), .bool true]) (by simp [results, Tryz.results22, go_sem]) rfl ⟨rfl, rfl⟩
      · have hok : Um.ook x n = false := Um.ook_no.2 (by omega)
        rw [Um.os_no hok, Um.og_no hok, hok]
        have h4 : 1073741823 < Um.tgN x := by omega
        clear hok h1 h3
        go_enter Tryz.func22, Tryz.ntmps22
        go_wp2_with fail
        refine hc.mono ?_
        rintro e w1 ⟨rfl, rfl⟩
        go_wp2_with fail
        refine (krGen_any _ _ hx).mono ?_
        rintro e w1 ⟨rfl, rfl⟩
        go_wp2
        refine bodyPost_ret (v := .tuple #[.int .i64 0, .int .i64 0, .bool false]) (by simp [results, Tryz.results22, go_sem]) rfl ⟨rfl, rfl⟩
    · have hok : Um.ook x n = false := Um.ook_no.2 (by omega)
      rw [Um.os_no hok, Um.og_no hok, hok]
      have h4 : n ≤ Um.tsN x := by omega
      clear hok h1 h2
      go_enter Tryz.func22, Tryz.ntmps22
      go_wp2_with fail
      refine hc.mono ?_
      rintro e w1 ⟨rfl, rfl⟩
      go_wp2
      refine bodyPost_ret (v := .tuple #[.int .i64 0, .int .i64 0, .bool false]) (by simp [results, Tryz.results22, go_sem]) rfl ⟨rfl, rfl⟩

end Go.Proofs.YtapgghciieloaaaGreat

/-
  The document's entering: its slot, whether it is named, done, its error; what is amiss with a status.
-/
namespace Go.Proofs.YtapgghciieloaaaGreat
set_option maxRecDepth 100000
open Go.RowKit Go.Sort

theorem RowOf.below {w w' : World} {la : Option Addr} {nl : Nat} {Z : Nat → Value} (h : RowOf w la nl Z) (b : Below w.heap.size w w') : RowOf w' la nl Z := by
  rcases h with h | ⟨lb, off, e, h1, h2⟩
  · exact .inl h
  · exact .inr ⟨lb, off, e, Nat.lt_of_lt_of_le h1 b.size, fun i hi => (b.cell (p := ⟨lb, off + i, none⟩) h1).trans (h2 i hi)⟩

/-- is a number one of a row's first ones -/
def inZ (Z : Nat → Int) : Nat → Int → Bool
  | 0, _ => false
  | n + 1, x => inZ Z n x || decide (Z n = x)

theorem inZ_true {Z : Nat → Int} {n : Nat} {x : Int} {j : Nat} (hj : j < n) (h : Z j = x) : inZ Z n x = true := by
  induction n with
  | zero => omega
  | succ n ih =>
    show (inZ Z n x || decide (Z n = x)) = true
    by_cases e : j = n
    · rw [← e, decide_eq_true h, Bool.or_true]
    · rw [ih (by omega), Bool.true_or]

end Go.Proofs.YtapgghciieloaaaGreat

/-
  Rows of integers: a copy of one, whether a number is in it.
-/
namespace Go.Proofs.YtapgghciieloaaaGreat
set_option maxRecDepth 100000
open Go.RowKit Go.Sort

/-- a row's cells -/
def rowI (Z : Nat → Int) : Nat → List Value
  | 0 => []
  | n + 1 => rowI Z n ++ [.int .i64 (Z n)]

theorem rowI_len (Z : Nat → Int) (n : Nat) : (rowI Z n).length = n := by
  induction n with
  | zero => rfl
  | succ n ih => simp [rowI, ih]

theorem rowI_get (Z : Nat → Int) (n j : Nat) (h : j < n) : (rowI Z n)[j]? = some (.int .i64 (Z j)) := by
  induction n with
  | zero => omega
  | succ n ih =>
    rw [rowI]
    by_cases e : j = n
    · subst e
      rw [List.getElem?_append_right (by rw [rowI_len]; exact Nat.le_refl _), rowI_len]
      simp
    · rw [List.getElem?_append_left (by rw [rowI_len]; omega)]
      exact ih (by omega)

theorem rowI_mem {Z : Nat → Int} {n : Nat} : ∀ v ∈ rowI Z n, v.oneCell' = true := by
  induction n with
  | zero => simp [rowI]
  | succ n ih =>
    intro v hv
    rw [rowI] at hv
    rcases List.mem_append.1 hv with h | h
    · exact ih v h
    · obtain rfl : v = _ := by simpa using h
      rfl

theorem infoI : (Tryz.prog.info? 3).map (fun i => (i.zero, i.size, i.bytes)) = some (some (.int .i64 0), 1, 8) := by kernel_rfl

theorem blkI_of_own {W : World} {base n : Nat} {e : TypeId} {g cap : Nat} {Z : Nat → Int} (h : W.ownsRow base e 1 (.slice (some ⟨g, 0, none⟩) n cap) n (rowI Z n)) : BlkAt W g (rowI Z n) := by
  rcases h.2 with ⟨h, _⟩ | ⟨g', cap', cur, hv, _, hg, _, _, hsz, hcur⟩
  · cases h
  · simp only [Value.slice.injEq, Option.some.injEq, Addr.mk.injEq] at hv
    obtain ⟨⟨rfl, _, _⟩, _, rfl⟩ := hv
    have hb := blkAt_new hg
    refine ⟨hb.lt, fun j v hj => hb.cell j v ?_, hb.fz⟩
    rw [← hcur] at hj
    exact (List.getElem?_take_of_lt (by have := (List.getElem?_eq_some_iff.1 hj).1; simp at this; omega)).symm.trans hj

/-- of which a block is a row -/
theorem BlkAt.rowOf {W : World} {g n : Nat} {Z : Nat → Int} (h : BlkAt W g (rowI Z n)) : RowOf W (some ⟨g, 0, none⟩) n (fun i => .int .i64 (Z i)) :=
  .inr ⟨g, 0, rfl, h.lt, fun i hi => by rw [Nat.zero_add]; exact h.cell i _ (rowI_get Z n i hi)⟩

theorem wpx_cloneI {ops : Array Oper} {rest : List Oper} {op : Oper} {a : Act} {bs : List Nat} {w w0 : World} {Q : Exit → Act → World → Prop} {l e : List (Nat × List Value)} (hS : Sx bs w0 w l e) (hgd : op.guard = none) (s x : Operand)
    (ho : op.op = .call { callee := .builtin .append, args := #[s, x], argTypes := #[41, 41] }) (z : Addr) (hs : a.eval s = .slice (some z) 0 0)
    (b off m c : Nat) (hx : a.eval x = .slice (some ⟨b, off, none⟩) m c) (Z : Nat → Int) (hI : ∀ j, j < m → w.cell? ⟨b, off + j, none⟩ = some (.int .i64 (Z j))) (hm : 0 < m) (hb : m * 8 ≤ 140737488355328)
    (h : ∀ g cap w', Sx bs w0 w' (l ++ [(g, rowI Z m)]) e → wpList Tryz.prog ops Q rest (a.put op.dst (.slice (some ⟨g, 0, none⟩) m cap)) w') : wpList Tryz.prog ops Q (op :: rest) a w := by
  obtain ⟨i0, hi, hz0, hz1, hz2⟩ := info_parts infoI
  refine wpList_step fun K hK => ?_
  refine step_append_grows hgd s x 41 ho 3 i0 (.int .i64 0) 1 8 Tryz.underlying41 hi hz0 hz1 hz2 rfl (by decide) (some z) 0 0 [] hs (fun e => by cases e) rfl (fun _ _ j u e => by cases e) ⟨b, off, none⟩ m c (rowI Z m) hx (by rw [rowI_len, Nat.mul_one]) ?_ rowI_mem (by omega) (by unfold maxLen; omega) (by omega) ?_
  · intro j u hu
    have hj : j < m := by have := (List.getElem?_eq_some_iff.1 hu).1; rwa [rowI_len] at this
    rw [rowI_get Z m j hj] at hu
    rw [← hu, Addr.add_lit]
    exact hI j hj
  · intro v' w' hown hgrow
    simp only [Nat.zero_add, List.nil_append] at hown
    obtain ⟨g, cap, rfl, hg1, hg2⟩ := hown.form (by omega)
    exact hK _ _ (h g cap w' (hS.add ((Below.refl _ _).grown hgrow (Nat.le_refl _) (fun k e => by cases e)) (blkI_of_own hown) hg1))

theorem wpx_emptyI {ops : Array Oper} {rest : List Oper} {op : Oper} {a : Act} {bs : List Nat} {w w0 : World} {Q : Exit → Act → World → Prop} {l e : List (Nat × List Value)} (hS : Sx bs w0 w l e) (hw : Region.wanted op (yielded ops a.tmps) = true)
    (ho : op.op = .buildSlice 41 0 #[]) (h : ∀ b w', Sx bs w0 w' l e → wpList Tryz.prog ops Q rest (a.put op.dst (.slice (some ⟨b, 0, none⟩) 0 0)) w') : wpList Tryz.prog ops Q (op :: rest) a w := by
  refine BigFrame.wpList_want hw fun K hK => ?_
  have e : (execOp a.eval op).run Tryz.prog w = .ok (.value (.slice (some ⟨w.heap.size, 0, none⟩) 0 0)) (w.alloc (.cells #[] 3)) := by
    unfold execOp
    rw [ho]
    go_simp
  unfold Oper.wp
  rw [e]
  exact hK _ _ (h _ _ (hS.call ((Below.refl _ _).alloc (Nat.le_refl _) _)))

theorem wpx_clone0 {ops : Array Oper} {rest : List Oper} {op : Oper} {a : Act} {bs : List Nat} {w w0 : World} {Q : Exit → Act → World → Prop} {l e : List (Nat × List Value)} (hS : Sx bs w0 w l e) (hgd : op.guard = none) (s x : Operand)
    (ho : op.op = .call { callee := .builtin .append, args := #[s, x], argTypes := #[41, 41] }) (hs : a.eval s = .slice (some ⟨w.heap.size, 0, none⟩) 0 0)
    (ad : Addr) (c : Nat) (hx : a.eval x = .slice (some ad) 0 c)
    (h : ∀ la cl w', Sx bs w0 w' l e → wpList Tryz.prog ops Q rest (a.put op.dst (.slice la 0 cl)) w') : wpList Tryz.prog ops Q (op :: rest) a (w.alloc (.cells #[] 3)) := by
  obtain ⟨i0, hi, hz0, hz1, hz2⟩ := info_parts infoI
  have hown : (w.alloc (.cells #[] 3)).ownsRow w.heap.size 3 1 (.slice (some ⟨w.heap.size, 0, none⟩) 0 0) 0 [] :=
    ⟨rfl, .inr ⟨w.heap.size, 0, #[], rfl, Nat.le_refl _, heap_alloc_new _ _, Nat.le_refl _, by unfold maxLen; omega, rfl, rfl⟩⟩
  refine wpList_append_own _ hgd s x 41 ho w.heap.size 3 i0 (.int .i64 0) 1 8 Tryz.underlying41 hi hz0 hz1 hz2 rfl (by decide) _ 0 [] hs hown ad 0 c [] hx rfl (fun j u e => by cases e) (fun u e => by cases e) (by unfold maxLen; omega) (by omega) (by simp) ?_
  intro v' w' hown' hgrow _
  have hS' : Sx bs w0 w' l e := hS.call (((Below.refl w.heap.size w).alloc (Nat.le_refl _) (.cells #[] 3)).grown hgrow (by simp) (fun k e => by
    simp [Value.ownBlock] at e
    omega))
  simp only [Nat.add_zero, List.nil_append] at hown'
  rcases hown'.2 with ⟨hv, _⟩ | ⟨g', cap', cur, hv, _⟩
  · subst hv
    exact h _ _ w' hS'
  · subst hv
    exact h _ _ w' hS'

theorem eqSlN (w : World) : (binOp .eql 41 (.slice none 0 0) (.slice none 0 0)).run Tryz.prog w = .ok (.bool true) w := by kernel_rfl
theorem eqSlS (ad : Addr) (n c : Nat) (w : World) : (binOp .eql 41 (.slice (some ad) n c) (.slice none 0 0)).run Tryz.prog w = .ok (.bool false) w := by kernel_rfl

set_option maxHeartbeats 1000000 in
theorem gClone_pos (w : World) (b off nl cl : Nat) (Z : Nat → Int) (hI : ∀ j, j < nl → w.cell? ⟨b, off + j, none⟩ = some (.int .i64 (Z j))) (hm : 0 < nl) (hb : nl * 8 ≤ 140737488355328) (hlt : b < w.heap.size) :
    Calls Tryz.prog 84 #[.slice (some ⟨b, off, none⟩) nl cl] w fun r w' => ∃ G cg, r = .returned (.slice (some ⟨G, 0, none⟩) nl cg) ∧ Sx [] w w' [(G, rowI Z nl)] [] := by
  have hS := Sx.new w
  have hE := eqSlS ⟨b, off, none⟩ nl cl
  have HI := hide hI
  clear hI
  go_enter Tryz.func84, Tryz.ntmps84
  go_wp2_with (first | (refine wpx_emptyI hS rfl rfl ?_; clear hS; intro _ _ hS) | (refine wpx_cloneI hS rfl _ _ rfl _ rfl _ _ _ _ rfl Z (fun j hj => (hS.bel.cell (p := ⟨b, off + j, none⟩) hlt).trans ((unhide HI) j hj)) hm hb ?_; clear hS; intro _ _ _ hS))
  go_ret
  exact ⟨_, _, rfl, hS⟩

set_option maxHeartbeats 1000000 in
theorem gClone_zero (w : World) (ad : Addr) (cl : Nat) :
    Calls Tryz.prog 84 #[.slice (some ad) 0 cl] w fun r w' => ∃ la cg, r = .returned (.slice la 0 cg) ∧ Below w.heap.size w w' := by
  have hS := Sx.new w
  have hE := eqSlS ad 0 cl
  go_enter Tryz.func84, Tryz.ntmps84
  go_wp2_with (first | (refine wpx_clone0 hS rfl _ _ rfl rfl _ _ rfl ?_; clear hS; intro _ _ _ hS))
  go_ret
  exact ⟨_, _, rfl, hS.bel⟩

set_option maxHeartbeats 1000000 in
theorem gClone_nil (w : World) :
    Calls Tryz.prog 84 #[.slice none 0 0] w fun r w' => r = .returned (.slice none 0 0) ∧ w' = w := by
  have hE := eqSlN
  go_enter Tryz.func84, Tryz.ntmps84
  go_wp2
  go_ret
  exact ⟨rfl, rfl⟩

/-- a row of states: in a block that is only read -/
def StB (la : Option Addr) (nl : Nat) (Z : Nat → Int) (e : List (Nat × List Value)) : Prop := nl = 0 ∨ ∃ G, la = some ⟨G, 0, none⟩ ∧ (G, rowI Z nl) ∈ e

theorem StB.row {bs : List Nat} {w0 w : World} {l e : List (Nat × List Value)} {la : Option Addr} {nl : Nat} {Z : Nat → Int} (h : StB la nl Z e) (hS : Sx bs w0 w l e) : RowOf w la nl (fun i => .int .i64 (Z i)) := by
  rcases h with h | ⟨G, rfl, hG⟩
  · exact .inl h
  · exact (hS.eb _ hG).rowOf

theorem StB.mono {e e' : List (Nat × List Value)} {la : Option Addr} {nl : Nat} {Z : Nat → Int} (h : StB la nl Z e) (hs : ∀ p ∈ e, p ∈ e') : StB la nl Z e' := by
  rcases h with h | ⟨G, rfl, hG⟩
  · exact .inl h
  · exact .inr ⟨G, rfl, hs _ hG⟩

/-- the states that a caller tells: their slice, their cells -/
structure Told (w : World) (la : Option Addr) (nl cl : Nat) (Z : Nat → Int) : Prop where
  row : RowOf w la nl (fun i => .int .i64 (Z i))
  no : la = none → nl = 0 ∧ cl = 0
  sz : nl * 8 ≤ 140737488355328

theorem Told.below {w w' : World} {la : Option Addr} {nl cl : Nat} {Z : Nat → Int} (h : Told w la nl cl Z) (b : Below w.heap.size w w') : Told w' la nl cl Z := ⟨h.row.below b, h.no, h.sz⟩

/-- a copy: nothing, or a new block -/
theorem gClone_x {bs : List Nat} {w0 w : World} {l e : List (Nat × List Value)} (hS : Sx bs w0 w l e) {la : Option Addr} {nl cl : Nat} {Z : Nat → Int} (hT : Told w la nl cl Z) :
    Calls Tryz.prog 84 #[.slice la nl cl] w fun r w' => ∃ la' cg sb, r = .returned (.slice la' nl cg) ∧ StB la' nl Z sb ∧ (∀ p ∈ sb, w.heap.size ≤ p.1) ∧ Sx bs w0 w' l (e ++ sb) := by
  obtain ⟨hZ, hno, hb⟩ := hT
  by_cases h0 : nl = 0
  · subst h0
    cases la with
    | none =>
      obtain ⟨_, rfl⟩ := hno rfl
      refine (gClone_nil w).mono ?_
      rintro r w' ⟨rfl, rfl⟩
      exact ⟨_, _, [], rfl, .inl rfl, by simp, by rw [List.append_nil]; exact hS⟩
    | some ad =>
      refine (gClone_zero w ad cl).mono ?_
      rintro r w' ⟨la', cg, rfl, hb'⟩
      exact ⟨_, _, [], rfl, .inl rfl, by simp, by rw [List.append_nil]; exact hS.call hb'⟩
  · obtain ⟨lb, lo, rfl, hlb, hc⟩ := hZ.resolve_left h0
    refine (gClone_pos w lb lo nl cl Z hc (by omega) hb hlb).mono ?_
    rintro r w' ⟨G, cg, rfl, hS2⟩
    have hG := (hS2.low _ (List.mem_of_getElem? (i := 0) rfl)).resolve_left (by simp)
    refine ⟨_, _, [(G, rowI Z nl)], rfl, .inr ⟨G, rfl, by simp⟩, fun p hp => ?_, hS.addE hS2.bel (hS2.get 0 rfl) hG⟩
    obtain rfl : p = _ := by simpa using hp
    exact hG

set_option maxHeartbeats 2000000 in
theorem gIndex_any (la : Option Addr) (nl cl : Nat) (Z : Nat → Int) (x : Int) (w : World) (hb : nl ≤ 50) (hZ : RowOf w la nl (fun i => .int .i64 (Z i))) : Calls Tryz.prog 128 #[.slice la nl cl, .int .i64 x] w fun r w' => ∃ v : Int, r = .returned (.int .i64 v) ∧ ((inZ Z nl x = true ∧ 0 ≤ v) ∨ (inZ Z nl x = false ∧ v = -1)) ∧ w' = w := by
  have HZ := hide hZ
  clear hZ
  go_enter Tryz.func128, Tryz.ntmps128
  go_wp2
  go_loopw [8] (fun i wr => ∃ j : Nat, j ≤ nl ∧ i = .int .i64 j ∧ wr = w ∧ Hid (inZ Z j x = false)) (fun i _ => nl - (intOf i).toNat)
  case atStart => exact ⟨0, Nat.zero_le _, rfl, (by first | rfl | trivial), hide rfl⟩
  case round =>
    obtain ⟨j, hj, rfl, hwr, HJ⟩ := hrel
    have hwr2 := hwr.symm
    clear hwr
    subst hwr2
    by_cases hlt : j < nl
    · have hlti : (j : Int) < (nl : Int) := by omega
      obtain ⟨lb, lo, hla, hlb, hlc⟩ := (unhide HZ).resolve_left (by omega)
      subst hla
      have q9 : w.cell? ⟨lb, lo + j, none⟩ = some (.int .i64 (Z j)) := hlc j hlt
      clear hlc
      by_cases hx : Z j = x
      · have HT := hide (inZ_true hlt hx)
        rw [hx] at q9
        clear hx
        go_wp2
        go_ret
        exact ⟨_, rfl, .inl ⟨unhide HT, by omega⟩, rfl⟩
      · have hx2 : (x == Z j) = false := by simpa using fun q : x = Z j => hx q.symm
        have hx3 : ¬ x = Z j := fun q => hx q.symm
        have HF := hide (show inZ Z (j + 1) x = false by
          show (inZ Z j x || decide (Z j = x)) = false
          rw [unhide HJ, decide_eq_false hx]
          rfl)
        clear hx
        go_wp2
        exact ⟨⟨j + 1, by omega, by go_num, (by first | rfl | trivial), HF⟩, by simp [intOf]; omega⟩
    · have hge : ¬ (j : Int) < (nl : Int) := by omega
      obtain rfl : j = nl := by omega
      go_wp2
      go_ret
      exact ⟨_, rfl, .inr ⟨unhide HJ, rfl⟩, rfl⟩

set_option maxHeartbeats 1000000 in
theorem gContains_any (la : Option Addr) (nl cl : Nat) (Z : Nat → Int) (x : Int) (w : World) (hb : nl ≤ 50) (hZ : RowOf w la nl (fun i => .int .i64 (Z i))) : Calls Tryz.prog 118 #[.slice la nl cl, .int .i64 x] w fun r w' => r = .returned (.bool (inZ Z nl x)) ∧ w' = w := by
  have HC := hide (gIndex_any la nl cl Z x w hb hZ)
  clear hZ
  go_enter Tryz.func118, Tryz.ntmps118
  go_wp2_with fail
  refine (unhide HC).mono ?_
  rintro r u ⟨v, rfl, hv, rfl⟩
  clear HC
  rcases hv with ⟨h1, h2⟩ | ⟨h1, h2⟩
  · have H1 := hide h1
    clear h1
    have hd : decide (0 ≤ v) = true := decide_eq_true h2
    go_wp2
    go_ret
    exact ⟨by rw [unhide H1]; rfl, rfl⟩
  · have H1 := hide h1
    subst h2
    clear h1
    go_wp2
    go_ret
    exact ⟨by rw [unhide H1]; rfl, rfl⟩

end Go.Proofs.YtapgghciieloaaaGreat
