/-
  Texts that the laws stand on, merged (GateMath, GateMath2, GateMath3, BlkT2, TallyA, WalkB, WalkC, Eq).
-/
import Derived.Test.YticaieghapjpkaaM1
import Derived.Test.YticaieghapjpkaaM3
import Derived.Test.YticaieghapjpkaaM4
import Derived.Deep.RegionWith
import Derived.Lib.QuietBelow
import Derived.WalkSmall

/-
  Plain arithmetic of layer 10: a call that enters, one that leaves. No Go in sight.
-/
namespace Um
set_option maxRecDepth 100000

/-- a status, busy -/
def bzN (s : Nat) : Nat := setN s 26 true

/-- what is amiss with a status, of a ticket and states -/
def flN (h : Nat) (inn : Nat → Bool) (s : Nat) : Int :=
  if ((gnN s : Nat) : Int) ≠ tgN h ∨ stN s = 0 ∨ stN s = 1 then 2 else if s.testBit 26 then 3 else if inn (stN s) then 0 else 4

/-- an entering over a memory: is its next step a swap, what it looked at, what it laid, its error, has it ended -/
structure Es where
  m : Mm
  tk : Bool
  s : Nat
  w : Nat
  e : Int
  en : Bool

/-- is it done -/
def edn (c : Cf) (h : Nat) (o : Es) : Bool := o.en || !ook h c.s

/-- what it tells -/
def eer (c : Cf) (h : Nat) (o : Es) : Int := if ook h c.s then o.e else 2

def estep (c : Cf) (h : Nat) (inn : Nat → Bool) (o : Es) : Es :=
  if edn c h o = true then o
  else if o.tk = true then
    ⟨mtouch c o.m 3 4 (svN h) o.s (bzN o.s), false, o.s, if (mtouch c o.m 3 4 (svN h) o.s (bzN o.s)).l.done then bzN o.s else o.w, o.e, (mtouch c o.m 3 4 (svN h) o.s (bzN o.s)).l.done⟩
  else
    ⟨mtouch c o.m 1 4 (svN h) 0 0, decide (flN h inn (mtouch c o.m 1 4 (svN h) 0 0).l.old = 0), (mtouch c o.m 1 4 (svN h) 0 0).l.old, o.w, flN h inn (mtouch c o.m 1 4 (svN h) 0 0).l.old, !decide (flN h inn (mtouch c o.m 1 4 (svN h) 0 0).l.old = 0)⟩

def eit (c : Cf) (h : Nat) (inn : Nat → Bool) (o : Es) : Nat → Es
  | 0 => o
  | k + 1 => estep c h inn (eit c h inn o k)

def enew (m : Mm) : Es := ⟨m, false, 0, 0, 0, false⟩

/-- words -/
structure Eok (c : Cf) (o : Es) : Prop where
  wd : ∀ i, i < c.n → Word (o.m.ws i)
  s : Word o.s
  w : Word o.w
  en : o.en = true → o.tk = false

theorem bz_word {s : Nat} (h : Word s) : Word (bzN s) := h.setN (by decide)

theorem enew_ok {c : Cf} {m : Mm} (h : ∀ i, i < c.n → Word (m.ws i)) : Eok c (enew m) := ⟨h, zero_word, zero_word, fun _ => rfl⟩

theorem estep_ok {c : Cf} {h : Nat} {inn : Nat → Bool} {o : Es} (ho : Eok c o) : Eok c (estep c h inn o) := by
  unfold estep
  split
  · exact ho
  split
  · refine ⟨word_touch ho.wd (bz_word ho.s), ho.s, ?_, fun _ => rfl⟩
    show Word (if _ then _ else _)
    split
    · exact bz_word ho.s
    · exact ho.w
  · refine ⟨word_touch ho.wd zero_word, old_word ho.wd, ho.w, fun q => ?_⟩
    have q' : (!decide (flN h inn (mtouch c o.m 1 4 (svN h) 0 0).l.old = 0)) = true := q
    show decide _ = false
    cases hd : decide (flN h inn (mtouch c o.m 1 4 (svN h) 0 0).l.old = 0)
    · rfl
    · rw [hd] at q'; cases q'

theorem eit_ok {c : Cf} {h : Nat} {inn : Nat → Bool} {o : Es} (ho : Eok c o) (k : Nat) : Eok c (eit c h inn o k) := by
  induction k with
  | zero => exact ho
  | succ k ih => exact estep_ok ih

theorem estep_done {c : Cf} {h : Nat} {inn : Nat → Bool} {o : Es} (hd : edn c h o = true) : estep c h inn o = o := by
  unfold estep
  rw [if_pos hd]

theorem eit_done {c : Cf} {h : Nat} {inn : Nat → Bool} {o : Es} {q : Nat} (hd : edn c h (eit c h inn o q) = true) {k : Nat} (hk : q ≤ k) : eit c h inn o k = eit c h inn o q := by
  obtain ⟨d, rfl⟩ : ∃ d, k = q + d := ⟨k - q, by omega⟩
  clear hk
  induction d with
  | zero => rfl
  | succ d ih =>
    show estep c h inn (eit c h inn o (q + d)) = _
    rw [ih]
    exact estep_done hd

/-- what a ticket that is named says of its slot -/
theorem ook_facts {h : Nat} {n : Int} (ho : ook h n = true) : 0 ≤ svN h ∧ svN h < n ∧ svN h = tsN h := by
  have hq := of_decide_eq_true ho
  have hs : sok h = true := decide_eq_true ⟨hq.1, hq.2.1⟩
  rw [sv_yes hs]
  exact ⟨hq.1, hq.2.2.2, rfl⟩

theorem sv_range (h : Nat) : 0 ≤ svN h ∧ svN h ≤ 11 := by
  unfold svN
  split
  · rename_i e
    have := of_decide_eq_true e
    omega
  · omega

/-- the first step: a look -/
theorem estep_look {c : Cf} (hr : c.r = true) {h : Nat} {inn : Nat → Bool} {o : Es} (hn : ook h c.s = true) (h1 : o.en = false) (h2 : o.tk = false) :
    estep c h inn o = ⟨mtouch c o.m 1 4 (svN h) 0 0, decide (flN h inn (o.m.ws (c.cl 4 (svN h)).toNat) = 0), o.m.ws (c.cl 4 (svN h)).toNat, o.w, flN h inn (o.m.ws (c.cl 4 (svN h)).toNat), !decide (flN h inn (o.m.ws (c.cl 4 (svN h)).toNat) = 0)⟩ := by
  obtain ⟨f0, f1, _⟩ := ook_facts hn
  have hc := (sl_cells hr f0 f1).1
  have hold : (mtouch c o.m 1 4 (svN h) 0 0).l.old = o.m.ws (c.cl 4 (svN h)).toNat := by rw [load_old, if_pos (by omega)]
  unfold estep edn
  rw [if_neg (by rw [h1, hn]; decide), if_neg (by rw [h2]; decide), hold]

/-- the second one: a swap -/
theorem estep_take {c : Cf} (hr : c.r = true) {h : Nat} {inn : Nat → Bool} {o : Es} (hn : ook h c.s = true) (h1 : o.en = false) (h2 : o.tk = true) :
    estep c h inn o = ⟨mtouch c o.m 3 4 (svN h) o.s (bzN o.s), false, o.s, if o.m.ws (c.cl 4 (svN h)).toNat = o.s then bzN o.s else o.w, o.e, decide (o.m.ws (c.cl 4 (svN h)).toNat = o.s)⟩ := by
  obtain ⟨f0, f1, _⟩ := ook_facts hn
  have hc := (sl_cells hr f0 f1).1
  have hd : (mtouch c o.m 3 4 (svN h) o.s (bzN o.s)).l.done = decide (o.m.ws (c.cl 4 (svN h)).toNat = o.s) := by
    rw [swap_done]
    by_cases e : o.m.ws (c.cl 4 (svN h)).toNat = o.s
    · rw [decide_eq_true e, decide_eq_true ⟨by omega, e⟩]
    · rw [decide_eq_false e, decide_eq_false (fun q => e q.2)]
  unfold estep edn
  rw [if_neg (by rw [h1, hn]; decide), if_pos h2, hd]
  by_cases e : o.m.ws (c.cl 4 (svN h)).toNat = o.s
  · rw [decide_eq_true e, if_pos rfl, if_pos e]
  · rw [decide_eq_false e, if_neg (by decide), if_neg e]

/-- alone, with something amiss: a step, nothing is changed -/
theorem alone_amiss {c : Cf} (hr : c.r = true) {h : Nat} {inn : Nat → Bool} (m : Mm) (hn : ook h c.s = true) (hf : flN h inn (m.ws (c.cl 4 (svN h)).toNat) ≠ 0) {k : Nat} (hk : 1 ≤ k) (A : Es) (hA : A = eit c h inn (enew m) k) :
    A.en = true ∧ A.e = flN h inn (m.ws (c.cl 4 (svN h)).toNat) ∧ A.w = 0 ∧ A.m.ws = m.ws := by
  have h1 : eit c h inn (enew m) 1 = _ := estep_look hr (inn := inn) (o := enew m) hn rfl rfl
  have hen : (eit c h inn (enew m) 1).en = true := by
    rw [h1]
    show (!decide (flN h inn (m.ws (c.cl 4 (svN h)).toNat) = 0)) = true
    rw [decide_eq_false hf]
    rfl
  have hd : edn c h (eit c h inn (enew m) 1) = true := by unfold edn; rw [hen]; rfl
  rw [hA, eit_done hd hk]
  refine ⟨hen, ?_, ?_, ?_⟩
  · rw [h1]; rfl
  · rw [h1]; rfl
  · rw [h1]; exact load_ws c m 4 (svN h)

/-- alone, with nothing amiss: two steps, its slot is busy -/
theorem alone_enters {c : Cf} (hr : c.r = true) {h : Nat} {inn : Nat → Bool} (m : Mm) (hn : ook h c.s = true) (hf : flN h inn (m.ws (c.cl 4 (svN h)).toNat) = 0) {k : Nat} (hk : 2 ≤ k) (A : Es) (hA : A = eit c h inn (enew m) k) :
    A.en = true ∧ A.e = 0 ∧ A.w = bzN (m.ws (c.cl 4 (svN h)).toNat) ∧ (∀ i : Nat, A.m.ws i = if (i : Int) = c.cl 4 (svN h) then bzN (m.ws i) else m.ws i) ∧ edn c h (eit c h inn (enew m) 1) = false := by
  obtain ⟨f0, f1, _⟩ := ook_facts hn
  have hc := (sl_cells hr f0 f1).1
  have h1 : eit c h inn (enew m) 1 = _ := estep_look hr (inn := inn) (o := enew m) hn rfl rfl
  have hen : (eit c h inn (enew m) 1).en = false := by
    rw [h1]
    show (!decide (flN h inn (m.ws (c.cl 4 (svN h)).toNat) = 0)) = false
    rw [decide_eq_true hf]
    rfl
  have htk : (eit c h inn (enew m) 1).tk = true := by rw [h1]; exact decide_eq_true hf
  have hm1 : (eit c h inn (enew m) 1).m.ws = m.ws := by rw [h1]; exact load_ws c m 4 (svN h)
  have hs1 : (eit c h inn (enew m) 1).s = m.ws (c.cl 4 (svN h)).toNat := by rw [h1]; rfl
  have he1 : (eit c h inn (enew m) 1).e = 0 := by rw [h1]; exact hf
  have h2 : eit c h inn (enew m) 2 = _ := estep_take hr (inn := inn) (o := eit c h inn (enew m) 1) hn hen htk
  have heq : (eit c h inn (enew m) 1).m.ws (c.cl 4 (svN h)).toNat = (eit c h inn (enew m) 1).s := by rw [hm1, hs1]
  have hen2 : (eit c h inn (enew m) 2).en = true := by rw [h2]; exact decide_eq_true heq
  have hd : edn c h (eit c h inn (enew m) 2) = true := by unfold edn; rw [hen2]; rfl
  rw [hA, eit_done hd hk]
  refine ⟨hen2, ?_, ?_, fun i => ?_, ?_⟩
  · rw [h2]; exact he1
  · rw [h2]
    show (if _ then _ else _) = _
    rw [if_pos heq, hs1]
  · rw [h2]
    show (mtouch c _ 3 4 (svN h) _ _).ws i = _
    rw [swap_ws, hm1, hs1]
    by_cases e : (i : Int) = c.cl 4 (svN h)
    · have ei : i = (c.cl 4 (svN h)).toNat := by omega
      rw [if_pos ⟨e, by rw [ei]⟩, if_pos e, ei]
    · rw [if_neg (fun q => e q.1), if_neg e]
  · unfold edn
    rw [hen, hn]
    rfl

/-- a leaving over a memory: has it looked, at what, is it done -/
structure Ls where
  m : Mm
  lk : Bool
  s : Nat
  dn : Bool

/-- the state that is laid -/
def lst (st : Int) (s : Nat) : Nat := if st < 0 ∨ 7 < st then stN s else st.toNat

def lstep (c : Cf) (sl st : Int) (o : Ls) : Ls :=
  if o.dn = true then o
  else if o.lk = false then ⟨mtouch c o.m 1 4 sl 0 0, true, (mtouch c o.m 1 4 sl 0 0).l.old, false⟩
  else ⟨mtouch c o.m 3 4 sl o.s (moveN o.s (lst st o.s) false), false, o.s, (mtouch c o.m 3 4 sl o.s (moveN o.s (lst st o.s) false)).l.done⟩

def lit10 (c : Cf) (sl st : Int) (o : Ls) : Nat → Ls
  | 0 => o
  | k + 1 => lstep c sl st (lit10 c sl st o k)

def lnew (m : Mm) : Ls := ⟨m, false, 0, false⟩

structure Lok (c : Cf) (o : Ls) : Prop where
  wd : ∀ i, i < c.n → Word (o.m.ws i)
  s : Word o.s

theorem lst_lt (st : Int) (s : Nat) : lst st s < 8 := by
  unfold lst
  split
  · exact part_lt s 27 3
  · omega

theorem lnew_ok {c : Cf} {m : Mm} (h : ∀ i, i < c.n → Word (m.ws i)) : Lok c (lnew m) := ⟨h, zero_word⟩

theorem lstep_ok {c : Cf} {sl st : Int} {o : Ls} (ho : Lok c o) : Lok c (lstep c sl st o) := by
  unfold lstep
  split
  · exact ho
  split
  · exact ⟨word_touch ho.wd zero_word, old_word ho.wd⟩
  · exact ⟨word_touch ho.wd (move_word ho.s (lst_lt _ _)), ho.s⟩

theorem lit_ok {c : Cf} {sl st : Int} {o : Ls} (ho : Lok c o) (k : Nat) : Lok c (lit10 c sl st o k) := by
  induction k with
  | zero => exact ho
  | succ k ih => exact lstep_ok ih

theorem lstep_done {c : Cf} {sl st : Int} {o : Ls} (hd : o.dn = true) : lstep c sl st o = o := by
  unfold lstep
  rw [if_pos hd]

theorem lit_done {c : Cf} {sl st : Int} {o : Ls} {q : Nat} (hd : (lit10 c sl st o q).dn = true) {k : Nat} (hk : q ≤ k) : lit10 c sl st o k = lit10 c sl st o q := by
  obtain ⟨d, rfl⟩ : ∃ d, k = q + d := ⟨k - q, by omega⟩
  clear hk
  induction d with
  | zero => rfl
  | succ d ih =>
    show lstep c sl st (lit10 c sl st o (q + d)) = _
    rw [ih]
    exact lstep_done hd

theorem lstep_look {c : Cf} (hr : c.r = true) {sl st : Int} {o : Ls} (h0 : 0 ≤ sl) (h1 : sl < c.s) (h2 : o.dn = false) (h3 : o.lk = false) :
    lstep c sl st o = ⟨mtouch c o.m 1 4 sl 0 0, true, o.m.ws (c.cl 4 sl).toNat, false⟩ := by
  have hc := (sl_cells hr h0 h1).1
  have hold : (mtouch c o.m 1 4 sl 0 0).l.old = o.m.ws (c.cl 4 sl).toNat := by rw [load_old, if_pos (by omega)]
  unfold lstep
  rw [if_neg (by rw [h2]; decide), if_pos h3, hold]

theorem lstep_lay {c : Cf} (hr : c.r = true) {sl st : Int} {o : Ls} (h0 : 0 ≤ sl) (h1 : sl < c.s) (h2 : o.dn = false) (h3 : o.lk = true) :
    lstep c sl st o = ⟨mtouch c o.m 3 4 sl o.s (moveN o.s (lst st o.s) false), false, o.s, decide (o.m.ws (c.cl 4 sl).toNat = o.s)⟩ := by
  have hc := (sl_cells hr h0 h1).1
  have hd : (mtouch c o.m 3 4 sl o.s (moveN o.s (lst st o.s) false)).l.done = decide (o.m.ws (c.cl 4 sl).toNat = o.s) := by
    rw [swap_done]
    by_cases e : o.m.ws (c.cl 4 sl).toNat = o.s
    · rw [decide_eq_true e, decide_eq_true ⟨by omega, e⟩]
    · rw [decide_eq_false e, decide_eq_false (fun q => e q.2)]
  unfold lstep
  rw [if_neg (by rw [h2]; decide), if_neg (by rw [h3]; decide), hd]

/-- alone: two steps, and it has left -/
theorem alone_leaves {c : Cf} (hr : c.r = true) {sl st : Int} (h0 : 0 ≤ sl) (h1 : sl < c.s) (m : Mm) {k : Nat} (hk : 2 ≤ k) (A : Ls) (hA : A = lit10 c sl st (lnew m) k) :
    A.dn = true ∧ (∀ i : Nat, A.m.ws i = if (i : Int) = c.cl 4 sl then moveN (m.ws i) (lst st (m.ws i)) false else m.ws i) ∧ (lit10 c sl st (lnew m) 0).dn = false ∧ (lit10 c sl st (lnew m) 1).dn = false := by
  have hc := (sl_cells hr h0 h1).1
  have e1 : lit10 c sl st (lnew m) 1 = _ := lstep_look hr (st := st) (o := lnew m) h0 h1 rfl rfl
  have hm1 : (lit10 c sl st (lnew m) 1).m.ws = m.ws := by rw [e1]; exact load_ws c m 4 sl
  have hs1 : (lit10 c sl st (lnew m) 1).s = m.ws (c.cl 4 sl).toNat := by rw [e1]; rfl
  have hd1 : (lit10 c sl st (lnew m) 1).dn = false := by rw [e1]
  have e2 : lit10 c sl st (lnew m) 2 = _ := lstep_lay hr (st := st) (o := lit10 c sl st (lnew m) 1) h0 h1 hd1 (by rw [e1])
  have hd2 : (lit10 c sl st (lnew m) 2).dn = true := by rw [e2]; exact decide_eq_true (by rw [hm1, hs1])
  rw [hA, lit_done hd2 hk]
  refine ⟨hd2, fun i => ?_, rfl, hd1⟩
  rw [e2]
  show (mtouch c _ 3 4 sl _ _).ws i = _
  rw [swap_ws, hm1, hs1]
  by_cases e : (i : Int) = c.cl 4 sl
  · have ei : i = (c.cl 4 sl).toNat := by omega
    rw [if_pos ⟨e, by rw [ei]⟩, if_pos e, ei]
  · rw [if_neg (fun q => e q.1), if_neg e]

end Um

/-
  Plain arithmetic of layer 10: two that enter at once; conflicts that are laid meanwhile. No Go in sight.
-/
namespace Um
set_option maxRecDepth 100000

/-- another memory -/
def setE (m : Mm) (o : Es) : Es := ⟨m, o.tk, o.s, o.w, o.e, o.en⟩
def setLs (m : Mm) (o : Ls) : Ls := ⟨m, o.lk, o.s, o.dn⟩

def EokW (c : Cf) (o : Es) : Prop := ∀ m : Mm, (∀ i, i < c.n → Word (m.ws i)) → Eok c (setE m o)
def LokW (c : Cf) (o : Ls) : Prop := ∀ m : Mm, (∀ i, i < c.n → Word (m.ws i)) → Lok c (setLs m o)

theorem Eok.okw {c : Cf} {o : Es} (h : Eok c o) : EokW c o := fun _ hm => ⟨hm, h.s, h.w, h.en⟩
theorem Lok.okw {c : Cf} {o : Ls} (h : Lok c o) : LokW c o := fun _ hm => ⟨hm, h.s⟩

/-- an active status, and it busy -/
def actW : Nat := 268435456
def busW : Nat := bzN actW

theorem w_facts : gnN actW = 0 ∧ stN actW = 2 ∧ actW.testBit 26 = false ∧ gnN busW = 0 ∧ stN busW = 2 ∧ busW.testBit 26 = true ∧ actW ≠ busW ∧ Word actW ∧ Word busW := by
  unfold Word
  decide +kernel

theorem fl_w0 {h : Nat} {inn : Nat → Bool} (hg : tgN h = 0) (hi : inn 2 = true) : flN h inn actW = 0 := by
  obtain ⟨a, b, d, _⟩ := w_facts
  unfold flN
  rw [a, b, d, if_neg (by rw [hg]; decide), if_neg (by decide), if_pos hi]

theorem fl_w1 {h : Nat} {inn : Nat → Bool} (hg : tgN h = 0) : flN h inn busW = 3 := by
  obtain ⟨_, _, _, a, b, d, _⟩ := w_facts
  unfold flN
  rw [a, b, d, if_neg (by rw [hg]; decide), if_pos rfl]

def won (a : Es) : Prop := a.en = true ∧ a.e = 0

structure Side10 (W : Nat) (a : Es) : Prop where
  fin : a.en = true → (a.e = 0 ∨ a.e = 3) ∧ W = busW
  tk : a.tk = true → a.s = actW ∧ a.en = false ∧ a.e = 0

structure Duo10 (W : Nat) (a b : Es) : Prop where
  wd : W = actW ∨ W = busW
  A : Side10 W a
  B : Side10 W b
  one : W = busW → (won a ∧ ¬ won b) ∨ (won b ∧ ¬ won a)

theorem Duo10.swap {W : Nat} {a b : Es} (h : Duo10 W a b) : Duo10 W b a := ⟨h.wd, h.B, h.A, fun q => (h.one q).symm⟩

theorem Duo10.at {W : Nat} {a b : Es} (h : Duo10 W a b) (m : Mm) : Duo10 W (setE m a) b := ⟨h.wd, ⟨h.A.fin, h.A.tk⟩, ⟨h.B.fin, h.B.tk⟩, h.one⟩

theorem duo10_step {c : Cf} (hr : c.r = true) {h : Nat} {inn : Nat → Bool} (hn : ook h c.s = true) (hg : tgN h = 0) (hi : inn 2 = true) {a b : Es} (hd : Duo10 (a.m.ws (c.cl 4 (svN h)).toNat) a b) :
    Duo10 ((estep c h inn a).m.ws (c.cl 4 (svN h)).toNat) (estep c h inn a) b := by
  obtain ⟨f0, f1, _⟩ := ook_facts hn
  have hc := (sl_cells hr f0 f1).1
  obtain ⟨_, _, _, _, _, _, hne, _⟩ := w_facts
  cases he : a.en with
  | true =>
    have hdn : edn c h a = true := by unfold edn; rw [he]; rfl
    rw [estep_done hdn]
    exact hd
  | false =>
    cases ht : a.tk with
    | false =>
      rw [estep_look hr hn he ht]
      show Duo10 ((mtouch c a.m 1 4 (svN h) 0 0).ws (c.cl 4 (svN h)).toNat) _ b
      rw [load_ws]
      rcases hd.wd with e | e
      · rw [e] at hd ⊢
        rw [fl_w0 hg hi]
        exact ⟨.inl rfl, ⟨(fun q => by cases q), fun _ => ⟨rfl, rfl, rfl⟩⟩, hd.B, fun q => absurd q hne⟩
      · rw [e] at hd ⊢
        rw [fl_w1 hg]
        refine ⟨.inr rfl, ⟨fun _ => ⟨.inr rfl, rfl⟩, (fun q => by cases q)⟩, hd.B, fun _ => .inr ⟨?_, fun q => by cases q.2⟩⟩
        rcases hd.one rfl with q | q
        · exact absurd q.1.1 (by rw [he]; decide)
        · exact q.1
    | true =>
      obtain ⟨t1, _, t3⟩ := hd.A.tk ht
      rw [estep_take hr hn he ht]
      show Duo10 ((mtouch c a.m 3 4 (svN h) a.s (bzN a.s)).ws (c.cl 4 (svN h)).toNat) _ b
      rw [swap_ws, t1]
      rcases hd.wd with e | e
      · rw [if_pos ⟨by omega, e⟩, decide_eq_true e]
        rw [e] at hd
        refine ⟨.inr rfl, ⟨fun _ => ⟨.inl t3, rfl⟩, (fun q => by cases q)⟩, ⟨fun q => absurd (hd.B.fin q).2 hne, hd.B.tk⟩, fun _ => .inl ⟨⟨rfl, t3⟩, fun q => absurd (hd.B.fin q.1).2 hne⟩⟩
      · have e' : ¬ a.m.ws (c.cl 4 (svN h)).toNat = actW := by rw [e]; exact hne.symm
        rw [if_neg (fun q => e' q.2), decide_eq_false e', e]
        rw [e] at hd
        refine ⟨.inr rfl, ⟨(fun q => by cases q), (fun q => by cases q)⟩, hd.B, fun _ => .inr ⟨?_, fun q => by cases q.1⟩⟩
        rcases hd.one rfl with q | q
        · exact absurd q.1.1 (by rw [he]; decide)
        · exact q.1

def mu10 (c : Cf) (h : Nat) (a : Es) : Nat :=
  if a.en = true then 0 else if a.m.ws (c.cl 4 (svN h)).toNat = actW then (if a.tk = true then 1 else 2) else (if a.tk = true then 2 else 1)

theorem duo10_mu {c : Cf} (hr : c.r = true) {h : Nat} {inn : Nat → Bool} (hn : ook h c.s = true) (hg : tgN h = 0) (hi : inn 2 = true) {a b : Es} (hd : Duo10 (a.m.ws (c.cl 4 (svN h)).toNat) a b) (he : a.en = false) :
    mu10 c h (estep c h inn a) < mu10 c h a := by
  obtain ⟨f0, f1, _⟩ := ook_facts hn
  have hc := (sl_cells hr f0 f1).1
  obtain ⟨_, _, _, _, _, _, hne, _⟩ := w_facts
  have h0 : mu10 c h a = if a.m.ws (c.cl 4 (svN h)).toNat = actW then (if a.tk = true then 1 else 2) else (if a.tk = true then 2 else 1) := by
    unfold mu10
    rw [if_neg (by rw [he]; decide)]
  rw [h0]
  cases ht : a.tk with
  | false =>
    rw [estep_look hr hn he ht]
    unfold mu10
    show (if (!decide (flN h inn (a.m.ws (c.cl 4 (svN h)).toNat) = 0)) = true then 0 else if (mtouch c a.m 1 4 (svN h) 0 0).ws (c.cl 4 (svN h)).toNat = actW then (if decide (flN h inn (a.m.ws (c.cl 4 (svN h)).toNat) = 0) = true then 1 else 2) else (if decide (flN h inn (a.m.ws (c.cl 4 (svN h)).toNat) = 0) = true then 2 else 1)) < _
    rw [load_ws]
    rcases hd.wd with e | e
    · rw [e, fl_w0 hg hi, if_neg (by decide), if_pos rfl, if_pos (by decide), if_pos rfl, if_neg (by decide)]
      decide
    · rw [e, fl_w1 hg, if_pos (by decide), if_neg hne.symm, if_neg (by decide)]
      decide
  | true =>
    obtain ⟨t1, _, t3⟩ := hd.A.tk ht
    rw [estep_take hr hn he ht]
    unfold mu10
    show (if decide (a.m.ws (c.cl 4 (svN h)).toNat = a.s) = true then 0 else if (mtouch c a.m 3 4 (svN h) a.s (bzN a.s)).ws (c.cl 4 (svN h)).toNat = actW then 2 else 1) < _
    rw [t1]
    rcases hd.wd with e | e
    · rw [e, decide_eq_true rfl, if_pos rfl, if_pos rfl, if_pos rfl]
      decide
    · have e' : ¬ a.m.ws (c.cl 4 (svN h)).toNat = actW := by rw [e]; exact hne.symm
      have e2 : ¬ ((((c.cl 4 (svN h)).toNat : Nat) : Int) = c.cl 4 (svN h) ∧ a.m.ws (c.cl 4 (svN h)).toNat = actW) := fun q => e' q.2
      rw [decide_eq_false e', if_neg (by decide), swap_ws, if_neg e2, if_neg e', if_neg e', if_pos rfl]
      decide

theorem duo10_ends {c : Cf} (hr : c.r = true) {h : Nat} {inn : Nat → Bool} (hn : ook h c.s = true) (hg : tgN h = 0) (hi : inn 2 = true) {a b : Es} (hd : Duo10 (a.m.ws (c.cl 4 (svN h)).toNat) a b) {k : Nat} (hk : 3 ≤ k) (A : Es) (hA : A = eit c h inn a k) :
    Duo10 (A.m.ws (c.cl 4 (svN h)).toNat) A b ∧ A.en = true := by
  have main : ∀ k, Duo10 ((eit c h inn a k).m.ws (c.cl 4 (svN h)).toNat) (eit c h inn a k) b ∧ (mu10 c h (eit c h inn a k) + k ≤ mu10 c h a ∨ (eit c h inn a k).en = true) := by
    intro k
    induction k with
    | zero => exact ⟨hd, .inl (Nat.le_refl _)⟩
    | succ k ih =>
      obtain ⟨i1, i2⟩ := ih
      refine ⟨duo10_step hr hn hg hi i1, ?_⟩
      cases he : (eit c h inn a k).en with
      | true =>
        right
        show (estep c h inn (eit c h inn a k)).en = true
        rw [estep_done (by unfold edn; rw [he]; rfl)]
        exact he
      | false =>
        rcases i2 with i2 | i2
        · have := duo10_mu hr hn hg hi i1 he
          left
          show mu10 c h (estep c h inn (eit c h inn a k)) + (k + 1) ≤ _
          omega
        · rw [he] at i2; cases i2
  have h0 : mu10 c h a ≤ 2 := by
    unfold mu10
    (repeat' split) <;> omega
  obtain ⟨h1, h2⟩ := main k
  rw [hA]
  refine ⟨h1, ?_⟩
  rcases h2 with h2 | h2
  · omega
  · exact h2

theorem duo10_new (m m' : Mm) : Duo10 actW (enew m) (enew m') :=
  ⟨.inl rfl, ⟨(fun q => by cases q), (fun q => by cases q)⟩, ⟨(fun q => by cases q), (fun q => by cases q)⟩, fun q => absurd q w_facts.2.2.2.2.2.2.1⟩

theorem duo10_tell {W : Nat} {a b : Es} (h : Duo10 W a b) (ha : a.en = true) (hb : b.en = true) : (a.e = 0 ∧ b.e = 3) ∨ (a.e = 3 ∧ b.e = 0) := by
  have hw := (h.A.fin ha).2
  rcases h.one hw with ⟨q, r⟩ | ⟨q, r⟩
  · left
    refine ⟨q.2, ?_⟩
    rcases (h.B.fin hb).1 with e | e
    · exact absurd ⟨hb, e⟩ r
    · exact e
  · right
    refine ⟨?_, q.2⟩
    rcases (h.A.fin ha).1 with e | e
    · exact absurd ⟨ha, e⟩ r
    · exact e

/-! ## sides -/

theorem move_with (x : Nat) (a b : Int) {st : Nat} (hs : st < 8) (bz : Bool) : moveN (withN x a b) st bz = withN (moveN x st bz) a b := by
  cases ho : okS a b with
  | false => rw [with_bad x a b ho, with_bad _ a b ho]
  | true =>
    have hlt := bitAt_lt ho
    rw [with_ok _ ho, with_ok _ ho]
    generalize bitAt a b = k at *
    apply Nat.eq_of_testBit_eq
    intro j
    rw [move_bits hs, testBit_setN, testBit_setN, move_bits hs]
    by_cases h : k = j
    · subst h
      rw [if_pos rfl, if_pos rfl, if_neg (show ¬ k = 26 by omega), if_neg (show ¬ (27 ≤ k ∧ k < 30) by omega)]
    · rw [if_neg h, if_neg h]

theorem move_move (x : Nat) {s t : Nat} (hs : s < 8) (ht : t < 8) (b d : Bool) : moveN (moveN x s b) t d = moveN x t d := by
  apply Nat.eq_of_testBit_eq
  intro j
  rw [move_bits ht, move_bits ht, move_bits hs]
  split
  · rfl
  split
  · rfl
  · rfl

theorem bz_move (x : Nat) {s : Nat} (hs : s < 8) (b : Bool) : bzN (moveN x s b) = moveN x s true := by
  unfold bzN
  apply Nat.eq_of_testBit_eq
  intro j
  rw [testBit_setN, move_bits hs, move_bits hs]
  by_cases e : 26 = j
  · rw [if_pos e, if_pos e.symm]
  · have e' : ¬ j = 26 := fun q => e q.symm
    rw [if_neg e, if_neg e', if_neg e']

theorem move_self {x s : Nat} (hs : s < 8) {b : Bool} (h1 : stN x = s) (h2 : x.testBit 26 = b) : moveN x s b = x := by
  apply Nat.eq_of_testBit_eq
  intro j
  rw [move_bits hs]
  by_cases e : j = 26
  · rw [if_pos e, e]; exact h2.symm
  · rw [if_neg e]
    by_cases e2 : 27 ≤ j ∧ j < 30
    · rw [if_pos e2, ← h1]
      unfold stN
      rw [testBit_part, show j - 27 + 27 = j by omega, decide_eq_true (show j - 27 < 3 by omega)]
      simp
    · rw [if_neg e2]

/-- busy, of its own state -/
theorem move_bz (x : Nat) : moveN x (stN x) true = bzN x := by
  have hs : stN x < 8 := part_lt x 27 3
  unfold bzN
  apply Nat.eq_of_testBit_eq
  intro j
  rw [testBit_setN, move_bits hs]
  by_cases e : 26 = j
  · rw [if_pos e, if_pos e.symm]
  · have e' : ¬ j = 26 := fun q => e q.symm
    rw [if_neg e, if_neg e']
    by_cases e2 : 27 ≤ j ∧ j < 30
    · rw [if_pos e2]
      unfold stN
      rw [testBit_part, show j - 27 + 27 = j by omega, decide_eq_true (show j - 27 < 3 by omega)]
      simp
    · rw [if_neg e2]

theorem gn_with (x : Nat) (a b : Int) : gnN (withN x a b) = gnN x := by
  apply Nat.eq_of_testBit_eq
  intro j
  unfold gnN
  rw [testBit_part, testBit_part, with_bits _ _ _ _ (by omega)]

theorem gn_move (x : Nat) {s : Nat} (hs : s < 8) (b : Bool) : gnN (moveN x s b) = gnN x := (move_parts x s b hs).2.2.1

/-- one that enters, and then leaves for the state 5, while conflicts are laid; V: what its status will be -/
structure Sid10 (W V : Nat) (e : Es) (l : Ls) : Prop where
  v : stN V = 5 ∧ V.testBit 26 = false ∧ gnN V = 0
  a : e.en = false → W = moveN V 2 false ∧ l.dn = false ∧ l.lk = false
  tk : e.tk = true → e.en = false
  b : e.en = true → l.dn = false → W = moveN V 2 true
  d : l.dn = true → W = V

theorem Sid10.lay {W V : Nat} {e : Es} {l : Ls} (h : Sid10 W V e l) (x y : Int) : Sid10 (withN W x y) (withN V x y) e l := by
  obtain ⟨v1, v2, v3⟩ := h.v
  refine ⟨⟨by rw [st_with]; exact v1, by rw [with_bits _ _ _ _ (by decide)]; exact v2, by rw [gn_with]; exact v3⟩, fun q => ⟨?_, (h.a q).2⟩, h.tk, fun q r => ?_, fun q => by rw [h.d q]⟩
  · rw [(h.a q).1, move_with _ _ _ (by decide)]
  · rw [h.b q r, move_with _ _ _ (by decide)]

theorem Sid10.at {W V : Nat} {e : Es} {l : Ls} (h : Sid10 W V e l) (m m' : Mm) : Sid10 W V (setE m e) (setLs m' l) := ⟨h.v, h.a, h.tk, h.b, h.d⟩

theorem sid10_enter {c : Cf} (hr : c.r = true) {h : Nat} {inn : Nat → Bool} (hn : ook h c.s = true) (hg : tgN h = 0) (hi : inn 2 = true) {V : Nat} {e : Es} {l : Ls} (hd : Sid10 (e.m.ws (c.cl 4 (svN h)).toNat) V e l) :
    Sid10 ((estep c h inn e).m.ws (c.cl 4 (svN h)).toNat) V (estep c h inn e) l := by
  obtain ⟨f0, f1, _⟩ := ook_facts hn
  have hc := (sl_cells hr f0 f1).1
  cases he : e.en with
  | true =>
    have hdn : edn c h e = true := by unfold edn; rw [he]; rfl
    rw [estep_done hdn]
    exact hd
  | false =>
    obtain ⟨hW, hl1, hl2⟩ := hd.a he
    obtain ⟨v1, v2, v3⟩ := hd.v
    cases ht : e.tk with
    | false =>
      rw [estep_look hr hn he ht]
      show Sid10 ((mtouch c e.m 1 4 (svN h) 0 0).ws (c.cl 4 (svN h)).toNat) V _ l
      rw [load_ws, hW]
      have hp := move_parts V 2 false (by decide)
      have hfl : flN h inn (moveN V 2 false) = 0 := by
        unfold flN
        rw [gn_move _ (by decide), v3, show stN (moveN V 2 false) = 2 from hp.2.1, hp.1, if_neg (by rw [hg]; decide), if_neg (by decide), if_pos hi]
      rw [hfl]
      exact ⟨hd.v, fun _ => ⟨rfl, hl1, hl2⟩, fun _ => rfl, (fun q => by cases q), fun q => by rw [hl1] at q; cases q⟩
    | true =>
      rw [estep_take hr hn he ht]
      show Sid10 ((mtouch c e.m 3 4 (svN h) e.s (bzN e.s)).ws (c.cl 4 (svN h)).toNat) V _ l
      rw [swap_ws]
      by_cases ee : e.m.ws (c.cl 4 (svN h)).toNat = e.s
      · rw [if_pos ⟨by omega, ee⟩, decide_eq_true ee, ← ee, hW, bz_move _ (by decide)]
        exact ⟨hd.v, (fun q => by cases q), (fun q => by cases q), fun _ _ => rfl, fun q => by rw [hl1] at q; cases q⟩
      · rw [if_neg (fun q => ee q.2), decide_eq_false ee, hW]
        exact ⟨hd.v, fun _ => ⟨rfl, hl1, hl2⟩, (fun q => by cases q), (fun q => by cases q), fun q => by rw [hl1] at q; cases q⟩

theorem sid10_leave {c : Cf} (hr : c.r = true) {sl : Int} (f0 : 0 ≤ sl) (f1 : sl < c.s) {V : Nat} {e : Es} {l : Ls} (hen : e.en = true) (hd : Sid10 (l.m.ws (c.cl 4 sl).toNat) V e l) :
    Sid10 ((lstep c sl 5 l).m.ws (c.cl 4 sl).toNat) V e (lstep c sl 5 l) := by
  have hc := (sl_cells hr f0 f1).1
  have no : ¬ e.en = false := by rw [hen]; decide
  cases hdn : l.dn with
  | true => rw [lstep_done hdn]; exact hd
  | false =>
    have hW := hd.b hen hdn
    obtain ⟨v1, v2, v3⟩ := hd.v
    cases hk : l.lk with
    | false =>
      rw [lstep_look hr f0 f1 hdn hk]
      show Sid10 ((mtouch c l.m 1 4 sl 0 0).ws (c.cl 4 sl).toNat) V e _
      rw [load_ws]
      exact ⟨hd.v, fun q => absurd q no, hd.tk, fun _ _ => hW, (fun q => by cases q)⟩
    | true =>
      rw [lstep_lay hr f0 f1 hdn hk]
      show Sid10 ((mtouch c l.m 3 4 sl l.s (moveN l.s (lst 5 l.s) false)).ws (c.cl 4 sl).toNat) V e _
      have h5 : lst 5 l.s = 5 := by unfold lst; rw [if_neg (by decide)]; rfl
      rw [swap_ws, h5]
      by_cases ee : l.m.ws (c.cl 4 sl).toNat = l.s
      · rw [if_pos ⟨by omega, ee⟩, decide_eq_true ee, ← ee, hW, move_move _ (by decide) (by decide), move_self (by decide) v1 v2]
        exact ⟨hd.v, fun q => absurd q no, hd.tk, (fun _ q => by cases q), fun _ => rfl⟩
      · rw [if_neg (fun q => ee q.2), decide_eq_false ee, hW]
        exact ⟨hd.v, fun q => absurd q no, hd.tk, fun _ _ => rfl, (fun q => by cases q)⟩

end Um

/-
  Plain arithmetic of layer 10: one that enters, and leaves, comes to its end; what any ticket is told. No Go in sight.
-/
namespace Um
set_option maxRecDepth 100000

def muE (c : Cf) (h : Nat) (a : Es) : Nat :=
  if a.en = true then 0 else if a.tk = true then (if a.m.ws (c.cl 4 (svN h)).toNat = a.s then 1 else 3) else 2

theorem sid10_mu {c : Cf} (hr : c.r = true) {h : Nat} {inn : Nat → Bool} (hn : ook h c.s = true) (hg : tgN h = 0) (hi : inn 2 = true) {V : Nat} {e : Es} {l : Ls} (hd : Sid10 (e.m.ws (c.cl 4 (svN h)).toNat) V e l) (he : e.en = false) :
    muE c h (estep c h inn e) < muE c h e := by
  obtain ⟨f0, f1, _⟩ := ook_facts hn
  have hc := (sl_cells hr f0 f1).1
  obtain ⟨hW, hl1, hl2⟩ := hd.a he
  obtain ⟨v1, v2, v3⟩ := hd.v
  have h0 : muE c h e = if e.tk = true then (if e.m.ws (c.cl 4 (svN h)).toNat = e.s then 1 else 3) else 2 := by
    unfold muE
    rw [if_neg (by rw [he]; decide)]
  rw [h0]
  cases ht : e.tk with
  | false =>
    rw [estep_look hr hn he ht]
    have hp := move_parts V 2 false (by decide)
    have hfl : flN h inn (moveN V 2 false) = 0 := by
      unfold flN
      rw [gn_move _ (by decide), v3, show stN (moveN V 2 false) = 2 from hp.2.1, hp.1, if_neg (by rw [hg]; decide), if_neg (by decide), if_pos hi]
    unfold muE
    show (if (!decide (flN h inn (e.m.ws (c.cl 4 (svN h)).toNat) = 0)) = true then 0 else if decide (flN h inn (e.m.ws (c.cl 4 (svN h)).toNat) = 0) = true then (if (mtouch c e.m 1 4 (svN h) 0 0).ws (c.cl 4 (svN h)).toNat = e.m.ws (c.cl 4 (svN h)).toNat then 1 else 3) else 2) < _
    rw [load_ws, if_pos rfl, hW, hfl, if_neg (by decide), if_pos (by decide), if_neg (by decide)]
    decide
  | true =>
    rw [estep_take hr hn he ht]
    unfold muE
    show (if decide (e.m.ws (c.cl 4 (svN h)).toNat = e.s) = true then 0 else 2) < _
    by_cases ee : e.m.ws (c.cl 4 (svN h)).toNat = e.s
    · rw [decide_eq_true ee, if_pos rfl, if_pos rfl, if_pos ee]
      decide
    · rw [decide_eq_false ee, if_neg (by decide), if_pos rfl, if_neg ee]
      decide

theorem muE_le (c : Cf) (h : Nat) (a : Es) : muE c h a ≤ 3 := by
  unfold muE
  (repeat' split) <;> omega

theorem sid10_ends {c : Cf} (hr : c.r = true) {h : Nat} {inn : Nat → Bool} (hn : ook h c.s = true) (hg : tgN h = 0) (hi : inn 2 = true) {V : Nat} {e : Es} {l : Ls} (hd : Sid10 (e.m.ws (c.cl 4 (svN h)).toNat) V e l) {k : Nat} (hk : 4 ≤ k) (A : Es) (hA : A = eit c h inn e k) :
    Sid10 (A.m.ws (c.cl 4 (svN h)).toNat) V A l ∧ A.en = true := by
  have main : ∀ k, Sid10 ((eit c h inn e k).m.ws (c.cl 4 (svN h)).toNat) V (eit c h inn e k) l ∧ (muE c h (eit c h inn e k) + k ≤ muE c h e ∨ (eit c h inn e k).en = true) := by
    intro k
    induction k with
    | zero => exact ⟨hd, .inl (Nat.le_refl _)⟩
    | succ k ih =>
      obtain ⟨i1, i2⟩ := ih
      refine ⟨sid10_enter hr hn hg hi i1, ?_⟩
      cases he : (eit c h inn e k).en with
      | true =>
        right
        show (estep c h inn (eit c h inn e k)).en = true
        rw [estep_done (by unfold edn; rw [he]; rfl)]
        exact he
      | false =>
        rcases i2 with i2 | i2
        · have := sid10_mu hr hn hg hi i1 he
          left
          show muE c h (estep c h inn (eit c h inn e k)) + (k + 1) ≤ _
          omega
        · rw [he] at i2; cases i2
  obtain ⟨h1, h2⟩ := main k
  rw [hA]
  refine ⟨h1, ?_⟩
  rcases h2 with h2 | h2
  · have := muE_le c h e; omega
  · exact h2

def muL (c : Cf) (sl : Int) (l : Ls) : Nat :=
  if l.dn = true then 0 else if l.lk = true then (if l.m.ws (c.cl 4 sl).toNat = l.s then 1 else 3) else 2

theorem muL_le (c : Cf) (sl : Int) (l : Ls) : muL c sl l ≤ 3 := by
  unfold muL
  (repeat' split) <;> omega

theorem muL_step {c : Cf} (hr : c.r = true) {sl : Int} (f0 : 0 ≤ sl) (f1 : sl < c.s) (st : Int) {l : Ls} (hdn : l.dn = false) : muL c sl (lstep c sl st l) < muL c sl l := by
  have hc := (sl_cells hr f0 f1).1
  have h0 : muL c sl l = if l.lk = true then (if l.m.ws (c.cl 4 sl).toNat = l.s then 1 else 3) else 2 := by
    unfold muL
    rw [if_neg (by rw [hdn]; decide)]
  rw [h0]
  cases hk : l.lk with
  | false =>
    rw [lstep_look hr f0 f1 hdn hk]
    unfold muL
    show (if (mtouch c l.m 1 4 sl 0 0).ws (c.cl 4 sl).toNat = l.m.ws (c.cl 4 sl).toNat then 1 else 3) < _
    rw [load_ws, if_pos rfl, if_neg (by decide)]
    decide
  | true =>
    rw [lstep_lay hr f0 f1 hdn hk]
    unfold muL
    show (if decide (l.m.ws (c.cl 4 sl).toNat = l.s) = true then 0 else 2) < _
    by_cases ee : l.m.ws (c.cl 4 sl).toNat = l.s
    · rw [decide_eq_true ee, if_pos rfl, if_pos rfl, if_pos ee]
      decide
    · rw [decide_eq_false ee, if_neg (by decide), if_pos rfl, if_neg ee]
      decide

theorem sid10_left {c : Cf} (hr : c.r = true) {sl : Int} (f0 : 0 ≤ sl) (f1 : sl < c.s) {V : Nat} {e : Es} {l : Ls} (hen : e.en = true) (hd : Sid10 (l.m.ws (c.cl 4 sl).toNat) V e l) {k : Nat} (hk : 4 ≤ k) (A : Ls) (hA : A = lit10 c sl 5 l k) :
    A.dn = true ∧ A.m.ws (c.cl 4 sl).toNat = V := by
  have main : ∀ k, Sid10 ((lit10 c sl 5 l k).m.ws (c.cl 4 sl).toNat) V e (lit10 c sl 5 l k) ∧ (muL c sl (lit10 c sl 5 l k) + k ≤ muL c sl l ∨ (lit10 c sl 5 l k).dn = true) := by
    intro k
    induction k with
    | zero => exact ⟨hd, .inl (Nat.le_refl _)⟩
    | succ k ih =>
      obtain ⟨i1, i2⟩ := ih
      refine ⟨sid10_leave hr f0 f1 hen i1, ?_⟩
      cases he : (lit10 c sl 5 l k).dn with
      | true =>
        right
        show (lstep c sl 5 (lit10 c sl 5 l k)).dn = true
        rw [lstep_done he]
        exact he
      | false =>
        rcases i2 with i2 | i2
        · have := muL_step hr f0 f1 5 he
          left
          show muL c sl (lstep c sl 5 (lit10 c sl 5 l k)) + (k + 1) ≤ _
          omega
        · rw [he] at i2; cases i2
  obtain ⟨h1, h2⟩ := main k
  rw [hA]
  have hdn : (lit10 c sl 5 l k).dn = true := by
    rcases h2 with h2 | h2
    · have := muL_le c sl l; omega
    · exact h2
  exact ⟨hdn, h1.d hdn⟩

theorem sid10_new (m m' : Mm) : Sid10 actW (packV 0 5 false false false 0 0) (enew m) (lnew m') := by
  have hp : stN (packV 0 5 false false false 0 0) = 5 ∧ (packV 0 5 false false false 0 0).testBit 26 = false ∧ gnN (packV 0 5 false false false 0 0) = 0 ∧ actW = moveN (packV 0 5 false false false 0 0) 2 false := by decide +kernel
  exact ⟨⟨hp.1, hp.2.1, hp.2.2.1⟩, fun _ => ⟨hp.2.2.2, rfl, rfl⟩, (fun q => by cases q), (fun q => by cases q), (fun q => by cases q)⟩

/-- what a ticket that names a slot is told, over a status w that is looked at: alone, to its end -/
theorem alone_told {c : Cf} (hr : c.r = true) {h : Nat} {inn : Nat → Bool} (m : Mm) (hn : ook h c.s = true) {k : Nat} (hk : 2 ≤ k) (A : Es) (hA : A = eit c h inn (enew m) k) : A.en = true ∧ A.e = flN h inn (m.ws (c.cl 4 (svN h)).toNat) := by
  by_cases hf : flN h inn (m.ws (c.cl 4 (svN h)).toNat) = 0
  · obtain ⟨a, b, _⟩ := alone_enters hr m hn hf hk A hA
    exact ⟨a, by rw [b, hf]⟩
  · obtain ⟨a, b, _⟩ := alone_amiss hr m hn hf (show 1 ≤ k by omega) A hA
    exact ⟨a, b⟩

theorem alone_none {c : Cf} {h : Nat} {inn : Nat → Bool} (m : Mm) (hn : ook h c.s = false) (k : Nat) : eit c h inn (enew m) k = enew m ∧ edn c h (enew m) = true := by
  have hd : edn c h (enew m) = true := by unfold edn; rw [hn]; rfl
  exact ⟨eit_done (q := 0) hd (Nat.zero_le _), hd⟩

end Um

/-
  The types that blocks are made of, from layer 7 on: how many cells, which zero.
-/
namespace Go.Proofs.Yticaieghapjpkaa
set_option maxRecDepth 100000
open Go.RowKit Go.Sort

theorem row_poke : Row Try.prog 102 4 := ⟨_, Try.underlying102, rfl, by kernel_rfl⟩

theorem siz_poke : (Try.prog.info? 102).map (·.size) = some 4 := by kernel_rfl

theorem zer_poke : (Try.prog.info? 102).map (·.zero) = some (some (.agg #[.int .i64 0, .int .i64 0, .int .i64 0, .int .u64 0])) := by kernel_rfl

theorem row_stat : Row Try.prog 137 7 := ⟨_, Try.underlying137, rfl, by kernel_rfl⟩

theorem siz_stat : (Try.prog.info? 137).map (·.size) = some 7 := by kernel_rfl

theorem zer_stat : (Try.prog.info? 137).map (·.zero) = some (some (.agg #[.int .i64 0, .int .i64 0, .bool false, .bool false, .bool false, .int .i64 0, .int .i64 0])) := by kernel_rfl

theorem row_rent : Row Try.prog 44 7 := ⟨_, Try.underlying44, rfl, by kernel_rfl⟩

theorem siz_rent : (Try.prog.info? 44).map (·.size) = some 7 := by kernel_rfl

theorem zer_rent : (Try.prog.info? 44).map (·.zero) = some (some (.agg #[.int .u64 0, .slice none 0 0, .bool false, .int .u64 0, .int .u64 0, .int .i64 0, .bool false])) := by kernel_rfl

theorem row_rlea : Row Try.prog 63 5 := ⟨_, Try.underlying63, rfl, by kernel_rfl⟩

theorem siz_rlea : (Try.prog.info? 63).map (·.size) = some 5 := by kernel_rfl

theorem zer_rlea : (Try.prog.info? 63).map (·.zero) = some (some (.agg #[.int .i64 0, .int .i64 0, .bool false, .int .u64 0, .bool false])) := by kernel_rfl

theorem row_play10 : Row Try.prog 29 4 := ⟨_, Try.underlying29, rfl, by kernel_rfl⟩

theorem siz_play10 : (Try.prog.info? 29).map (·.size) = some 4 := by kernel_rfl

theorem zer_play10 : (Try.prog.info? 29).map (·.zero) = some (some (.agg #[.int .u64 0, .slice none 0 0, .int .i64 0, .slice none 0 0])) := by kernel_rfl

theorem row_ent : Row Try.prog 100 7 := ⟨_, Try.underlying100, rfl, by kernel_rfl⟩

theorem siz_ent : (Try.prog.info? 100).map (·.size) = some 7 := by kernel_rfl

theorem zer_ent : (Try.prog.info? 100).map (·.zero) = some (some (.agg #[.int .i64 0, .int .u64 0, .int .u64 0, .slice none 0 0, .nilFunc, .int .i64 0, .int .u64 0])) := by kernel_rfl

theorem row_lea : Row Try.prog 114 4 := ⟨_, Try.underlying114, rfl, by kernel_rfl⟩

theorem siz_lea : (Try.prog.info? 114).map (·.size) = some 4 := by kernel_rfl

theorem zer_lea : (Try.prog.info? 114).map (·.zero) = some (some (.agg #[.int .i64 0, .int .u64 0, .int .i64 0, .nilFunc])) := by kernel_rfl

theorem row_rsta : Row Try.prog 86 7 := ⟨_, Try.underlying86, rfl, by kernel_rfl⟩

theorem siz_rsta : (Try.prog.info? 86).map (·.size) = some 7 := by kernel_rfl

theorem zer_rsta : (Try.prog.info? 86).map (·.zero) = some (some (.agg #[.int .i64 0, .int .i64 0, .bool false, .bool false, .bool false, .int .i64 0, .int .i64 0])) := by kernel_rfl

theorem one_fn : One Try.prog 52 := ⟨_, Try.underlying52, rfl⟩

theorem siz_fn : (Try.prog.info? 52).map (·.size) = some 1 := by kernel_rfl

theorem one_pokes : One Try.prog 27 := ⟨_, Try.underlying27, rfl⟩

theorem siz_pokes : (Try.prog.info? 27).map (·.size) = some 1 := by kernel_rfl

theorem one_bools : One Try.prog 72 := ⟨_, Try.underlying72, rfl⟩

theorem siz_bools : (Try.prog.info? 72).map (·.size) = some 1 := by kernel_rfl

theorem one_ints : One Try.prog 26 := ⟨_, Try.underlying26, rfl⟩

theorem siz_ints : (Try.prog.info? 26).map (·.size) = some 1 := by kernel_rfl

theorem one_errno : One Try.prog 42 := ⟨_, Try.underlying42, rfl⟩

theorem siz_errno : (Try.prog.info? 42).map (·.size) = some 1 := by kernel_rfl

theorem one_slf : One Try.prog 49 := ⟨_, Try.underlying49, rfl⟩

theorem siz_slf : (Try.prog.info? 49).map (·.size) = some 1 := by kernel_rfl

def rowT2 : List (Nat × Nat) := [(36, 13), (34, 6), (32, 2), (24, 5), (68, 2), (110, 6), (102, 4), (137, 7), (44, 7), (63, 5), (29, 4), (100, 7), (114, 4), (86, 7)]

theorem row_all2 : ∀ p ∈ rowT2, Row Try.prog p.1 p.2 := by
  intro p hp
  simp only [rowT2, List.mem_cons, List.not_mem_nil, or_false] at hp
  rcases hp with rfl | rfl | rfl | rfl | rfl | rfl | rfl | rfl | rfl | rfl | rfl | rfl | rfl | rfl
  · exact row_rmem
  · exact row_rtch
  · exact row_rspot
  · exact row_cfg
  · exact row_spot
  · exact row_tch
  · exact row_poke
  · exact row_stat
  · exact row_rent
  · exact row_rlea
  · exact row_play10
  · exact row_ent
  · exact row_lea
  · exact row_rsta

theorem row_any2 {ty : Nat} {v : Nat} (h : rowT2.lookup ty = some v) : Row Try.prog ty v := row_all2 (ty, v) (look_mem h)

def onuT2 : List (Nat × Unit) := [(3, ()), (22, ()), (4, ()), (25, ()), (52, ()), (27, ()), (72, ()), (26, ()), (42, ()), (49, ())]

theorem onu_all2 : ∀ p ∈ onuT2, One Try.prog p.1 := by
  intro p hp
  simp only [onuT2, List.mem_cons, List.not_mem_nil, or_false] at hp
  rcases hp with rfl | rfl | rfl | rfl | rfl | rfl | rfl | rfl | rfl | rfl
  · exact one_int
  · exact one_u64
  · exact one_bool
  · exact one_words
  · exact one_fn
  · exact one_pokes
  · exact one_bools
  · exact one_ints
  · exact one_errno
  · exact one_slf

theorem onu_any2 {ty : Nat} {v : Unit} (h : onuT2.lookup ty = some v) : One Try.prog ty := onu_all2 (ty, v) (look_mem h)

theorem one_any2 {ty : Nat} (h : onuT2.lookup ty = some ()) : One Try.prog ty := onu_any2 h

def sizT2 : List (Nat × Nat) := [(36, 13), (34, 6), (32, 2), (24, 5), (68, 2), (110, 6), (3, 1), (22, 1), (4, 1), (25, 1), (102, 4), (137, 7), (44, 7), (63, 5), (29, 4), (100, 7), (114, 4), (86, 7), (52, 1), (27, 1), (72, 1), (26, 1), (42, 1), (49, 1)]

theorem siz_all2 : ∀ p ∈ sizT2, (Try.prog.info? p.1).map (·.size) = some p.2 := by
  intro p hp
  simp only [sizT2, List.mem_cons, List.not_mem_nil, or_false] at hp
  rcases hp with rfl | rfl | rfl | rfl | rfl | rfl | rfl | rfl | rfl | rfl | rfl | rfl | rfl | rfl | rfl | rfl | rfl | rfl | rfl | rfl | rfl | rfl | rfl | rfl
  · exact siz_rmem
  · exact siz_rtch
  · exact siz_rspot
  · exact siz_cfg
  · exact siz_spot
  · exact siz_tch
  · exact siz_int
  · exact siz_u64
  · exact siz_bool
  · exact siz_words
  · exact siz_poke
  · exact siz_stat
  · exact siz_rent
  · exact siz_rlea
  · exact siz_play10
  · exact siz_ent
  · exact siz_lea
  · exact siz_rsta
  · exact siz_fn
  · exact siz_pokes
  · exact siz_bools
  · exact siz_ints
  · exact siz_errno
  · exact siz_slf

theorem siz_any2 {ty : Nat} {v : Nat} (h : sizT2.lookup ty = some v) : (Try.prog.info? ty).map (·.size) = some v := siz_all2 (ty, v) (look_mem h)

def zerT2 : List (Nat × Value) := [(36, (.agg #[.int .i64 0, .int .i64 0, .int .i64 0, .int .i64 0, .int .u64 0, .slice none 0 0, .int .i64 0, .int .i64 0, .int .i64 0, .int .i64 0, .int .u64 0, .int .u64 0, .bool false])), (34, (.agg #[.int .i64 0, .int .i64 0, .int .i64 0, .int .u64 0, .int .u64 0, .bool false])), (32, (.agg #[.int .i64 0, .int .i64 0])), (24, (.agg #[.int .i64 0, .int .i64 0, .int .i64 0, .int .i64 0, .int .u64 0])), (68, (.agg #[.int .i64 0, .int .i64 0])), (110, (.agg #[.int .i64 0, .int .i64 0, .int .i64 0, .int .u64 0, .int .u64 0, .bool false])), (102, (.agg #[.int .i64 0, .int .i64 0, .int .i64 0, .int .u64 0])), (137, (.agg #[.int .i64 0, .int .i64 0, .bool false, .bool false, .bool false, .int .i64 0, .int .i64 0])), (44, (.agg #[.int .u64 0, .slice none 0 0, .bool false, .int .u64 0, .int .u64 0, .int .i64 0, .bool false])), (63, (.agg #[.int .i64 0, .int .i64 0, .bool false, .int .u64 0, .bool false])), (29, (.agg #[.int .u64 0, .slice none 0 0, .int .i64 0, .slice none 0 0])), (100, (.agg #[.int .i64 0, .int .u64 0, .int .u64 0, .slice none 0 0, .nilFunc, .int .i64 0, .int .u64 0])), (114, (.agg #[.int .i64 0, .int .u64 0, .int .i64 0, .nilFunc])), (86, (.agg #[.int .i64 0, .int .i64 0, .bool false, .bool false, .bool false, .int .i64 0, .int .i64 0]))]

theorem zer_all2 : ∀ p ∈ zerT2, (Try.prog.info? p.1).map (·.zero) = some (some p.2) := by
  intro p hp
  simp only [zerT2, List.mem_cons, List.not_mem_nil, or_false] at hp
  rcases hp with rfl | rfl | rfl | rfl | rfl | rfl | rfl | rfl | rfl | rfl | rfl | rfl | rfl | rfl
  · exact zer_rmem
  · exact zer_rtch
  · exact zer_rspot
  · exact zer_cfg
  · exact zer_spot
  · exact zer_tch
  · exact zer_poke
  · exact zer_stat
  · exact zer_rent
  · exact zer_rlea
  · exact zer_play10
  · exact zer_ent
  · exact zer_lea
  · exact zer_rsta

theorem zer_any2 {ty : Nat} {v : Value} (h : zerT2.lookup ty = some v) : (Try.prog.info? ty).map (·.zero) = some (some v) := zer_all2 (ty, v) (look_mem h)

end Go.Proofs.Yticaieghapjpkaa

/-
  The walks of layer 3's functions, and of the document's answers for them.
-/
namespace Go.Proofs.Yticaieghapjpkaa
set_option maxRecDepth 100000
open Go.RowKit Go.Sort

theorem pack_or {s : Nat} {p : Int} (h : Um.tok s p = true) : bits .or .u64 ((s : Int) * 16) (p + 1) = (Um.tpack s p : Int) := by
  obtain ⟨h1, h2, h3⟩ := Um.tok_iff.1 h
  have e1 : (s : Int) * 16 = ((16 * s : Nat) : Int) := by omega
  have e2 : p + 1 = ((p + 1).toNat : Int) := by omega
  rw [e1, e2, u64_or_nat _ _ (by omega) (by omega), Um.or_low _ _ (by omega), Um.tpack_yes h]

end Go.Proofs.Yticaieghapjpkaa

/-
  The walks of layer 1's functions on words, and of the document's answers for them.
-/
namespace Go.Proofs.Yticaieghapjpkaa
set_option maxRecDepth 100000
open Go.RowKit

set_option maxHeartbeats 400000 in
theorem refWith_any (x : Nat) (a b : Int) (w : World) (hx : Um.Word x) :
    Calls Try.prog 38 #[.int .u64 x, .int .i64 a, .int .i64 b] w fun e w' => e = .returned (.int .u64 (Um.withN x a b)) ∧ w' = w := by
  cases ho : Um.okS a b with
  | true =>
    have hlt := Um.bitAt_lt ho
    have e : Um.withN x a b = Um.setN x ((Um.bitAt a b : Int).toNat) true := by unfold Um.withN; rw [ho]; rfl
    rw [e]
    clear e
    have hat : ∀ w, Calls Try.prog 70 #[.int .i64 a, .int .i64 b] w fun e w' => e = .returned (.int .i64 (Um.bitAt a b : Int)) ∧ w' = w := by
      intro w
      have := at_any a b w
      rwa [if_pos ho] at this
    have HA := hide hat
    clear hat
    generalize Um.bitAt a b = k at *
    go_enter Try.func38, Try.ntmps38
    go_wp2_with (first
      | (go_at_call 70; refine (unhide HA _).mono ?_; rintro e w' ⟨rfl, rfl⟩)
      | (go_at_call 33; refine (put_any _ _ _ _ hx (by omega) (by omega)).mono ?_; rintro e w' ⟨rfl, rfl⟩))
    go_ret
    exact ⟨rfl, rfl⟩
  | false =>
    have e : Um.withN x a b = x := Um.with_bad _ _ _ ho
    rw [e]
    clear e
    have hat : ∀ w, Calls Try.prog 70 #[.int .i64 a, .int .i64 b] w fun e w' => e = .returned (.int .i64 (-1)) ∧ w' = w := by
      intro w
      have := at_any a b w
      rwa [if_neg (by simp [ho])] at this
    have HA := hide hat
    clear hat
    go_enter Try.func38, Try.ntmps38
    go_wp2_with (first
      | (go_at_call 70; refine (unhide HA _).mono ?_; rintro e w' ⟨rfl, rfl⟩))
    go_ret
    exact ⟨rfl, rfl⟩

theorem bits_drop (y : Nat) (a b : Int) (hy : Um.Word y) (hh : Um.hasN y a b = true) : bits .andNot .u64 (y : Int) (Um.slotN a b : Int) = (Um.dropAt y a b false : Int) := by
  have ho : Um.okS a b = true := by unfold Um.hasN at hh; revert hh; cases Um.okS a b <;> simp
  rw [u64_andNot_nat _ _ hy (Um.slot_word a b)]
  unfold Um.dropAt Um.slotN
  rw [if_pos ho, if_pos hh, Um.andNot_pow _ _ hy (by have := Um.bitAt_lt ho; omega)]
  rfl

theorem bits_past (y k : Nat) (b : Int) (hy : Um.Word y) (hk : k < 2) (hh : Um.hasN y k b = true) :
    bits .or .u64 (bits .andNot .u64 (y : Int) (Um.slotN k b : Int)) (2 ^ (24 + k)) = (Um.dropAt y k b true : Int) := by
  rw [bits_drop _ _ _ hy hh, show ((2:Int) ^ (24 + k)) = ((2 ^ (24 + k) : Nat) : Int) by simp, u64_or_nat _ _ (Um.dropAt_word hy _ _ _) (pow_word (by omega)), Um.or_pow]
  unfold Um.dropAt
  rw [if_pos hh, if_pos hh, show ((24 : Int) + k).toNat = 24 + k by omega]
  rfl

end Go.Proofs.Yticaieghapjpkaa

/-
  The walks of packing and unpacking.
-/
namespace Go.Proofs.Yticaieghapjpkaa
set_option maxRecDepth 100000
open Go.RowKit

attribute [local go_sem] alloc_drewN setCell_drewN

theorem div_word {x k : Nat} (h : Um.Word x) : Um.Word (x / k) := Nat.lt_of_le_of_lt (Nat.div_le_self _ _) h

theorem and_part (y n : Nat) (hy : Um.Word y) (hn : n < 63) : wrap64 (bits .and .u64 (y : Int) ((2 ^ n - 1 : Nat) : Int)) = (Um.part y 0 n : Int) := by
  have h1 : Um.Word (2 ^ n - 1) := Nat.lt_of_le_of_lt (Nat.sub_le _ _) (pow_word (by omega))
  have e : Um.part y 0 n = y % 2 ^ n := by unfold Um.part; simp
  rw [u64_and_nat _ _ hy h1, Um.and_mask, e]
  apply wrap64_small
  have h2 := Nat.mod_lt y (Nat.two_pow_pos n)
  have h3 : 2 ^ n < 2 ^ 63 := Nat.pow_lt_pow_right (by decide) hn
  rw [show (2:Nat) ^ 63 = 9223372036854775808 by decide] at h3
  omega

set_option maxHeartbeats 400000 in
theorem take_any (y : Nat) (a : Int) (B : Nat) (w : World) (hy : Um.Word y) (h0 : 0 ≤ a) (h1 : a < 63)
    (hc : w.cell? ⟨B, 0, none⟩ = some (.int .u64 y)) (hf : w.frozen? ⟨B, 0, none⟩ = false) :
    Calls Try.prog 108 #[.int .i64 a, .pointer (some ⟨B, 0, none⟩)] w fun e w' =>
      e = .returned (.int .i64 (Um.part y 0 a.toNat)) ∧ ∃ n, w' = (w.setCell ⟨B, 0, none⟩ (.int .u64 (y / 2 ^ a.toNat : Nat))).drewN n := by
  go_enter Try.func108, Try.ntmps108
  go_wp2
  go_quiet ((go_at_call 109; exact Calls.quiet_of_same (ones_any _ _ (by omega) (by omega))))
  go_wp2
  go_ret
  refine ⟨ret_i64 (and_part _ _ hy (by omega)), nq, ?_⟩
  rw [show ((y : Int) / 2 ^ a.toNat) = ((y / 2 ^ a.toNat : Nat) : Int) by simp]

set_option maxHeartbeats 4000000 in
theorem unpack_any (x : Nat) (w : World) (hx : Um.Word x) :
    Calls Try.prog 95 #[.int .u64 x] w fun e w' => e = .returned (.agg #[.int .i64 (Um.part x 30 32), .int .i64 (Um.part x 27 3), .bool (x.testBit 26), .bool (x.testBit 25), .bool (x.testBit 24), .int .i64 (Um.part x 12 12), .int .i64 (Um.part x 0 12)]) ∧ Below w.heap.size w w' := by
  go_enter Try.func95, Try.ntmps95
  go_wp2_with fail
  refine (take_any (x) _ _ _ (by repeat (first | exact hx | apply div_word)) (by omega) (by omega) (by go_simp) (by go_simp)).mono ?_
  rintro e w' ⟨rfl, n0, rfl⟩
  go_wp2_with fail
  refine (take_any (x / 2 ^ 12) _ _ _ (by repeat (first | exact hx | apply div_word)) (by omega) (by omega) (by go_simp) (by go_simp)).mono ?_
  rintro e w' ⟨rfl, n1, rfl⟩
  go_wp2_with fail
  refine (take_any (x / 2 ^ 12 / 2 ^ 12) _ _ _ (by repeat (first | exact hx | apply div_word)) (by omega) (by omega) (by go_simp) (by go_simp)).mono ?_
  rintro e w' ⟨rfl, n2, rfl⟩
  go_wp2_with fail
  refine (take_any (x / 2 ^ 12 / 2 ^ 12 / 2 ^ 1) _ _ _ (by repeat (first | exact hx | apply div_word)) (by omega) (by omega) (by go_simp) (by go_simp)).mono ?_
  rintro e w' ⟨rfl, n3, rfl⟩
  go_wp2_with fail
  refine (take_any (x / 2 ^ 12 / 2 ^ 12 / 2 ^ 1 / 2 ^ 1) _ _ _ (by repeat (first | exact hx | apply div_word)) (by omega) (by omega) (by go_simp) (by go_simp)).mono ?_
  rintro e w' ⟨rfl, n4, rfl⟩
  go_wp2_with fail
  refine (take_any (x / 2 ^ 12 / 2 ^ 12 / 2 ^ 1 / 2 ^ 1 / 2 ^ 1) _ _ _ (by repeat (first | exact hx | apply div_word)) (by omega) (by omega) (by go_simp) (by go_simp)).mono ?_
  rintro e w' ⟨rfl, n5, rfl⟩
  go_wp2_with fail
  refine (take_any (x / 2 ^ 12 / 2 ^ 12 / 2 ^ 1 / 2 ^ 1 / 2 ^ 1 / 2 ^ 3) _ _ _ (by repeat (first | exact hx | apply div_word)) (by omega) (by omega) (by go_simp) (by go_simp)).mono ?_
  rintro e w' ⟨rfl, n6, rfl⟩
  go_wp2
  simp only [Um.un12, Um.un24, Um.un25, Um.un26, Um.un27, Um.un30]
  refine bodyPost_ret (v := .agg #[.int .i64 (Um.part x 30 32), .int .i64 (Um.part x 27 3), .bool (x.testBit 26), .bool (x.testBit 25), .bool (x.testBit 24), .int .i64 (Um.part x 12 12), .int .i64 (Um.part x 0 12)]) (by simp [results, Try.results95, go_sem]) rfl ⟨rfl, ?_⟩
  apply below_drewN
  exact (((Below.refl _ _).alloc (Nat.le_refl _) _).alloc (by simp) _).alloc (by simp; omega) _

end Go.Proofs.Yticaieghapjpkaa

/-
  '==' of two statuses: field by field.
-/
namespace Go.Proofs.Yticaieghapjpkaa
set_option maxRecDepth 100000
open Go.RowKit

set_option maxHeartbeats 1000000 in
theorem eqStatus (T : TypeId) (hT : T = 137 ∨ T = 86) (g st : Int) (b i o : Bool) (n t : Int) (g' st' : Int) (b' i' o' : Bool) (n' t' : Int) (w : World) :
    (Op.equalIn 10000 T (.agg #[.int .i64 g, .int .i64 st, .bool b, .bool i, .bool o, .int .i64 n, .int .i64 t]) (.agg #[.int .i64 g', .int .i64 st', .bool b', .bool i', .bool o', .int .i64 n', .int .i64 t'])).run Try.prog w
      = .ok (decide (g = g' ∧ st = st' ∧ b = b' ∧ i = i' ∧ o = o' ∧ n = n' ∧ t = t')) w := by
  rw [show (10000:Nat) = 9999 + 1 from rfl]
  rcases hT with rfl | rfl
  all_goals
    rw [run_equalIn_agg w 9999 _ _ _ (by kernel_rfl) (by kernel_rfl)]
    go_simp
    (repeat' split) <;> simp_all

theorem neqStatus (T : TypeId) (hT : T = 137 ∨ T = 86) {g st : Int} {b i o : Bool} {n t : Int} {g' st' : Int} {b' i' o' : Bool} {n' t' : Int} {r : Bool}
    (hr : r = decide (g = g' ∧ st = st' ∧ b = b' ∧ i = i' ∧ o = o' ∧ n = n' ∧ t = t')) (w : World) :
    (binOp .neq T (.agg #[.int .i64 g, .int .i64 st, .bool b, .bool i, .bool o, .int .i64 n, .int .i64 t]) (.agg #[.int .i64 g', .int .i64 st', .bool b', .bool i', .bool o', .int .i64 n', .int .i64 t'])).run Try.prog w
      = .ok (.bool (!r)) w := by
  rw [run_neq_struct, eqStatus T hT, hr]
  rfl

theorem eqlStatus (T : TypeId) (hT : T = 137 ∨ T = 86) {g st : Int} {b i o : Bool} {n t : Int} {g' st' : Int} {b' i' o' : Bool} {n' t' : Int} {r : Bool}
    (hr : r = decide (g = g' ∧ st = st' ∧ b = b' ∧ i = i' ∧ o = o' ∧ n = n' ∧ t = t')) (w : World) :
    (binOp .eql T (.agg #[.int .i64 g, .int .i64 st, .bool b, .bool i, .bool o, .int .i64 n, .int .i64 t]) (.agg #[.int .i64 g', .int .i64 st', .bool b', .bool i', .bool o', .int .i64 n', .int .i64 t'])).run Try.prog w
      = .ok (.bool r) w := by
  rw [run_eql_struct, eqStatus T hT, hr]
  rfl

end Go.Proofs.Yticaieghapjpkaa
