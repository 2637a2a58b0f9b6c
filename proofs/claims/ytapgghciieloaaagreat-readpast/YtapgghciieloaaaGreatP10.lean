/-
  Texts that the laws stand on, merged (ReadMath, ReadMath2, ReadMath3, ReadMath4, ReadMath5, ReadMath6, ReadMath7, ReadX, ReadY, ReadAlive).
-/
import Derived.Test.YtapgghciieloaaaGreatP5
import Derived.Test.YtapgghciieloaaaGreatP6
import Derived.Test.YtapgghciieloaaaGreatP8
import Derived.Test.YtapgghciieloaaaGreatP9
import Derived.Deep.DeepCutAuto
import Derived.Lib.QuietBelow
import Derived.LoopTactic

/-
  Plain arithmetic of layer 12: a read, over a memory; its stages, alone. No Go in sight.
-/
namespace Um
set_option maxRecDepth 100000

/-- a read over a memory: its next step (0 enter, 1 snapshot, 2 look, 3 mark, 4 join, 5 own, 6 leave), its snapshot, the key's word, the others that are left, its machines with what they were made of (and whether they were made), what it will tell, what it tells, is it done -/
structure Rd where
  m : Mm
  nx : Nat
  n : Nat
  w : Nat
  ot : List Int
  g : Es
  j : Js
  jp : Int
  ja : Bool
  o : Ls
  op : Int
  oa : Bool
  l : Ls
  lp : Int
  la : Bool
  td : Int
  e : Int
  dn : Bool

/-- it begins to leave -/
def rdlv (o : Rd) (st td : Int) : Rd := { o with l := lnew o.m, lp := st, la := true, td := td, nx := 6 }

/-- to the next other one -/
def rdgo (o : Rd) : Rd := match o.ot with
  | [] => rdlv o (-1) 0
  | x :: _ => { o with j := jnew o.m, jp := x, ja := true, nx := 4 }

/-- the writers are found -/
def rdfd (slot : Int) (o : Rd) : Rd := rdgo { o with ot := othersN o.w 1 slot }

def rd0 (o : Rd) (g : Es) : Rd := if g.en = true then { o with m := g.m, g := g, nx := 1, e := g.e, dn := decide (g.e ≠ 0) } else { o with m := g.m, g := g }
def rd1 (o : Rd) (M : Mm) : Rd := { o with m := M, n := M.l.old, nx := 2 }
def rd2 (slot : Int) (o : Rd) (M : Mm) : Rd := if hasN M.l.old 0 slot = true then rdfd slot { o with m := M, w := M.l.old, nx := 3 } else { o with m := M, w := M.l.old, nx := 3 }
def rd3 (slot : Int) (o : Rd) (M : Mm) : Rd := if M.l.done = true then rdfd slot { o with m := M, nx := 2 } else { o with m := M, nx := 2 }
def rd4 (o : Rd) (j : Js) : Rd :=
  if j.r = 1 then rdgo { o with m := j.m, j := j, ot := o.ot.tail }
  else if j.r = 2 then { o with m := j.m, j := j, o := lnew j.m, op := o.jp, oa := true, nx := 5 }
  else if j.r = 3 then rdlv { o with m := j.m, j := j } 5 7
  else { o with m := j.m, j := j }
def rd5 (o : Rd) (w : Ls) : Rd := if w.dn = true then rdgo { o with m := w.m, o := w, ot := o.ot.tail } else { o with m := w.m, o := w }
def rd6 (o : Rd) (l : Ls) : Rd := if l.dn = true then { o with m := l.m, l := l, dn := true, e := o.td } else { o with m := l.m, l := l }

def rdstep (c : Cf) (h : Nat) (inn : Nat → Bool) (key slot : Int) (o : Rd) : Rd :=
  if o.dn = true then o
  else if o.nx = 0 then rd0 o (estep c h inn (setE o.m o.g))
  else if o.nx = 1 then rd1 o (mtouch c o.m 1 5 slot 0 0)
  else if o.nx = 2 then rd2 slot o (mtouch c o.m 1 8 key 0 0)
  else if o.nx = 3 then rd3 slot o (mtouch c o.m 3 8 key o.w (withN o.w 0 slot))
  else if o.nx = 4 then rd4 o (jstep c o.jp 1 slot o.n (setJ o.m o.j))
  else if o.nx = 5 then rd5 o (wstep c slot 0 o.op (setLs o.m o.o))
  else rd6 o (lstep c slot o.lp (setLs o.m o.l))

def rdit (c : Cf) (h : Nat) (inn : Nat → Bool) (key slot : Int) (o : Rd) : Nat → Rd
  | 0 => o
  | k + 1 => rdstep c h inn key slot (rdit c h inn key slot o k)

section
variable {c : Cf} {h : Nat} {inn : Nat → Bool} {key slot : Int}

theorem rdit_add (o : Rd) (a b : Nat) : rdit c h inn key slot o (a + b) = rdit c h inn key slot (rdit c h inn key slot o a) b := by
  induction b with
  | zero => rfl
  | succ b ih => show rdstep c h inn key slot (rdit c h inn key slot o (a + b)) = _; rw [ih]; rfl

theorem rdstep_done {o : Rd} (hd : o.dn = true) : rdstep c h inn key slot o = o := by
  unfold rdstep
  rw [if_pos hd]

theorem rdit_done {o : Rd} {q : Nat} (hd : (rdit c h inn key slot o q).dn = true) {k : Nat} (hk : q ≤ k) : rdit c h inn key slot o k = rdit c h inn key slot o q := by
  obtain ⟨d, rfl⟩ : ∃ d, k = q + d := ⟨k - q, by omega⟩
  clear hk
  induction d with
  | zero => rfl
  | succ d ih =>
    show rdstep c h inn key slot (rdit c h inn key slot o (q + d)) = _
    rw [ih]
    exact rdstep_done hd

/-- one comes to another one in so many steps at most -/
def Rch (c : Cf) (h : Nat) (inn : Nat → Bool) (key slot : Int) (o o' : Rd) (B : Nat) : Prop := ∃ k, k ≤ B ∧ rdit c h inn key slot o k = o'

theorem Rch.refl (o : Rd) : Rch c h inn key slot o o 0 := ⟨0, Nat.le_refl _, rfl⟩

theorem Rch.trans {o o' o2 : Rd} {a b : Nat} (h1 : Rch c h inn key slot o o' a) (h2 : Rch c h inn key slot o' o2 b) : Rch c h inn key slot o o2 (a + b) := by
  obtain ⟨k, hk, e1⟩ := h1
  obtain ⟨q, hq, e2⟩ := h2
  exact ⟨k + q, by omega, by rw [rdit_add, e1, e2]⟩

theorem Rch.mono {o o' : Rd} {a b : Nat} (h1 : Rch c h inn key slot o o' a) (hab : a ≤ b) : Rch c h inn key slot o o' b := by
  obtain ⟨k, hk, e1⟩ := h1
  exact ⟨k, by omega, e1⟩

theorem Rch.step {o o' : Rd} (e : rdstep c h inn key slot o = o') : Rch c h inn key slot o o' 1 := ⟨1, Nat.le_refl _, e⟩

/-! ## what a step is -/

theorem step6 {o : Rd} (hd : o.dn = false) (hn : o.nx = 6) : rdstep c h inn key slot o = rd6 o (lstep c slot o.lp (setLs o.m o.l)) := by
  unfold rdstep
  rw [if_neg (by rw [hd]; decide), if_neg (by omega), if_neg (by omega), if_neg (by omega), if_neg (by omega), if_neg (by omega), if_neg (by omega)]

theorem step5 {o : Rd} (hd : o.dn = false) (hn : o.nx = 5) : rdstep c h inn key slot o = rd5 o (wstep c slot 0 o.op (setLs o.m o.o)) := by
  unfold rdstep
  rw [if_neg (by rw [hd]; decide), if_neg (by omega), if_neg (by omega), if_neg (by omega), if_neg (by omega), if_neg (by omega), if_pos hn]

theorem step4 {o : Rd} (hd : o.dn = false) (hn : o.nx = 4) : rdstep c h inn key slot o = rd4 o (jstep c o.jp 1 slot o.n (setJ o.m o.j)) := by
  unfold rdstep
  rw [if_neg (by rw [hd]; decide), if_neg (by omega), if_neg (by omega), if_neg (by omega), if_neg (by omega), if_pos hn]

theorem step3 {o : Rd} (hd : o.dn = false) (hn : o.nx = 3) : rdstep c h inn key slot o = rd3 slot o (mtouch c o.m 3 8 key o.w (withN o.w 0 slot)) := by
  unfold rdstep
  rw [if_neg (by rw [hd]; decide), if_neg (by omega), if_neg (by omega), if_neg (by omega), if_pos hn]

theorem step2 {o : Rd} (hd : o.dn = false) (hn : o.nx = 2) : rdstep c h inn key slot o = rd2 slot o (mtouch c o.m 1 8 key 0 0) := by
  unfold rdstep
  rw [if_neg (by rw [hd]; decide), if_neg (by omega), if_neg (by omega), if_pos hn]

theorem step1 {o : Rd} (hd : o.dn = false) (hn : o.nx = 1) : rdstep c h inn key slot o = rd1 o (mtouch c o.m 1 5 slot 0 0) := by
  unfold rdstep
  rw [if_neg (by rw [hd]; decide), if_neg (by omega), if_pos hn]

theorem step0 {o : Rd} (hd : o.dn = false) (hn : o.nx = 0) : rdstep c h inn key slot o = rd0 o (estep c h inn (setE o.m o.g)) := by
  unfold rdstep
  rw [if_neg (by rw [hd]; decide), if_pos hn]

/-! ## alone, stage by stage -/

/-- words when a transaction has left -/
def lvw (c : Cf) (slot st : Int) (ws : Nat → Nat) (i : Nat) : Nat := if (i : Int) = c.cl 4 slot then moveN (ws i) (lst st (ws i)) false else ws i

theorem reach6 (hr : c.r = true) (h0 : 0 ≤ slot) (h1 : slot < c.s) {o : Rd} (hd : o.dn = false) (hn : o.nx = 6) (hl : setLs o.m o.l = lnew o.m) :
    ∃ o', Rch c h inn key slot o o' 2 ∧ o'.dn = true ∧ o'.e = o.td ∧ o'.m.ws = lvw c slot o.lp o.m.ws := by
  obtain ⟨a1, a2, a3, a4⟩ := alone_leaves hr h0 h1 (st := o.lp) o.m (k := 2) (by decide) _ rfl
  have e1 : rdstep c h inn key slot o = { o with m := (lit10 c slot o.lp (lnew o.m) 1).m, l := lit10 c slot o.lp (lnew o.m) 1 } := by
    rw [step6 hd hn, hl]
    show rd6 o (lit10 c slot o.lp (lnew o.m) 1) = _
    unfold rd6
    rw [if_neg (by rw [a4]; decide)]
  have e2 : rdstep c h inn key slot (rdstep c h inn key slot o) = { o with m := (lit10 c slot o.lp (lnew o.m) 2).m, l := lit10 c slot o.lp (lnew o.m) 2, dn := true, e := o.td } := by
    rw [e1, step6 (by exact hd) (by exact hn)]
    show rd6 _ (lit10 c slot o.lp (lnew o.m) 2) = _
    unfold rd6
    rw [if_pos a1]
  refine ⟨_, ⟨2, Nat.le_refl _, e2⟩, rfl, rfl, funext fun i => ?_⟩
  exact a2 i

theorem own_alone (hr : c.r = true) (h0 : 0 ≤ slot) (h1 : slot < c.s) (sw x : Int) (m : Mm) :
    ∃ k, k ≤ 2 ∧ 1 ≤ k ∧ (wit c slot sw x (lnew m) k).dn = true ∧ (∀ q, q < k → (wit c slot sw x (lnew m) q).dn = false) ∧ ∀ i : Nat, (wit c slot sw x (lnew m) k).m.ws i = if (i : Int) = c.cl 4 slot then withN (m.ws i) sw x else m.ws i := by
  have hc := (sl_cells hr h0 h1).1
  have hcn := cl_nat hr h0 h1
  by_cases hh : withN (m.ws (c.cl 4 slot).toNat) sw x = m.ws (c.cl 4 slot).toNat
  · obtain ⟨a1, a2, a3, a4⟩ := own_there hr h0 h1 m hh (k := 1) (by decide) _ rfl
    refine ⟨1, by decide, by decide, a1, fun q hq => ?_, fun i => ?_⟩
    · obtain rfl : q = 0 := by omega
      rfl
    · rw [a2]
      split
      · rename_i e
        rw [show i = (c.cl 4 slot).toNat by omega, hh]
      · rfl
  · have e1 : wit c slot sw x (lnew m) 1 = _ := wstep_look (sd := sw) (b := x) hr h0 h1 (o := lnew m) rfl rfl
    have hd1 : (wit c slot sw x (lnew m) 1).dn = false := by rw [e1]; exact decide_eq_false hh
    have hm1 : (wit c slot sw x (lnew m) 1).m.ws = m.ws := by rw [e1]; exact load_ws c m 4 slot
    have hs1 : (wit c slot sw x (lnew m) 1).s = m.ws (c.cl 4 slot).toNat := by rw [e1]; rfl
    have e2 : wit c slot sw x (lnew m) 2 = _ := wstep_lay (sd := sw) (b := x) hr h0 h1 (o := wit c slot sw x (lnew m) 1) hd1 (by rw [e1])
    refine ⟨2, by decide, by decide, by rw [e2]; exact decide_eq_true (by rw [hm1, hs1]), fun q hq => ?_, fun i => ?_⟩
    · match q, hq with
      | 0, _ => rfl
      | 1, _ => exact hd1
    · rw [e2]
      show (mtouch c _ 3 4 slot _ _).ws i = _
      rw [swap_ws, hm1, hs1]
      by_cases e : (i : Int) = c.cl 4 slot
      · have ei : i = (c.cl 4 slot).toNat := by omega
        rw [if_pos ⟨e, by rw [ei]⟩, if_pos e, ei]
      · rw [if_neg (fun q => e q.1), if_neg e]

/-- words when an own end was laid -/
def ownw (c : Cf) (sw slot x : Int) (ws : Nat → Nat) (i : Nat) : Nat := if (i : Int) = c.cl 4 slot then withN (ws i) sw x else ws i

theorem reach5 (hr : c.r = true) (h0 : 0 ≤ slot) (h1 : slot < c.s) {o : Rd} (hd : o.dn = false) (hn : o.nx = 5) (hl : setLs o.m o.o = lnew o.m) :
    ∃ E : Ls, Rch c h inn key slot o (rdgo { o with m := E.m, o := E, ot := o.ot.tail }) 2 ∧ E.m.ws = ownw c 0 slot o.op o.m.ws := by
  obtain ⟨k, hk2, hk1, a1, a2, a3⟩ := own_alone hr h0 h1 0 o.op o.m
  refine ⟨wit c slot 0 o.op (lnew o.m) k, ?_, funext fun i => a3 i⟩
  have main : ∀ q, q < k → rdit c h inn key slot o q = { o with m := (wit c slot 0 o.op (lnew o.m) q).m, o := if q = 0 then o.o else wit c slot 0 o.op (lnew o.m) q } := by
    intro q
    induction q with
    | zero => intro _; rfl
    | succ q ih =>
      intro hq
      show rdstep c h inn key slot (rdit c h inn key slot o q) = _
      rw [ih (by omega), step5 (by exact hd) (by exact hn)]
      have hs : wstep c slot 0 o.op (setLs (wit c slot 0 o.op (lnew o.m) q).m (if q = 0 then o.o else wit c slot 0 o.op (lnew o.m) q)) = wit c slot 0 o.op (lnew o.m) (q + 1) := by
        by_cases e : q = 0
        · subst e
          show wstep c slot 0 o.op (setLs o.m o.o) = _
          rw [hl]
          rfl
        · rw [if_neg e]
          rfl
      show rd5 _ (wstep c slot 0 o.op (setLs (wit c slot 0 o.op (lnew o.m) q).m (if q = 0 then o.o else wit c slot 0 o.op (lnew o.m) q))) = _
      rw [hs]
      unfold rd5
      rw [if_neg (by rw [a2 (q + 1) hq]; decide), if_neg (show ¬ q + 1 = 0 by omega)]
  obtain ⟨q, rfl⟩ : ∃ q, k = q + 1 := ⟨k - 1, by omega⟩
  refine ⟨q + 1, hk2, ?_⟩
  show rdstep c h inn key slot (rdit c h inn key slot o q) = _
  rw [main q (by omega), step5 (by exact hd) (by exact hn)]
  have hs : wstep c slot 0 o.op (setLs (wit c slot 0 o.op (lnew o.m) q).m (if q = 0 then o.o else wit c slot 0 o.op (lnew o.m) q)) = wit c slot 0 o.op (lnew o.m) (q + 1) := by
    by_cases e : q = 0
    · subst e
      show wstep c slot 0 o.op (setLs o.m o.o) = _
      rw [hl]
      rfl
    · rw [if_neg e]
      rfl
  show rd5 _ (wstep c slot 0 o.op (setLs (wit c slot 0 o.op (lnew o.m) q).m (if q = 0 then o.o else wit c slot 0 o.op (lnew o.m) q))) = _
  rw [hs]
  unfold rd5
  rw [if_pos a1]

end

end Um

/-
  Plain arithmetic of layer 12: a read that is alone, to its end. No Go in sight.
-/
namespace Um
set_option maxRecDepth 100000

/-- (so: the side of the other one's end, sw: of one's own: 1, 0 for a read, 0, 1 for a write) what a join comes to, alone: the other one may be a slot that there is not -/
def cfl (c : Cf) (so slot : Int) (n : Nat) (ws : Nat → Nat) (x : Int) : Nat := if x < c.s then jtg so slot n (ws (c.cl 4 x).toNat) (ws (c.cl 6 x).toNat) else 1

/-- words when the other one has its end -/
def othw (c : Cf) (so slot x : Int) (ws : Nat → Nat) (i : Nat) : Nat := if (i : Int) = c.cl 4 x then withN (ws i) so slot else ws i

/-- conflicts with others, one behind the other, and whether it may go on -/
def conf (c : Cf) (so sw slot : Int) (n : Nat) : (Nat → Nat) → List Int → (Nat → Nat) × Bool
  | ws, [] => (ws, true)
  | ws, x :: r => if cfl c so slot n ws x = 3 then (ws, false) else if cfl c so slot n ws x = 2 then conf c so sw slot n (ownw c sw slot x (othw c so slot x ws)) r else conf c so sw slot n ws r

theorem cl_none {c : Cf} (hr : c.r = true) {a x : Int} (ha : a = 4 ∨ a = 5 ∨ a = 6 ∨ a = 7) (h1 : ¬ x < c.s) : c.cl a x < 0 := by
  have hb := c.rb hr
  unfold Cf.cl cellN
  rw [hr]
  rcases ha with rfl | rfl | rfl | rfl <;> simp [h1]

section
variable {c : Cf} {h : Nat} {inn : Nat → Bool} {key slot : Int}

theorem join_end (hr : c.r = true) (so slot : Int) (n : Nat) {x : Int} (x0 : 0 ≤ x) (m : Mm) :
    ∃ k, k ≤ 3 ∧ 1 ≤ k ∧ (∀ q, q < k → (jit c x so slot n (jnew m) q).r = 0) ∧ (jit c x so slot n (jnew m) k).r = cfl c so slot n m.ws x ∧ (jit c x so slot n (jnew m) k).m.ws = (if cfl c so slot n m.ws x = 2 then othw c so slot x m.ws else m.ws) := by
  by_cases x1 : x < c.s
  · obtain ⟨a1, a2, a3, _⟩ := join_alone (sd := so) (b := slot) (sn := n) hr x0 x1 m (k := 3) (by decide) _ rfl
    have hcf : cfl c so slot n m.ws x = jtg so slot n (m.ws (c.cl 4 x).toNat) (m.ws (c.cl 6 x).toNat) := if_pos x1
    have fin : ∀ k, (jit c x so slot n (jnew m) k).r ≠ 0 → k ≤ 3 → (jit c x so slot n (jnew m) k).r = cfl c so slot n m.ws x ∧ (jit c x so slot n (jnew m) k).m.ws = (if cfl c so slot n m.ws x = 2 then othw c so slot x m.ws else m.ws) := by
      intro k hk hk3
      rw [← jit_end hk hk3, hcf, ← a1]
      refine ⟨rfl, funext fun i => ?_⟩
      rw [a2 i]
      by_cases e2 : (jit c x so slot n (jnew m) 3).r = 2
      · rw [if_pos e2]
        unfold othw
        by_cases ei : (i : Int) = c.cl 4 x
        · rw [if_pos ⟨e2, ei⟩, if_pos ei]
        · rw [if_neg (fun q => ei q.2), if_neg ei]
      · rw [if_neg e2, if_neg (fun q => e2 q.1)]
    by_cases h1 : (jit c x so slot n (jnew m) 1).r = 0
    · by_cases h2 : (jit c x so slot n (jnew m) 2).r = 0
      · refine ⟨3, by decide, by decide, fun q hq => ?_, (fin 3 a3 (by decide)).1, (fin 3 a3 (by decide)).2⟩
        match q, hq with
        | 0, _ => rfl
        | 1, _ => exact h1
        | 2, _ => exact h2
      · refine ⟨2, by decide, by decide, fun q hq => ?_, (fin 2 h2 (by decide)).1, (fin 2 h2 (by decide)).2⟩
        match q, hq with
        | 0, _ => rfl
        | 1, _ => exact h1
    · refine ⟨1, by decide, by decide, fun q hq => ?_, (fin 1 h1 (by decide)).1, (fin 1 h1 (by decide)).2⟩
      obtain rfl : q = 0 := by omega
      rfl
  · have hcl := cl_none hr (a := 4) (.inl rfl) x1
    have hold : (mtouch c m 1 4 x 0 0).l.old = 0 := by rw [load_old, if_neg (by omega)]
    have hcf : cfl c so slot n m.ws x = 1 := if_neg x1
    have e1 : jit c x so slot n (jnew m) 1 = ⟨mtouch c m 1 4 x 0 0, 0, 0, 1⟩ := by
      have hold2 : (mtouch c (jnew m).m 1 4 x 0 0).l.old = 0 := hold
      show jstep c x so slot n (jnew m) = _
      unfold jstep
      rw [if_neg (fun q => q rfl), if_pos (show (jnew m).nx = 0 from rfl), hold2, if_neg (by decide), if_neg (by decide)]
      rfl
    refine ⟨1, by decide, by decide, fun q hq => ?_, ?_, ?_⟩
    · obtain rfl : q = 0 := by omega
      rfl
    · rw [e1, hcf]
    · rw [e1, hcf, if_neg (by decide)]
      exact load_ws c m 4 x

theorem reach4 (hr : c.r = true) {o : Rd} (hd : o.dn = false) (hn : o.nx = 4) (hj : setJ o.m o.j = jnew o.m) (x0 : 0 ≤ o.jp) :
    ∃ A : Js, Rch c h inn key slot o (rd4 o A) 3 ∧ A.r = cfl c 1 slot o.n o.m.ws o.jp ∧ A.m.ws = (if cfl c 1 slot o.n o.m.ws o.jp = 2 then othw c 1 slot o.jp o.m.ws else o.m.ws) := by
  obtain ⟨k, hk3, hk1, a1, a2, a3⟩ := join_end hr 1 slot o.n x0 o.m
  refine ⟨jit c o.jp 1 slot o.n (jnew o.m) k, ?_, a2, a3⟩
  have stp : ∀ q, jstep c o.jp 1 slot o.n (setJ (jit c o.jp 1 slot o.n (jnew o.m) q).m (if q = 0 then o.j else jit c o.jp 1 slot o.n (jnew o.m) q)) = jit c o.jp 1 slot o.n (jnew o.m) (q + 1) := by
    intro q
    by_cases e : q = 0
    · subst e
      show jstep c o.jp 1 slot o.n (setJ o.m o.j) = _
      rw [hj]
      rfl
    · rw [if_neg e]
      rfl
  have main : ∀ q, q < k → rdit c h inn key slot o q = { o with m := (jit c o.jp 1 slot o.n (jnew o.m) q).m, j := if q = 0 then o.j else jit c o.jp 1 slot o.n (jnew o.m) q } := by
    intro q
    induction q with
    | zero => intro _; rfl
    | succ q ih =>
      intro hq
      show rdstep c h inn key slot (rdit c h inn key slot o q) = _
      rw [ih (by omega), step4 (by exact hd) (by exact hn)]
      show rd4 _ (jstep c o.jp 1 slot o.n (setJ (jit c o.jp 1 slot o.n (jnew o.m) q).m (if q = 0 then o.j else jit c o.jp 1 slot o.n (jnew o.m) q))) = _
      rw [stp]
      have hz := a1 (q + 1) hq
      unfold rd4
      rw [if_neg (by rw [hz]; decide), if_neg (by rw [hz]; decide), if_neg (by rw [hz]; decide), if_neg (show ¬ q + 1 = 0 by omega)]
  obtain ⟨q, rfl⟩ : ∃ q, k = q + 1 := ⟨k - 1, by omega⟩
  refine ⟨q + 1, hk3, ?_⟩
  show rdstep c h inn key slot (rdit c h inn key slot o q) = _
  rw [main q (by omega), step4 (by exact hd) (by exact hn)]
  show rd4 _ (jstep c o.jp 1 slot o.n (setJ (jit c o.jp 1 slot o.n (jnew o.m) q).m (if q = 0 then o.j else jit c o.jp 1 slot o.n (jnew o.m) q))) = _
  rw [stp]
  rfl

theorem cfl_range (c : Cf) (so slot : Int) (n : Nat) (ws : Nat → Nat) (x : Int) : cfl c so slot n ws x = 1 ∨ cfl c so slot n ws x = 2 ∨ cfl c so slot n ws x = 3 := by
  unfold cfl
  split
  · unfold jtg
    (repeat' split) <;> simp
  · exact .inl rfl

theorem go_alone (hr : c.r = true) (h0 : 0 ≤ slot) (h1 : slot < c.s) : ∀ (L : List Int) (o : Rd), o.ot = L → o.dn = false → (∀ x ∈ L, 0 ≤ x) →
    ∃ o', Rch c h inn key slot (rdgo o) o' (5 * L.length + 2) ∧ o'.dn = true ∧ o'.e = (if (conf c 1 0 slot o.n o.m.ws L).2 = true then 0 else 7) ∧ o'.m.ws = lvw c slot (if (conf c 1 0 slot o.n o.m.ws L).2 = true then -1 else 5) (conf c 1 0 slot o.n o.m.ws L).1 := by
  intro L
  induction L with
  | nil =>
    intro o ho hd _
    have e : rdgo o = rdlv o (-1) 0 := by unfold rdgo; rw [ho]
    rw [e]
    obtain ⟨o', r1, r2, r3, r4⟩ := reach6 (h := h) (inn := inn) (key := key) hr h0 h1 (o := rdlv o (-1) 0) hd rfl rfl
    exact ⟨o', r1, r2, r3, r4⟩
  | cons x r ih =>
    intro o ho hd hx
    have e : rdgo o = { o with j := jnew o.m, jp := x, ja := true, nx := 4 } := by unfold rdgo; rw [ho]
    rw [e]
    obtain ⟨A, r1, r2, r3⟩ := reach4 (h := h) (inn := inn) (key := key) (slot := slot) hr (o := { o with j := jnew o.m, jp := x, ja := true, nx := 4 }) hd rfl rfl (hx x List.mem_cons_self)
    have hcf : conf c 1 0 slot o.n o.m.ws (x :: r) = if cfl c 1 slot o.n o.m.ws x = 3 then (o.m.ws, false) else if cfl c 1 slot o.n o.m.ws x = 2 then conf c 1 0 slot o.n (ownw c 0 slot x (othw c 1 slot x o.m.ws)) r else conf c 1 0 slot o.n o.m.ws r := rfl
    have r2' : A.r = cfl c 1 slot o.n o.m.ws x := r2
    have r3' : A.m.ws = (if cfl c 1 slot o.n o.m.ws x = 2 then othw c 1 slot x o.m.ws else o.m.ws) := r3
    have hlen : (x :: r).length = r.length + 1 := rfl
    rcases cfl_range c 1 slot o.n o.m.ws x with q | q | q
    · have hq : conf c 1 0 slot o.n o.m.ws (x :: r) = conf c 1 0 slot o.n o.m.ws r := by rw [hcf, if_neg (by rw [q]; decide), if_neg (by rw [q]; decide)]
      rw [hq]
      rw [q] at r2' r3'
      rw [if_neg (by decide)] at r3'
      unfold rd4 at r1
      rw [if_pos r2'] at r1
      obtain ⟨o', s1, s2, s3, s4⟩ := ih { o with j := A, jp := x, ja := true, nx := 4, m := A.m, ot := o.ot.tail } (by rw [ho]; rfl) hd (fun y hy => hx y (List.mem_cons_of_mem _ hy))
      have s3' : o'.e = (if (conf c 1 0 slot o.n A.m.ws r).2 = true then 0 else 7) := s3
      have s4' : o'.m.ws = lvw c slot (if (conf c 1 0 slot o.n A.m.ws r).2 = true then -1 else 5) (conf c 1 0 slot o.n A.m.ws r).1 := s4
      rw [r3'] at s3' s4'
      exact ⟨o', (r1.trans s1).mono (by omega), s2, s3', s4'⟩
    · have hq : conf c 1 0 slot o.n o.m.ws (x :: r) = conf c 1 0 slot o.n (ownw c 0 slot x (othw c 1 slot x o.m.ws)) r := by rw [hcf, if_neg (by rw [q]; decide), if_pos q]
      rw [hq]
      rw [q] at r2' r3'
      rw [if_pos rfl] at r3'
      unfold rd4 at r1
      rw [if_neg (by rw [r2']; decide), if_pos r2'] at r1
      obtain ⟨E, t1, t2⟩ := reach5 (h := h) (inn := inn) (key := key) hr h0 h1 (o := { o with j := A, jp := x, ja := true, m := A.m, o := lnew A.m, op := x, oa := true, nx := 5 }) hd rfl rfl
      have t2' : E.m.ws = ownw c 0 slot x A.m.ws := t2
      obtain ⟨o', s1, s2, s3, s4⟩ := ih { o with j := A, jp := x, ja := true, m := E.m, o := E, op := x, oa := true, nx := 5, ot := o.ot.tail } (by rw [ho]; rfl) hd (fun y hy => hx y (List.mem_cons_of_mem _ hy))
      have s3' : o'.e = (if (conf c 1 0 slot o.n E.m.ws r).2 = true then 0 else 7) := s3
      have s4' : o'.m.ws = lvw c slot (if (conf c 1 0 slot o.n E.m.ws r).2 = true then -1 else 5) (conf c 1 0 slot o.n E.m.ws r).1 := s4
      rw [t2', r3'] at s3' s4'
      exact ⟨o', ((r1.trans t1).trans s1).mono (by omega), s2, s3', s4'⟩
    · have hq : conf c 1 0 slot o.n o.m.ws (x :: r) = (o.m.ws, false) := by rw [hcf, if_pos q]
      rw [hq]
      rw [q] at r2' r3'
      rw [if_neg (by decide)] at r3'
      unfold rd4 at r1
      rw [if_neg (by rw [r2']; decide), if_neg (by rw [r2']; decide), if_pos r2'] at r1
      obtain ⟨o', s1, s2, s3, s4⟩ := reach6 (h := h) (inn := inn) (key := key) hr h0 h1 (o := rdlv { o with j := A, jp := x, ja := true, nx := 4, m := A.m } 5 7) hd rfl rfl
      have s4' : o'.m.ws = lvw c slot 5 A.m.ws := s4
      rw [r3'] at s4'
      exact ⟨o', (r1.trans s1).mono (by omega), s2, s3, s4'⟩

/-! ## from its beginning -/

/-- a new read -/
def rdnew (m : Mm) : Rd := ⟨m, 0, 0, 0, [], enew m, jnew m, 0, false, lnew m, 0, false, lnew m, 0, false, 0, 0, false⟩

/-- words with a transaction busy; with a key marked -/
def bsw (c : Cf) (slot : Int) (ws : Nat → Nat) (i : Nat) : Nat := if (i : Int) = c.cl 4 slot then bzN (ws i) else ws i
def mkw (c : Cf) (sd key slot : Int) (ws : Nat → Nat) (i : Nat) : Nat := if (i : Int) = c.cl 8 key then withN (ws i) sd slot else ws i

theorem key_cells {c : Cf} (hr : c.r = true) {key slot : Int} (h0 : 0 ≤ slot) (h1 : slot < c.s) (k0 : 0 ≤ key) (k1 : key < c.k) : 0 < c.cl 8 key ∧ c.cl 8 key ≠ c.cl 4 slot ∧ c.cl 8 key ≠ c.cl 5 slot ∧ c.cl 8 key ≠ c.cl 6 slot := by
  have hb := c.rb hr
  unfold Cf.cl cellN
  rw [hr]
  simp [h0, h1, k0, k1]
  omega

theorem slotsTo_mem {x : Nat} {a : Int} {k : Nat} {y : Int} (hy : y ∈ slotsTo x a k) : 0 ≤ y ∧ y < k := by
  unfold slotsTo at hy
  obtain ⟨j, hj, rfl⟩ := List.mem_map.1 hy
  have := (List.mem_filter.1 hj).1
  have := List.mem_range.1 this
  omega

theorem others_mem {x : Nat} {a s y : Int} (hy : y ∈ othersN x a s) : 0 ≤ y ∧ y ≤ 11 ∧ y ≠ s := by
  unfold othersN at hy
  obtain ⟨h1, h2⟩ := List.mem_filter.1 hy
  have := slotsTo_mem h1
  exact ⟨this.1, by omega, by simpa using h2⟩

theorem others_len (x : Nat) (a s : Int) : (othersN x a s).length ≤ 12 := by
  unfold othersN slotsN slotsTo
  refine Nat.le_trans (List.length_filter_le _ _) ?_
  rw [List.length_map]
  refine Nat.le_trans (List.length_filter_le _ _) ?_
  rw [List.length_range]
  exact Nat.le_refl _

theorem read_barred (hr : c.r = true) (hn : ook h c.s = true) (m : Mm) (hf : flN h inn (m.ws (c.cl 4 (svN h)).toNat) ≠ 0) :
    ∃ o', Rch c h inn key slot (rdnew m) o' 1 ∧ o'.dn = true ∧ o'.e = flN h inn (m.ws (c.cl 4 (svN h)).toNat) ∧ o'.m.ws = m.ws := by
  obtain ⟨a1, a2, _, a4⟩ := alone_amiss hr m hn hf (k := 1) (by decide) _ rfl
  have e1 : rdstep c h inn key slot (rdnew m) = { rdnew m with m := (eit c h inn (enew m) 1).m, g := eit c h inn (enew m) 1, nx := 1, e := (eit c h inn (enew m) 1).e, dn := decide ((eit c h inn (enew m) 1).e ≠ 0) } := by
    rw [step0 rfl rfl]
    show rd0 (rdnew m) (eit c h inn (enew m) 1) = _
    unfold rd0
    rw [if_pos a1]
  exact ⟨_, Rch.step e1, decide_eq_true (by rw [a2]; exact hf), a2, a4⟩

/-- it is entered: two steps -/
theorem read_enter (hr : c.r = true) (hn : ook h c.s = true) (hs : svN h = slot) (m : Mm) (hf : flN h inn (m.ws (c.cl 4 slot).toNat) = 0) :
    ∃ G : Es, Rch c h inn key slot (rdnew m) { rdnew m with m := G.m, g := G, nx := 1, e := 0, dn := false } 2 ∧ G.m.ws = bsw c slot m.ws := by
  subst hs
  obtain ⟨a1, a2, _, a4, a5⟩ := alone_enters hr m hn hf (k := 2) (by decide) _ rfl
  have b1 : (eit c h inn (enew m) 1).en = false := by
    unfold edn at a5
    rw [hn] at a5
    cases hq : (eit c h inn (enew m) 1).en
    · rfl
    · rw [hq] at a5; cases a5
  refine ⟨eit c h inn (enew m) 2, ⟨2, Nat.le_refl _, ?_⟩, funext fun i => a4 i⟩
  have e1 : rdstep c h inn key (svN h) (rdnew m) = { rdnew m with m := (eit c h inn (enew m) 1).m, g := eit c h inn (enew m) 1 } := by
    rw [step0 rfl rfl]
    show rd0 (rdnew m) (eit c h inn (enew m) 1) = _
    unfold rd0
    rw [if_neg (by rw [b1]; decide)]
  show rdstep c h inn key (svN h) (rdstep c h inn key (svN h) (rdnew m)) = _
  rw [e1, step0 rfl rfl]
  show rd0 _ (eit c h inn (enew m) 2) = _
  unfold rd0
  rw [if_pos a1, a2]
  rfl

theorem read_alone (hr : c.r = true) (hn : ook h c.s = true) (hs : svN h = slot) (k0 : 0 ≤ key) (k1 : key < c.k) (m : Mm) (hf : flN h inn (m.ws (c.cl 4 slot).toNat) = 0)
    (R : (Nat → Nat) × Bool) (hR : R = conf c 1 0 slot (m.ws (c.cl 5 slot).toNat) (mkw c 0 key slot (bsw c slot m.ws)) (othersN (m.ws (c.cl 8 key).toNat) 1 slot)) :
    ∃ o', Rch c h inn key slot (rdnew m) o' 70 ∧ o'.dn = true ∧ o'.e = (if R.2 = true then 0 else 7) ∧ o'.m.ws = lvw c slot (if R.2 = true then -1 else 5) R.1 := by
  obtain ⟨G, g1, g2⟩ := read_enter (key := key) hr hn hs m hf
  have hsl : 0 ≤ slot ∧ slot < c.s := by
    obtain ⟨f0, f1, _⟩ := ook_facts hn
    rw [hs] at f0 f1
    exact ⟨f0, f1⟩
  obtain ⟨h0, h1⟩ := hsl
  obtain ⟨c4, c5, _⟩ := sl_cells hr h0 h1
  obtain ⟨d1, d2, d3, _⟩ := key_cells hr h0 h1 k0 k1
  have hG5 : G.m.ws (c.cl 5 slot).toNat = m.ws (c.cl 5 slot).toNat := by rw [g2]; exact if_neg (by omega)
  have hG8 : G.m.ws (c.cl 8 key).toNat = m.ws (c.cl 8 key).toNat := by rw [g2]; exact if_neg (by omega)
  obtain ⟨M1, hM1⟩ : ∃ M1, M1 = mtouch c G.m 1 5 slot 0 0 := ⟨_, rfl⟩
  have o1 : M1.l.old = m.ws (c.cl 5 slot).toNat := by rw [hM1, load_old, if_pos (by omega), hG5]
  have w1 : M1.ws = G.m.ws := by rw [hM1, load_ws]
  obtain ⟨M2, hM2⟩ : ∃ M2, M2 = mtouch c M1 1 8 key 0 0 := ⟨_, rfl⟩
  have o2 : M2.l.old = m.ws (c.cl 8 key).toNat := by rw [hM2, load_old, if_pos (by omega), w1, hG8]
  have w2 : M2.ws = G.m.ws := by rw [hM2, load_ws, w1]
  have e1 : rdstep c h inn key slot { rdnew m with m := G.m, g := G, nx := 1, e := 0, dn := false } = { rdnew m with m := M1, g := G, nx := 2, e := 0, dn := false, n := M1.l.old } := by
    rw [step1 rfl rfl]
    show rd1 _ (mtouch c G.m 1 5 slot 0 0) = _
    rw [← hM1]
    rfl
  have e2 : rdstep c h inn key slot { rdnew m with m := M1, g := G, nx := 2, e := 0, dn := false, n := M1.l.old } = rd2 slot { rdnew m with m := M1, g := G, nx := 2, e := 0, dn := false, n := M1.l.old } M2 := by
    rw [step2 rfl rfl, hM2]
  have p1 := (g1.trans (Rch.step e1)).trans (Rch.step e2)
  have hlen := others_len (m.ws (c.cl 8 key).toNat) 1 slot
  have hmem : ∀ y ∈ othersN (m.ws (c.cl 8 key).toNat) 1 slot, 0 ≤ y := fun y hy => (others_mem hy).1
  by_cases hh : hasN (m.ws (c.cl 8 key).toNat) 0 slot = true
  · have hmk : mkw c 0 key slot (bsw c slot m.ws) = M2.ws := by
      rw [w2, ← g2]
      funext i
      unfold mkw
      split
      · rename_i e
        rw [show i = (c.cl 8 key).toNat by omega, hG8, with_self hh]
      · rfl
    unfold rd2 at p1
    rw [if_pos (by rw [o2]; exact hh)] at p1
    obtain ⟨o', s1, s2, s3, s4⟩ := go_alone (h := h) (inn := inn) (key := key) hr h0 h1 (othersN (m.ws (c.cl 8 key).toNat) 1 slot) { rdnew m with m := M2, g := G, nx := 3, e := 0, dn := false, n := M1.l.old, w := M2.l.old, ot := othersN M2.l.old 1 slot } (by show othersN M2.l.old 1 slot = _; rw [o2]) rfl hmem
    have hc : conf c 1 0 slot M1.l.old M2.ws (othersN (m.ws (c.cl 8 key).toNat) 1 slot) = R := by rw [hR, o1, hmk]
    have s3' : o'.e = (if (conf c 1 0 slot M1.l.old M2.ws (othersN (m.ws (c.cl 8 key).toNat) 1 slot)).2 = true then 0 else 7) := s3
    have s4' : o'.m.ws = lvw c slot (if (conf c 1 0 slot M1.l.old M2.ws (othersN (m.ws (c.cl 8 key).toNat) 1 slot)).2 = true then -1 else 5) (conf c 1 0 slot M1.l.old M2.ws (othersN (m.ws (c.cl 8 key).toNat) 1 slot)).1 := s4
    rw [hc] at s3' s4'
    exact ⟨o', (p1.trans s1).mono (by omega), s2, s3', s4'⟩
  · obtain ⟨M3, hM3⟩ : ∃ M3, M3 = mtouch c M2 3 8 key M2.l.old (withN M2.l.old 0 slot) := ⟨_, rfl⟩
    have hat : M2.ws (c.cl 8 key).toNat = M2.l.old := by rw [w2, hG8, o2]
    have hdn : M3.l.done = true := by rw [hM3, swap_done]; exact decide_eq_true ⟨by omega, hat⟩
    have hmk : mkw c 0 key slot (bsw c slot m.ws) = M3.ws := by
      rw [← g2, ← w2]
      funext i
      rw [hM3, swap_ws]
      unfold mkw
      by_cases e : (i : Int) = c.cl 8 key
      · have ei : i = (c.cl 8 key).toNat := by omega
        rw [if_pos e, if_pos ⟨e, by rw [ei]; exact hat⟩, ei, hat]
      · rw [if_neg e, if_neg (fun q => e q.1)]
    unfold rd2 at p1
    rw [if_neg (by rw [o2]; exact hh)] at p1
    have e3 : rdstep c h inn key slot { rdnew m with m := M2, g := G, nx := 3, e := 0, dn := false, n := M1.l.old, w := M2.l.old } = rd3 slot { rdnew m with m := M2, g := G, nx := 3, e := 0, dn := false, n := M1.l.old, w := M2.l.old } M3 := by
      rw [step3 rfl rfl, hM3]
    have p2 := p1.trans (Rch.step e3)
    unfold rd3 at p2
    rw [if_pos hdn] at p2
    obtain ⟨o', s1, s2, s3, s4⟩ := go_alone (h := h) (inn := inn) (key := key) hr h0 h1 (othersN (m.ws (c.cl 8 key).toNat) 1 slot) { rdnew m with m := M3, g := G, nx := 2, e := 0, dn := false, n := M1.l.old, w := M2.l.old, ot := othersN M2.l.old 1 slot } (by show othersN M2.l.old 1 slot = _; rw [o2]) rfl hmem
    have hc : conf c 1 0 slot M1.l.old M3.ws (othersN (m.ws (c.cl 8 key).toNat) 1 slot) = R := by rw [hR, o1, hmk]
    have s3' : o'.e = (if (conf c 1 0 slot M1.l.old M3.ws (othersN (m.ws (c.cl 8 key).toNat) 1 slot)).2 = true then 0 else 7) := s3
    have s4' : o'.m.ws = lvw c slot (if (conf c 1 0 slot M1.l.old M3.ws (othersN (m.ws (c.cl 8 key).toNat) 1 slot)).2 = true then -1 else 5) (conf c 1 0 slot M1.l.old M3.ws (othersN (m.ws (c.cl 8 key).toNat) 1 slot)).1 := s4
    rw [hc] at s3' s4'
    exact ⟨o', (p2.trans s1).mono (by omega), s2, s3', s4'⟩

end

end Um

/-
  Plain arithmetic of layer 12: what conflicts with many change, in whatever order. No Go in sight.
-/
namespace Um
set_option maxRecDepth 100000

/-- words when a conflict was laid, both ends -/
def layw (c : Cf) (so sw slot x : Int) (ws : Nat → Nat) : Nat → Nat := ownw c sw slot x (othw c so slot x ws)

/-- conflicts with those of a row that have to be laid -/
def layL (c : Cf) (so sw slot : Int) (P : Int → Bool) : (Nat → Nat) → List Int → Nat → Nat
  | ws, [] => ws
  | ws, x :: r => layL c so sw slot P (if P x = true then layw c so sw slot x ws else ws) r

section
variable {c : Cf} {so sw slot : Int} {n : Nat}

/-- other cells than the two statuses stay -/
theorem layw_other {x : Int} {ws : Nat → Nat} {i : Nat} (h1 : (i : Int) ≠ c.cl 4 slot) (h2 : (i : Int) ≠ c.cl 4 x) : layw c so sw slot x ws i = ws i := by
  unfold layw ownw
  rw [if_neg h1]
  unfold othw
  rw [if_neg h2]

theorem layw_own {x : Int} {ws : Nat → Nat} {i : Nat} (h1 : (i : Int) = c.cl 4 slot) (h2 : (i : Int) ≠ c.cl 4 x) : layw c so sw slot x ws i = withN (ws i) sw x := by
  unfold layw ownw
  rw [if_pos h1]
  unfold othw
  rw [if_neg h2]

theorem layw_oth {x : Int} {ws : Nat → Nat} {i : Nat} (h1 : (i : Int) ≠ c.cl 4 slot) (h2 : (i : Int) = c.cl 4 x) : layw c so sw slot x ws i = withN (ws i) so slot := by
  unfold layw ownw
  rw [if_neg h1]
  unfold othw
  rw [if_pos h2]

theorem cl4_ne (hr : c.r = true) {x y : Int} (x0 : 0 ≤ x) (x1 : x < c.s) (y0 : 0 ≤ y) (y1 : y < c.s) (h : x ≠ y) : c.cl 4 x ≠ c.cl 4 y := fun e => h (cl_inj hr x0 x1 y0 y1 e)

theorem cl46_ne (hr : c.r = true) {x y : Int} (x0 : 0 ≤ x) (x1 : x < c.s) (y0 : 0 ≤ y) (y1 : y < c.s) : c.cl 6 x ≠ c.cl 4 y := by
  have hb := c.rb hr
  unfold Cf.cl cellN
  rw [hr]
  simp [x0, x1, y0, y1]
  omega

theorem cl5_ne (hr : c.r = true) {x y : Int} (x0 : 0 ≤ x) (x1 : x < c.s) (y0 : 0 ≤ y) (y1 : y < c.s) : c.cl 5 x ≠ c.cl 4 y := by
  have hb := c.rb hr
  unfold Cf.cl cellN
  rw [hr]
  simp [x0, x1, y0, y1]
  omega

/-- what a join comes to hangs on nothing that a conflict laid changes -/
theorem cfl_lay (hr : c.r = true) (hso : so = 0 ∨ so = 1) (h0 : 0 ≤ slot) (h1 : slot < c.s) {ws : Nat → Nat} {x y : Int} (x0 : 0 ≤ x) (hx : x ≠ slot) (y0 : 0 ≤ y) (hy : y ≠ slot) (hl : cfl c so slot n ws y = 2) : cfl c so slot n (layw c so sw slot y ws) x = cfl c so slot n ws x := by
  unfold cfl
  by_cases x1 : x < c.s
  · rw [if_pos x1, if_pos x1]
    have y1 : y < c.s := by
      unfold cfl at hl
      rcases Int.lt_or_le y c.s with q | q
      · exact q
      · rw [if_neg (by omega)] at hl; cases hl
    have ex := cl_nat hr x0 x1
    have e6 : (((c.cl 6 x).toNat : Nat) : Int) = c.cl 6 x := by
      have := (sl_cells hr x0 x1)
      omega
    have n6 : layw c so sw slot y ws (c.cl 6 x).toNat = ws (c.cl 6 x).toNat := layw_other (by rw [e6]; exact cl46_ne hr x0 x1 h0 h1) (by rw [e6]; exact cl46_ne hr x0 x1 y0 y1)
    have s4 : (((c.cl 4 x).toNat : Nat) : Int) ≠ c.cl 4 slot := by rw [ex]; exact cl4_ne hr x0 x1 h0 h1 hx
    rw [n6]
    by_cases e : x = y
    · subst e
      rw [layw_oth s4 ex]
      unfold cfl at hl
      rw [if_pos x1] at hl
      have ho : okS so slot = true := okS_iff.2 ⟨hso, h0, by have := c.rb hr; omega⟩
      rw [hl]
      unfold jtg at hl ⊢
      rw [st_with, hasN_with, ho]
      split at hl
      · cases hl
      · rename_i q
        rw [if_neg q, if_pos rfl]
    · rw [layw_other s4 (by rw [ex]; exact cl4_ne hr x0 x1 y0 y1 e)]
  · rw [if_neg x1, if_neg x1]

/-- conflicts with a row: those that have to be laid, up to the first one that must not have it -/
theorem conf_lays (hr : c.r = true) (hso : so = 0 ∨ so = 1) (h0 : 0 ≤ slot) (h1 : slot < c.s) (P : Int → Bool) : ∀ (L : List Int) (ws : Nat → Nat), (∀ x ∈ L, 0 ≤ x ∧ x ≠ slot) → (∀ x ∈ L, P x = decide (cfl c so slot n ws x = 2)) →
    ∃ L', (∀ x ∈ L', x ∈ L) ∧ (conf c so sw slot n ws L).1 = layL c so sw slot P ws L' ∧ ((conf c so sw slot n ws L).2 = true → L' = L ∧ ∀ x ∈ L, cfl c so slot n ws x ≠ 3) ∧ ((∀ x ∈ L, cfl c so slot n ws x ≠ 3) → (conf c so sw slot n ws L).2 = true) := by
  intro L
  induction L with
  | nil => intro ws _ _; exact ⟨[], by simp, rfl, fun _ => ⟨rfl, by simp⟩, fun _ => rfl⟩
  | cons x r ih =>
    intro ws hx hP
    have hcf : conf c so sw slot n ws (x :: r) = if cfl c so slot n ws x = 3 then (ws, false) else if cfl c so slot n ws x = 2 then conf c so sw slot n (layw c so sw slot x ws) r else conf c so sw slot n ws r := rfl
    obtain ⟨x0, xs⟩ := hx x List.mem_cons_self
    have hr' : ∀ y ∈ r, 0 ≤ y ∧ y ≠ slot := fun y hy => hx y (List.mem_cons_of_mem _ hy)
    rcases cfl_range c so slot n ws x with q | q | q
    · have e : conf c so sw slot n ws (x :: r) = conf c so sw slot n ws r := by rw [hcf, if_neg (by rw [q]; decide), if_neg (by rw [q]; decide)]
      obtain ⟨L', a1, a2, a3, a4⟩ := ih ws hr' (fun y hy => hP y (List.mem_cons_of_mem _ hy))
      have hp : P x = false := by rw [hP x List.mem_cons_self, q]; rfl
      refine ⟨x :: L', fun y hy => ?_, ?_, fun h => ?_, fun h => ?_⟩
      · rcases List.mem_cons.1 hy with rfl | hy
        · exact List.mem_cons_self
        · exact List.mem_cons_of_mem _ (a1 y hy)
      · rw [e, a2]
        show _ = layL c so sw slot P (if P x = true then _ else ws) L'
        rw [hp, if_neg (by decide)]
      · rw [e] at h
        obtain ⟨b1, b2⟩ := a3 h
        refine ⟨by rw [b1], fun y hy => ?_⟩
        rcases List.mem_cons.1 hy with rfl | hy
        · rw [q]; decide
        · exact b2 y hy
      · rw [e]
        exact a4 (fun y hy => h y (List.mem_cons_of_mem _ hy))
    · have e : conf c so sw slot n ws (x :: r) = conf c so sw slot n (layw c so sw slot x ws) r := by rw [hcf, if_neg (by rw [q]; decide), if_pos q]
      have same : ∀ y ∈ r, cfl c so slot n (layw c so sw slot x ws) y = cfl c so slot n ws y := fun y hy => cfl_lay hr hso h0 h1 (hr' y hy).1 (hr' y hy).2 x0 xs q
      obtain ⟨L', a1, a2, a3, a4⟩ := ih (layw c so sw slot x ws) hr' (fun y hy => by rw [same y hy]; exact hP y (List.mem_cons_of_mem _ hy))
      have hp : P x = true := by rw [hP x List.mem_cons_self, q]; rfl
      refine ⟨x :: L', fun y hy => ?_, ?_, fun h => ?_, fun h => ?_⟩
      · rcases List.mem_cons.1 hy with rfl | hy
        · exact List.mem_cons_self
        · exact List.mem_cons_of_mem _ (a1 y hy)
      · rw [e, a2]
        show _ = layL c so sw slot P (if P x = true then layw c so sw slot x ws else ws) L'
        rw [hp, if_pos rfl]
      · rw [e] at h
        obtain ⟨b1, b2⟩ := a3 h
        refine ⟨by rw [b1], fun y hy => ?_⟩
        rcases List.mem_cons.1 hy with rfl | hy
        · rw [q]; decide
        · rw [← same y hy]; exact b2 y hy
      · rw [e]
        exact a4 (fun y hy => by rw [same y hy]; exact h y (List.mem_cons_of_mem _ hy))
    · have e : conf c so sw slot n ws (x :: r) = (ws, false) := by rw [hcf, if_pos q]
      refine ⟨[], by simp, by rw [e]; rfl, fun h => ?_, fun h => absurd q (h x List.mem_cons_self)⟩
      rw [e] at h
      cases h

/-- bits that are on the other side, or none -/
def far (sw : Int) (j : Nat) : Prop := (j : Int) < 12 * sw ∨ 12 * sw + 12 ≤ (j : Int)

theorem with_far (x : Nat) {a : Int} (b : Int) {j : Nat} (hj : far a j) : (withN x a b).testBit j = x.testBit j := by
  cases ho : okS a b with
  | false => rw [with_bad _ a b ho]
  | true =>
    have hb := okS_iff.1 ho
    rw [with_ok _ ho, testBit_setN, if_neg]
    unfold bitAt
    unfold far at hj
    omega

theorem far_hi {sw : Int} (hsw : sw = 0 ∨ sw = 1) {j : Nat} (hj : 24 ≤ j) : far sw j := by
  unfold far
  omega

/-- one's own status: its generation, its state, its side In, are what they were -/
theorem layL_own (hr : c.r = true) (h0 : 0 ≤ slot) (h1 : slot < c.s) (P : Int → Bool) {j : Nat} (hj : far sw j) : ∀ (L : List Int) (ws : Nat → Nat), (∀ x ∈ L, 0 ≤ x ∧ x ≠ slot ∧ (P x = true → x < c.s)) → ∀ i : Nat, (i : Int) = c.cl 4 slot →
    (layL c so sw slot P ws L i).testBit j = (ws i).testBit j := by
  intro L
  induction L with
  | nil => intro ws _ i _; rfl
  | cons x r ih =>
    intro ws hx i hi
    have a1 := ih (if P x = true then layw c so sw slot x ws else ws) (fun y hy => hx y (List.mem_cons_of_mem _ hy)) i hi
    obtain ⟨x0, xs, xp⟩ := hx x List.mem_cons_self
    refine a1.trans ?_
    split
    · rename_i hp
      rw [layw_own hi (by rw [hi]; exact cl4_ne hr h0 h1 x0 (xp hp) (fun q => xs q.symm))]
      exact with_far _ _ hj
    · rfl

theorem parts_far {x y : Nat} (h : ∀ j, 24 ≤ j → x.testBit j = y.testBit j) : gnN x = gnN y ∧ stN x = stN y ∧ x.testBit 26 = y.testBit 26 := by
  refine ⟨?_, ?_, h 26 (by decide)⟩
  · apply Nat.eq_of_testBit_eq
    intro j
    unfold gnN
    rw [testBit_part, testBit_part, h _ (by omega)]
  · apply Nat.eq_of_testBit_eq
    intro j
    unfold stN
    rw [testBit_part, testBit_part, h _ (by omega)]

theorem layL_parts (hr : c.r = true) (hsw : sw = 0 ∨ sw = 1) (h0 : 0 ≤ slot) (h1 : slot < c.s) (P : Int → Bool) (L : List Int) (ws : Nat → Nat) (hx : ∀ x ∈ L, 0 ≤ x ∧ x ≠ slot ∧ (P x = true → x < c.s)) (i : Nat) (hi : (i : Int) = c.cl 4 slot) :
    gnN (layL c so sw slot P ws L i) = gnN (ws i) ∧ stN (layL c so sw slot P ws L i) = stN (ws i) ∧ (layL c so sw slot P ws L i).testBit 26 = (ws i).testBit 26 :=
  parts_far (fun _ hj => layL_own hr h0 h1 P (far_hi hsw hj) L ws hx i hi)

end

end Um

/-
  Plain arithmetic of layer 12: what a read that is alone comes to, from the words that it found; read again; two keys in either order. No Go in sight.
-/
namespace Um
set_option maxRecDepth 100000
set_option linter.unusedVariables false

theorem bz_with (x : Nat) (a b : Int) : withN (bzN x) a b = bzN (withN x a b) := by
  cases ho : okS a b with
  | false => rw [with_bad _ a b ho, with_bad _ a b ho]
  | true =>
    rw [with_ok _ ho, with_ok _ ho]
    exact setN_comm _ _ _ _ _ (.inr rfl)

theorem unbz {x : Nat} (h : x.testBit 26 = false) : moveN (bzN x) (lst (-1) (bzN x)) false = x := by
  have e : lst (-1) (bzN x) = stN (bzN x) := by unfold lst; rw [if_pos (.inl (by decide))]
  have hlt : stN (bzN x) < 8 := part_lt _ 27 3
  rw [e]
  apply Nat.eq_of_testBit_eq
  intro j
  rw [move_bits hlt]
  by_cases e1 : j = 26
  · subst e1
    rw [if_pos rfl, h]
  · rw [if_neg e1]
    have hb : ∀ k, k ≠ 26 → (bzN x).testBit k = x.testBit k := fun k hk => by
      unfold bzN
      rw [testBit_setN, if_neg (fun q => hk q.symm)]
    by_cases e2 : 27 ≤ j ∧ j < 30
    · rw [if_pos e2]
      unfold stN
      rw [testBit_part, decide_eq_true (show j - 27 < 3 by omega), Bool.true_and, show j - 27 + 27 = j by omega, hb j e1]
    · rw [if_neg e2, hb j e1]

section
variable {c : Cf} {so sw sd slot key : Int} {n : Nat}

theorem bsw_layw (x : Int) (ws : Nat → Nat) : layw c so sw slot x (bsw c slot ws) = bsw c slot (layw c so sw slot x ws) := by
  funext i
  unfold layw ownw othw bsw
  by_cases h1 : (i : Int) = c.cl 4 slot <;> by_cases h2 : (i : Int) = c.cl 4 x
  · simp only [if_pos h1, if_pos h2]
    rw [bz_with, bz_with]
  · simp only [if_pos h1, if_neg h2]
    rw [bz_with]
  · simp only [if_neg h1, if_pos h2]
  · simp only [if_neg h1, if_neg h2]

theorem bsw_layL (P : Int → Bool) : ∀ (L : List Int) (ws : Nat → Nat), layL c so sw slot P (bsw c slot ws) L = bsw c slot (layL c so sw slot P ws L) := by
  intro L
  induction L with
  | nil => intro ws; rfl
  | cons x r ih =>
    intro ws
    show layL c so sw slot P (if P x = true then layw c so sw slot x (bsw c slot ws) else bsw c slot ws) r = bsw c slot (layL c so sw slot P (if P x = true then layw c so sw slot x ws else ws) r)
    by_cases hp : P x = true
    · rw [if_pos hp, if_pos hp, bsw_layw, ih]
    · rw [if_neg hp, if_neg hp, ih]

theorem mkw_bsw (ws : Nat → Nat) : mkw c sd key slot (bsw c slot ws) = bsw c slot (mkw c sd key slot ws) := by
  funext i
  unfold mkw bsw
  by_cases h1 : (i : Int) = c.cl 8 key <;> by_cases h2 : (i : Int) = c.cl 4 slot
  · simp only [if_pos h1, if_pos h2]
    rw [bz_with]
  · simp only [if_pos h1, if_neg h2]
  · simp only [if_neg h1, if_pos h2]
  · simp only [if_neg h1, if_neg h2]

/-- entered and left: as if it had not been -/
theorem lvw_bsw {ws : Nat → Nat} (h : (ws (c.cl 4 slot).toNat).testBit 26 = false) : lvw c slot (-1) (bsw c slot ws) = ws := by
  funext i
  unfold lvw bsw
  by_cases e : (i : Int) = c.cl 4 slot
  · have ei : i = (c.cl 4 slot).toNat := by omega
    simp only [if_pos e]
    rw [ei]
    exact unbz h
  · simp only [if_neg e]

theorem key_other (hr : c.r = true) {x : Int} (x0 : 0 ≤ x) (x1 : x < c.s) (k0 : 0 ≤ key) (k1 : key < c.k) : (c.cl 4 x) ≠ c.cl 8 key ∧ (c.cl 6 x) ≠ c.cl 8 key ∧ (c.cl 5 x) ≠ c.cl 8 key := by
  obtain ⟨_, a, b, d⟩ := key_cells hr x0 x1 k0 k1
  exact ⟨a.symm, d.symm, b.symm⟩

theorem nat6 (hr : c.r = true) {x : Int} (x0 : 0 ≤ x) (x1 : x < c.s) : (((c.cl 6 x).toNat : Nat) : Int) = c.cl 6 x ∧ (((c.cl 5 x).toNat : Nat) : Int) = c.cl 5 x := by
  have := sl_cells hr x0 x1
  omega

/-- what a join comes to hangs on other cells than those that an entering, a mark, touch -/
theorem cfl_mk (hr : c.r = true) (h0 : 0 ≤ slot) (h1 : slot < c.s) (k0 : 0 ≤ key) (k1 : key < c.k) (ws : Nat → Nat) {x : Int} (x0 : 0 ≤ x) (hx : x ≠ slot) : cfl c so slot n (mkw c sd key slot ws) x = cfl c so slot n ws x := by
  unfold cfl
  by_cases x1 : x < c.s
  · obtain ⟨a, b, _⟩ := key_other hr x0 x1 k0 k1
    rw [if_pos x1, if_pos x1]
    have e4 : mkw c sd key slot ws (c.cl 4 x).toNat = ws (c.cl 4 x).toNat := if_neg (by rw [cl_nat hr x0 x1]; exact a)
    have e6 : mkw c sd key slot ws (c.cl 6 x).toNat = ws (c.cl 6 x).toNat := if_neg (by rw [(nat6 hr x0 x1).1]; exact b)
    rw [e4, e6]
  · rw [if_neg x1, if_neg x1]

theorem cfl_bs (hr : c.r = true) (h0 : 0 ≤ slot) (h1 : slot < c.s) (ws : Nat → Nat) {x : Int} (x0 : 0 ≤ x) (hx : x ≠ slot) : cfl c so slot n (bsw c slot ws) x = cfl c so slot n ws x := by
  unfold cfl
  by_cases x1 : x < c.s
  · rw [if_pos x1, if_pos x1]
    have e4 : bsw c slot ws (c.cl 4 x).toNat = ws (c.cl 4 x).toNat := if_neg (by rw [cl_nat hr x0 x1]; exact cl4_ne hr x0 x1 h0 h1 hx)
    have e6 : bsw c slot ws (c.cl 6 x).toNat = ws (c.cl 6 x).toNat := if_neg (by rw [(nat6 hr x0 x1).1]; exact cl46_ne hr x0 x1 h0 h1)
    rw [e4, e6]
  · rw [if_neg x1, if_neg x1]

end

/-- who has to get its end -/
def Pc (c : Cf) (slot : Int) (n : Nat) (ws : Nat → Nat) (x : Int) : Bool := decide (cfl c 1 slot n ws x = 2)

/-- what a read comes to from these words, if it is entered: may it go on, its words -/
structure Rsum (c : Cf) (key slot : Int) (ws : Nat → Nat) (ws' : Nat → Nat) (e : Int) : Prop where
  ok : (∀ x ∈ othersN (ws (c.cl 8 key).toNat) 1 slot, cfl c 1 slot (ws (c.cl 5 slot).toNat) ws x ≠ 3) → e = 0 ∧ ws' = layL c 1 0 slot (Pc c slot (ws (c.cl 5 slot).toNat) ws) (mkw c 0 key slot ws) (othersN (ws (c.cl 8 key).toNat) 1 slot)
  no : (¬ ∀ x ∈ othersN (ws (c.cl 8 key).toNat) 1 slot, cfl c 1 slot (ws (c.cl 5 slot).toNat) ws x ≠ 3) → e = 7 ∧ ∃ L', (∀ x ∈ L', x ∈ othersN (ws (c.cl 8 key).toNat) 1 slot) ∧ ws' = lvw c slot 5 (layL c 1 0 slot (Pc c slot (ws (c.cl 5 slot).toNat) ws) (mkw c 0 key slot (bsw c slot ws)) L')

section
variable {c : Cf} {h : Nat} {inn : Nat → Bool} {key slot : Int}

theorem fl_facts {x : Nat} (hf : flN h inn x = 0) : ((gnN x : Nat) : Int) = tgN h ∧ 2 ≤ stN x ∧ x.testBit 26 = false ∧ inn (stN x) = true := by
  unfold flN at hf
  split at hf
  · cases hf
  rename_i q
  split at hf
  · cases hf
  rename_i q2
  split at hf
  · rename_i q3
    refine ⟨?_, ?_, by simpa using q2, q3⟩
    · exact Decidable.byContradiction fun e => q (.inl e)
    · have a : ¬ stN x = 0 := fun e => q (.inr (.inl e))
      have b : ¬ stN x = 1 := fun e => q (.inr (.inr e))
      omega
  · cases hf

theorem P_in (hr : c.r = true) {n : Nat} {ws : Nat → Nat} {x : Int} (hp : Pc c slot n ws x = true) : x < c.s := by
  have q := of_decide_eq_true hp
  unfold cfl at q
  rcases Int.lt_or_le x c.s with e | e
  · exact e
  · rw [if_neg (by omega)] at q; cases q

theorem read_sum (hr : c.r = true) (hn : ook h c.s = true) (hs : svN h = slot) (k0 : 0 ≤ key) (k1 : key < c.k) (m : Mm) (hf : flN h inn (m.ws (c.cl 4 slot).toNat) = 0) :
    ∃ o', Rch c h inn key slot (rdnew m) o' 70 ∧ o'.dn = true ∧ Rsum c key slot m.ws o'.m.ws o'.e := by
  have hsl : 0 ≤ slot ∧ slot < c.s := by
    obtain ⟨f0, f1, _⟩ := ook_facts hn
    rw [hs] at f0 f1
    exact ⟨f0, f1⟩
  obtain ⟨h0, h1⟩ := hsl
  obtain ⟨o', r1, r2, r3, r4⟩ := read_alone (key := key) hr hn hs k0 k1 m hf _ rfl
  refine ⟨o', r1, r2, ?_⟩
  obtain ⟨N, hN⟩ : ∃ N, N = m.ws (c.cl 5 slot).toNat := ⟨_, rfl⟩
  obtain ⟨L, hL⟩ : ∃ L, L = othersN (m.ws (c.cl 8 key).toNat) 1 slot := ⟨_, rfl⟩
  rw [← hN, ← hL] at r3 r4
  have hmem : ∀ x ∈ L, 0 ≤ x ∧ x ≠ slot := fun x hx => by
    rw [hL] at hx
    have := others_mem hx
    exact ⟨this.1, this.2.2⟩
  have hcf : ∀ x ∈ L, cfl c 1 slot N (mkw c 0 key slot (bsw c slot m.ws)) x = cfl c 1 slot N m.ws x := fun x hx => by
    rw [cfl_mk hr h0 h1 k0 k1 _ (hmem x hx).1 (hmem x hx).2, cfl_bs hr h0 h1 _ (hmem x hx).1 (hmem x hx).2]
  obtain ⟨L', a1, a2, a3, a4⟩ := conf_lays (n := N) hr (.inr rfl) h0 h1 (Pc c slot N m.ws) L (mkw c 0 key slot (bsw c slot m.ws)) hmem (fun x hx => by rw [hcf x hx]; rfl)
  refine ⟨fun q => ?_, fun q => ?_⟩
  · rw [← hN, ← hL] at q ⊢
    have hb := a4 (fun x hx => by rw [hcf x hx]; exact q x hx)
    obtain ⟨b1, _⟩ := a3 hb
    rw [hb, if_pos rfl] at r3
    rw [hb, if_pos rfl, a2, b1] at r4
    refine ⟨r3, ?_⟩
    rw [r4, mkw_bsw, bsw_layL]
    refine lvw_bsw ?_
    obtain ⟨_, _, e26⟩ := layL_parts (so := 1) hr (.inl rfl) h0 h1 (Pc c slot N m.ws) L (mkw c 0 key slot m.ws) (fun x hx => ⟨(hmem x hx).1, (hmem x hx).2, fun hp => P_in hr hp⟩) (c.cl 4 slot).toNat (cl_nat hr h0 h1)
    rw [e26]
    have : mkw c 0 key slot m.ws (c.cl 4 slot).toNat = m.ws (c.cl 4 slot).toNat := if_neg (by rw [cl_nat hr h0 h1]; exact (key_other hr h0 h1 k0 k1).1)
    rw [this]
    exact (fl_facts hf).2.2.1
  · rw [← hN, ← hL] at q ⊢
    have hb : (conf c 1 0 slot N (mkw c 0 key slot (bsw c slot m.ws)) L).2 = false := by
      cases hq : (conf c 1 0 slot N (mkw c 0 key slot (bsw c slot m.ws)) L).2 with
      | false => rfl
      | true =>
        exfalso
        exact q (fun x hx => by rw [← hcf x hx]; exact (a3 hq).2 x hx)
    rw [hb, if_neg (by decide)] at r3
    rw [hb, if_neg (by decide), a2] at r4
    exact ⟨r3, L', a1, r4⟩

end

end Um

/-
  Plain arithmetic of layer 12: a read behind a read, alone: the same key again, two keys in either order. No Go in sight.
-/
namespace Um
set_option maxRecDepth 100000

section
variable {c : Cf} {h : Nat} {inn : Nat → Bool} {key slot : Int}

/-- what a read that went on leaves, as the next one finds it -/
structure Aft (c : Cf) (slot : Int) (ws ws' : Nat → Nat) : Prop where
  gn : gnN (ws' (c.cl 4 slot).toNat) = gnN (ws (c.cl 4 slot).toNat)
  st : stN (ws' (c.cl 4 slot).toNat) = stN (ws (c.cl 4 slot).toNat)
  bz : (ws' (c.cl 4 slot).toNat).testBit 26 = (ws (c.cl 4 slot).toNat).testBit 26
  n : ws' (c.cl 5 slot).toNat = ws (c.cl 5 slot).toNat
  ot : ∀ k, 0 ≤ k → k < c.k → othersN (ws' (c.cl 8 k).toNat) 1 slot = othersN (ws (c.cl 8 k).toNat) 1 slot
  cf : ∀ n x, 0 ≤ x → x ≠ slot → cfl c 1 slot n ws' x = cfl c 1 slot n ws x

/-- the others of a key are others -/
theorem ot_facts {w : Nat} {slot : Int} : ∀ x ∈ othersN w 1 slot, 0 ≤ x ∧ x ≠ slot := fun _ hx => ⟨(others_mem hx).1, (others_mem hx).2.2⟩

end

end Um

/-
  Plain arithmetic of layer 12: two reads of one key at once, nobody writes it; a key whose writers have all gone. No Go in sight.
-/
namespace Um
set_option maxRecDepth 100000
set_option linter.unusedVariables false

/-- another memory -/
def setR (m : Mm) (o : Rd) : Rd := { o with m := m }

theorem layL_none {c : Cf} {slot : Int} {P : Int → Bool} : ∀ (L : List Int) (ws : Nat → Nat), (∀ x ∈ L, P x = false) → layL c 1 0 slot P ws L = ws := by
  intro L
  induction L with
  | nil => intro ws _; rfl
  | cons x r ih =>
    intro ws h
    show layL c 1 0 slot P (if P x = true then layw c 1 0 slot x ws else ws) r = ws
    rw [h x List.mem_cons_self, if_neg (by decide)]
    exact ih ws (fun y hy => h y (List.mem_cons_of_mem _ hy))

/-- whose writers have all gone: the key is marked, nothing else is changed -/
theorem read_past {c : Cf} {key slot : Int} {ws ws' : Nat → Nat} {e : Int} (hA : Rsum c key slot ws ws' e) (hg : ∀ x ∈ othersN (ws (c.cl 8 key).toNat) 1 slot, cfl c 1 slot (ws (c.cl 5 slot).toNat) ws x = 1) : e = 0 ∧ ws' = mkw c 0 key slot ws := by
  obtain ⟨h1, h2⟩ := hA.ok (fun x hx => by rw [hg x hx]; decide)
  refine ⟨h1, ?_⟩
  rw [h2]
  exact layL_none _ _ (fun x hx => by unfold Pc; rw [hg x hx]; rfl)

/-- one of two that read at once: K the key's word, S its own status -/
structure Sr (i : Int) (K S : Nat) (o : Rd) : Prop where
  nx : o.nx = 0 ∨ o.nx = 1 ∨ o.nx = 2 ∨ o.nx = 3 ∨ o.nx = 6
  a0 : o.nx = 0 → o.dn = false ∧ S = actW ∧ o.g.en = false ∧ o.g.e = 0 ∧ (o.g.tk = true → o.g.s = actW)
  a1 : o.nx = 1 ∨ o.nx = 2 ∨ o.nx = 3 → o.dn = false ∧ S = busW ∧ o.e = 0
  a3 : o.nx = 3 → o.w < 4 ∧ hasN o.w 0 i = false
  a6 : o.nx = 6 → o.dn = false → S = busW ∧ o.lp = -1 ∧ o.td = 0 ∧ o.l.dn = false ∧ (o.l.lk = true → o.l.s = busW)
  ad : o.dn = true → S = actW ∧ o.e = 0
  k6 : o.nx = 6 → hasN K 0 i = true

theorem Sr.at {i : Int} {K S : Nat} {o : Rd} (h : Sr i K S o) (m : Mm) : Sr i K S (setR m o) := ⟨h.nx, h.a0, h.a1, h.a3, h.a6, h.ad, h.k6⟩

theorem Sr.key {i : Int} {K K' S : Nat} {o : Rd} (h : Sr i K S o) (hk : hasN K 0 i = true → hasN K' 0 i = true) : Sr i K' S o := ⟨h.nx, h.a0, h.a1, h.a3, h.a6, h.ad, fun q => hk (h.k6 q)⟩

section
variable {c : Cf} {h : Nat} {inn : Nat → Bool} {i : Int}

/-- what a step does to the words: the key's stays below 4 and loses no reader, another one's status stays -/
structure Moved (c : Cf) (i : Int) (m M : Mm) : Prop where
  k : M.ws (c.cl 8 0).toNat < 4
  kk : ∀ j : Int, j = 0 ∨ j = 1 → hasN (m.ws (c.cl 8 0).toNat) 0 j = true → hasN (M.ws (c.cl 8 0).toNat) 0 j = true
  st : ∀ j : Int, 0 ≤ j → j < c.s → j ≠ i → M.ws (c.cl 4 j).toNat = m.ws (c.cl 4 j).toNat

end

end Um

/-
  Plain arithmetic of layer 12: a read's words are words, whoever writes meanwhile; how it begins. No Go in sight.
-/
namespace Um
set_option maxRecDepth 100000

/-- a read is right over whatever words -/
structure RokW (c : Cf) (o : Rd) : Prop where
  g : EokW c o.g
  j : JokW c o.j
  v : LokW c o.o
  l : LokW c o.l
  w : Word o.w
  jp : 0 ≤ o.jp ∧ o.jp ≤ 11
  op : 0 ≤ o.op ∧ o.op ≤ 11
  ot : ∀ x ∈ o.ot, 0 ≤ x ∧ x ≤ 11
  nx : o.nx ≤ 6
  ne : o.nx = 4 ∨ o.nx = 5 → o.ot ≠ []
  hd : o.nx = 4 → o.ot.head? = some o.jp
  he : o.nx = 5 → o.ot.head? = some o.op
  jr : o.nx = 4 → o.dn = false → o.j.r = 0
  e0 : o.dn = false → o.e = 0

structure Rok (c : Cf) (o : Rd) : Prop where
  wd : ∀ i, i < c.n → Word (o.m.ws i)
  k : RokW c o

section
variable {c : Cf} {h : Nat} {inn : Nat → Bool} {key slot : Int}

theorem RokW.at {o : Rd} (k : RokW c o) (m : Mm) : RokW c (setR m o) := ⟨k.g, k.j, k.v, k.l, k.w, k.jp, k.op, k.ot, k.nx, k.ne, k.hd, k.he, k.jr, k.e0⟩

theorem Rok.of {o : Rd} (k : RokW c o) {m : Mm} (hm : ∀ i, i < c.n → Word (m.ws i)) : Rok c (setR m o) := ⟨hm, k.at m⟩

/-- what is left of a read, its next step aside -/
structure RokL (c : Cf) (o : Rd) : Prop where
  g : EokW c o.g
  j : JokW c o.j
  v : LokW c o.o
  l : LokW c o.l
  w : Word o.w
  jp : 0 ≤ o.jp ∧ o.jp ≤ 11
  op : 0 ≤ o.op ∧ o.op ≤ 11
  ot : ∀ x ∈ o.ot, 0 ≤ x ∧ x ≤ 11
  e : o.e = 0

theorem rok_lv {o : Rd} (k : RokL c o) (hm : ∀ i, i < c.n → Word (o.m.ws i)) (st td : Int) : Rok c (rdlv o st td) :=
  ⟨hm, ⟨k.g, k.j, k.v, (lnew_ok hm).okw, k.w, k.jp, k.op, k.ot, (show 6 ≤ 6 by decide), (fun q => by rcases q with q | q <;> cases q), (fun q => by cases q), (fun q => by cases q), (fun q => by cases q), fun _ => k.e⟩⟩

theorem rok_go {o : Rd} (k : RokL c o) (hm : ∀ i, i < c.n → Word (o.m.ws i)) : Rok c (rdgo o) := by
  unfold rdgo
  match ho : o.ot with
  | [] => exact ⟨hm, ⟨k.g, k.j, k.v, (lnew_ok hm).okw, k.w, k.jp, k.op, k.ot, (show 6 ≤ 6 by decide), (fun q => by rcases q with q | q <;> cases q), (fun q => by cases q), (fun q => by cases q), (fun q => by cases q), fun _ => k.e⟩⟩
  | x :: r =>
    have hx := k.ot x (by rw [ho]; exact List.mem_cons_self)
    have hot := k.ot
    exact ⟨hm, ⟨k.g, (jnew_ok hm).okw, k.v, k.l, k.w, hx, k.op, (by rw [ho] at hot; exact hot), (show 4 ≤ 6 by decide), (fun _ => List.cons_ne_nil _ _), (fun _ => rfl), (fun q => by cases q), (fun _ _ => rfl), fun _ => k.e⟩⟩

theorem tail_mem {L : List Int} {P : Int → Prop} (h : ∀ x ∈ L, P x) : ∀ x ∈ L.tail, P x := fun x hx => h x (List.mem_of_mem_tail hx)

theorem rok_step {o : Rd} (ho : Rok c o) : Rok c (rdstep c h inn key slot o) := by
  obtain ⟨hm, k⟩ := ho
  cases hd : o.dn with
  | true => rw [rdstep_done hd]; exact ⟨hm, k⟩
  | false =>
    have e0 := k.e0 hd
    have hn := k.nx
    have kl : RokL c o := ⟨k.g, k.j, k.v, k.l, k.w, k.jp, k.op, k.ot, e0⟩
    rcases (by omega : o.nx = 0 ∨ o.nx = 1 ∨ o.nx = 2 ∨ o.nx = 3 ∨ o.nx = 4 ∨ o.nx = 5 ∨ o.nx = 6) with q | q | q | q | q | q | q
    · rw [step0 hd q]
      have hG := estep_ok (h := h) (inn := inn) (k.g o.m hm)
      generalize estep c h inn (setE o.m o.g) = G at hG
      unfold rd0
      split
      · exact ⟨hG.wd, ⟨hG.okw, k.j, k.v, k.l, k.w, k.jp, k.op, k.ot, (show 1 ≤ 6 by decide), (fun q => by rcases q with q | q <;> cases q), (fun q => by cases q), (fun q => by cases q), (fun q => by cases q), fun q => by simpa using of_decide_eq_false q⟩⟩
      · exact ⟨hG.wd, ⟨hG.okw, k.j, k.v, k.l, k.w, k.jp, k.op, k.ot, k.nx, k.ne, k.hd, k.he, k.jr, k.e0⟩⟩
    · rw [step1 hd q]
      exact ⟨word_touch hm zero_word, ⟨k.g, k.j, k.v, k.l, k.w, k.jp, k.op, k.ot, (show 2 ≤ 6 by decide), (fun q => by rcases q with q | q <;> cases q), (fun q => by cases q), (fun q => by cases q), (fun q => by cases q), k.e0⟩⟩
    · rw [step2 hd q]
      have hM : ∀ i, i < c.n → Word ((mtouch c o.m 1 8 key 0 0).ws i) := word_touch hm zero_word
      have hW : Word (mtouch c o.m 1 8 key 0 0).l.old := old_word hm
      generalize mtouch c o.m 1 8 key 0 0 = M at hM hW
      unfold rd2
      split
      · exact rok_go ⟨k.g, k.j, k.v, k.l, hW, k.jp, k.op, (fun x hx => ⟨(others_mem hx).1, (others_mem hx).2.1⟩), e0⟩ hM
      · exact ⟨hM, ⟨k.g, k.j, k.v, k.l, hW, k.jp, k.op, k.ot, (show 3 ≤ 6 by decide), (fun q => by rcases q with q | q <;> cases q), (fun q => by cases q), (fun q => by cases q), (fun q => by cases q), k.e0⟩⟩
    · rw [step3 hd q]
      have hM : ∀ i, i < c.n → Word ((mtouch c o.m 3 8 key o.w (withN o.w 0 slot)).ws i) := word_touch hm (with_word k.w _ _)
      generalize mtouch c o.m 3 8 key o.w (withN o.w 0 slot) = M at hM
      unfold rd3
      split
      · exact rok_go ⟨k.g, k.j, k.v, k.l, k.w, k.jp, k.op, (fun x hx => ⟨(others_mem hx).1, (others_mem hx).2.1⟩), e0⟩ hM
      · exact ⟨hM, ⟨k.g, k.j, k.v, k.l, k.w, k.jp, k.op, k.ot, (show 2 ≤ 6 by decide), (fun q => by rcases q with q | q <;> cases q), (fun q => by cases q), (fun q => by cases q), (fun q => by cases q), k.e0⟩⟩
    · rw [step4 hd q]
      have hJ := jstep_ok (sl := o.jp) (sd := 1) (b := slot) (sn := o.n) (k.j o.m hm)
      generalize jstep c o.jp 1 slot o.n (setJ o.m o.j) = J at hJ
      unfold rd4
      have hJr := hJ.r
      split
      · exact rok_go ⟨k.g, hJ.okw, k.v, k.l, k.w, k.jp, k.op, tail_mem k.ot, e0⟩ hJ.wd
      · split
        · exact ⟨hJ.wd, ⟨k.g, hJ.okw, (lnew_ok hJ.wd).okw, k.l, k.w, k.jp, k.jp, k.ot, (show 5 ≤ 6 by decide), (fun _ => k.ne (.inl q)), (fun q => by cases q), (fun _ => k.hd q), (fun q => by cases q), k.e0⟩⟩
        · split
          · exact rok_lv (o := { o with m := J.m, j := J }) ⟨k.g, hJ.okw, k.v, k.l, k.w, k.jp, k.op, k.ot, e0⟩ hJ.wd 5 7
          · exact ⟨hJ.wd, ⟨k.g, hJ.okw, k.v, k.l, k.w, k.jp, k.op, k.ot, k.nx, k.ne, k.hd, k.he, (fun _ _ => by show J.r = 0; omega), k.e0⟩⟩
    · rw [step5 hd q]
      have hL := wstep_ok (sl := slot) (sd := 0) (b := o.op) (k.v o.m hm)
      generalize wstep c slot 0 o.op (setLs o.m o.o) = V at hL
      unfold rd5
      split
      · exact rok_go ⟨k.g, k.j, hL.okw, k.l, k.w, k.jp, k.op, tail_mem k.ot, e0⟩ hL.wd
      · exact ⟨hL.wd, ⟨k.g, k.j, hL.okw, k.l, k.w, k.jp, k.op, k.ot, k.nx, k.ne, k.hd, k.he, k.jr, k.e0⟩⟩
    · rw [step6 hd q]
      have hL := lstep_ok (sl := slot) (st := o.lp) (k.l o.m hm)
      generalize lstep c slot o.lp (setLs o.m o.l) = V at hL
      unfold rd6
      split
      · exact ⟨hL.wd, ⟨k.g, k.j, k.v, hL.okw, k.w, k.jp, k.op, k.ot, k.nx, k.ne, k.hd, k.he, (fun _ q => by cases q), fun q => by cases q⟩⟩
      · exact ⟨hL.wd, ⟨k.g, k.j, k.v, hL.okw, k.w, k.jp, k.op, k.ot, k.nx, k.ne, k.hd, k.he, k.jr, k.e0⟩⟩

theorem rok_it {o : Rd} (ho : Rok c o) (k : Nat) : Rok c (rdit c h inn key slot o k) := by
  induction k with
  | zero => exact ho
  | succ k ih => exact rok_step ih

theorem rok_new {m : Mm} (hm : ∀ i, i < c.n → Word (m.ws i)) : Rok c (rdnew m) :=
  ⟨hm, ⟨(enew_ok hm).okw, (jnew_ok hm).okw, (lnew_ok hm).okw, (lnew_ok hm).okw, zero_word, (show (0 : Int) ≤ 0 ∧ (0 : Int) ≤ 11 by decide), (show (0 : Int) ≤ 0 ∧ (0 : Int) ≤ 11 by decide), (fun x hx => by cases hx), (show 0 ≤ 6 by decide), (fun q => by rcases q with q | q <;> cases q), (fun q => by cases q), (fun q => by cases q), (fun q => by cases q), fun _ => rfl⟩⟩

end

/-- how a read of a key, by a ticket, begins -/
def rdbeg (c : Cf) (h : Nat) (key : Int) (m : Mm) : Rd := if key < 0 ∨ c.k ≤ key then { rdnew m with dn := true, e := 5 } else if ook h c.s = true then rdnew m else { rdnew m with dn := true, e := 2 }

theorem rdbeg_m (c : Cf) (h : Nat) (key : Int) (m : Mm) : (rdbeg c h key m).m = m := by
  unfold rdbeg
  split
  · rfl
  · split <;> rfl

theorem rdbeg_key {c : Cf} {h : Nat} {key : Int} {m : Mm} (hk : key < 0 ∨ c.k ≤ key) : rdbeg c h key m = { rdnew m with dn := true, e := 5 } := if_pos hk

theorem rdbeg_no {c : Cf} {h : Nat} {key : Int} {m : Mm} (hk : ¬ (key < 0 ∨ c.k ≤ key)) (hn : ook h c.s = false) : rdbeg c h key m = { rdnew m with dn := true, e := 2 } := by
  unfold rdbeg
  rw [if_neg hk, if_neg (by rw [hn]; decide)]

theorem rdbeg_yes {c : Cf} {h : Nat} {key : Int} {m : Mm} (hk : ¬ (key < 0 ∨ c.k ≤ key)) (hn : ook h c.s = true) : rdbeg c h key m = rdnew m := by
  unfold rdbeg
  rw [if_neg hk, if_pos hn]

theorem rok_beg {c : Cf} {h : Nat} {key : Int} {m : Mm} (hm : ∀ i, i < c.n → Word (m.ws i)) : Rok c (rdbeg c h key m) := by
  have k := (rok_new (c := c) hm).k
  unfold rdbeg
  split
  · exact ⟨hm, ⟨k.g, k.j, k.v, k.l, k.w, k.jp, k.op, k.ot, k.nx, k.ne, k.hd, k.he, (fun q => by cases q), fun q => by cases q⟩⟩
  · split
    · exact ⟨hm, k⟩
    · exact ⟨hm, ⟨k.g, k.j, k.v, k.l, k.w, k.jp, k.op, k.ot, k.nx, k.ne, k.hd, k.he, (fun q => by cases q), fun q => by cases q⟩⟩

end Um

/-
  A step of a read, of whatever step; its blocks; a new one; to its end.
-/
namespace Go.Proofs.YtapgghciieloaaaGreat
set_option maxRecDepth 100000
open Go.RowKit Go.Sort
set_option linter.unusedVariables false
set_option linter.unusedSimpArgs false

/-- the states of which a read is entered -/
def st12 : Nat → Int := fun _ => 2
def inn12 : Nat → Bool := fun k => inZ st12 1 ((k : Nat) : Int)

/-- a read's blocks: its cells, what its next step writes; e: what is only read -/
def RdAt (P h : Nat) (ky sl : Int) (e : List (Nat × List Value)) (o : Um.Rd) (cs : List Value) (hb : List (Nat × List Value)) : Prop :=
  (o.dn = true ∧ (∃ v0 v1 v2 v3 v4 v5 v6 v7 v8 v9, cs = [v0, v1, v2, v3, v4, v5, v6, v7, v8, v9, .nilFunc, .int .i64 o.e]) ∧ hb = []) ∨
  (o.dn = false ∧ o.nx = 0 ∧ ∃ (ov : Value) (ot : Int) (pj po pl : Value) (ft : Int) (G cl : Nat) (la : Option Addr), StB la 1 st12 e ∧ cs = [.int .i64 sl, .int .i64 ky, .int .u64 (o.n : Nat), .int .u64 (o.w : Nat), ov, .int .i64 ot, .pointer (some ⟨G, 0, none⟩), pj, po, pl, .func (.func 45) #[.pointer (some ⟨P, 0, none⟩)] #[], .int .i64 ft] ∧ hb = [(G, entL G h la 1 cl o.g)]) ∨
  (o.dn = false ∧ o.nx = 1 ∧ (∃ (ov : Value) (ot : Int) (pg pj po pl : Value) (ft : Int), cs = [.int .i64 sl, .int .i64 ky, .int .u64 (o.n : Nat), .int .u64 (o.w : Nat), ov, .int .i64 ot, pg, pj, po, pl, .func (.func 89) #[.pointer (some ⟨P, 0, none⟩)] #[], .int .i64 ft]) ∧ hb = []) ∨
  (o.dn = false ∧ o.nx = 2 ∧ (∃ (ov : Value) (ot : Int) (pg pj po pl : Value) (ft : Int), cs = [.int .i64 sl, .int .i64 ky, .int .u64 (o.n : Nat), .int .u64 (o.w : Nat), ov, .int .i64 ot, pg, pj, po, pl, .func (.func 105) #[.pointer (some ⟨P, 0, none⟩)] #[], .int .i64 ft]) ∧ hb = []) ∨
  (o.dn = false ∧ o.nx = 3 ∧ (∃ (ov : Value) (ot : Int) (pg pj po pl : Value) (ft : Int), cs = [.int .i64 sl, .int .i64 ky, .int .u64 (o.n : Nat), .int .u64 (o.w : Nat), ov, .int .i64 ot, pg, pj, po, pl, .func (.func 127) #[.pointer (some ⟨P, 0, none⟩)] #[], .int .i64 ft]) ∧ hb = []) ∨
  (o.dn = false ∧ o.nx = 4 ∧ ∃ (pg po pl : Value) (ft : Int) (J L : Nat) (a : Option Addr) (c' : Nat), cs = [.int .i64 sl, .int .i64 ky, .int .u64 (o.n : Nat), .int .u64 (o.w : Nat), .func (.func 140) #[] #[.pointer (some ⟨L, 0, none⟩)], .int .i64 o.jp, pg, .pointer (some ⟨J, 0, none⟩), po, pl, .func (.func 144) #[.pointer (some ⟨P, 0, none⟩)] #[], .int .i64 ft] ∧ hb = [(L, [.slice a o.ot.tail.length c']), (J, jnL o.jp 1 sl o.n o.j)] ∧ ∀ W', (∀ p ∈ e, BlkAt W' p.1 p.2) → IsRow W' (.slice a o.ot.tail.length c') o.ot.tail) ∨
  (o.dn = false ∧ o.nx = 5 ∧ ∃ (pg pj pl : Value) (ft : Int) (OW L : Nat) (a : Option Addr) (c' : Nat), cs = [.int .i64 sl, .int .i64 ky, .int .u64 (o.n : Nat), .int .u64 (o.w : Nat), .func (.func 140) #[] #[.pointer (some ⟨L, 0, none⟩)], .int .i64 o.op, pg, pj, .pointer (some ⟨OW, 0, none⟩), pl, .func (.func 152) #[.pointer (some ⟨P, 0, none⟩)] #[], .int .i64 ft] ∧ hb = [(L, [.slice a o.ot.tail.length c']), (OW, owL sl 0 o.op o.o)] ∧ ∀ W', (∀ p ∈ e, BlkAt W' p.1 p.2) → IsRow W' (.slice a o.ot.tail.length c') o.ot.tail) ∨
  (o.dn = false ∧ o.nx = 6 ∧ ∃ (ov : Value) (ot : Int) (pg pj po : Value) (V : Nat), cs = [.int .i64 sl, .int .i64 ky, .int .u64 (o.n : Nat), .int .u64 (o.w : Nat), ov, .int .i64 ot, pg, pj, po, .pointer (some ⟨V, 0, none⟩), .func (.func 147) #[.pointer (some ⟨P, 0, none⟩)] #[], .int .i64 o.td] ∧ hb = [(V, leaL V sl o.lp o.l)])

theorem RdAt.mono {P h : Nat} {ky sl : Int} {e e' : List (Nat × List Value)} {o : Um.Rd} {cs : List Value} {hb : List (Nat × List Value)} (hA : RdAt P h ky sl e o cs hb) (hs : ∀ p ∈ e, p ∈ e') : RdAt P h ky sl e' o cs hb := by
  rcases hA with q | ⟨d, n, ov, ot, pj, po, pl, ft, G, cl, la, q1, q2, q3⟩ | q | q | q | ⟨d, n, pg, po, pl, ft, J, L, a, c', q1, q2, q3⟩ | ⟨d, n, pg, pj, pl, ft, J, L, a, c', q1, q2, q3⟩ | q
  · exact .inl q
  · exact .inr (.inl ⟨d, n, ov, ot, pj, po, pl, ft, G, cl, la, q1.mono hs, q2, q3⟩)
  · exact .inr (.inr (.inl q))
  · exact .inr (.inr (.inr (.inl q)))
  · exact .inr (.inr (.inr (.inr (.inl q))))
  · exact .inr (.inr (.inr (.inr (.inr (.inl ⟨d, n, pg, po, pl, ft, J, L, a, c', q1, q2, fun W' hW => q3 W' (fun p hp => hW p (hs p hp))⟩)))))
  · exact .inr (.inr (.inr (.inr (.inr (.inr (.inl ⟨d, n, pg, pj, pl, ft, J, L, a, c', q1, q2, fun W' hW => q3 W' (fun p hp => hW p (hs p hp))⟩))))))
  · exact .inr (.inr (.inr (.inr (.inr (.inr (.inr q))))))

theorem RdAt.setR {P h : Nat} {ky sl : Int} {e : List (Nat × List Value)} {o : Um.Rd} {cs : List Value} {hb : List (Nat × List Value)} (hA : RdAt P h ky sl e o cs hb) (m : Um.Mm) : RdAt P h ky sl e (Um.setR m o) cs hb := hA

theorem rd_nil {o : Um.Rd} (h : o.ot = []) : Um.rdgo o = Um.rdlv o (-1) 0 := by unfold Um.rdgo; rw [h]

theorem rd_cons {o : Um.Rd} {x : Int} {r : List Int} (h : o.ot = x :: r) : Um.rdgo o = { o with j := Um.jnew o.m, jp := x, ja := true, nx := 4 } := by unfold Um.rdgo; rw [h]

/-- behind 'another' -/
theorem an_rd {P L h : Nat} {ky sl : Int} {e : List (Nat × List Value)} {cs ls xc : List Value} {X : Nat} {o : Um.Rd} (hd : o.dn = false) (hA : AnP P L sl ky o.n o.w o.m e o.ot cs ls X xc) : ∃ hb, RdAt P h ky sl e (Um.rdgo o) cs hb ∧ hb.Sublist [(L, ls), (X, xc)] ∧ (Um.rdgo o).m = o.m := by
  rcases hA with ⟨h0, ⟨ot, pg, pj, po, rfl⟩, rfl⟩ | ⟨x, r, a, c', h0, ⟨pg, po, pl, ft, rfl⟩, rfl, rfl, hI⟩
  · rw [rd_nil h0]
    exact ⟨[(X, leaL X sl (-1) (Um.lnew o.m))], .inr (.inr (.inr (.inr (.inr (.inr (.inr ⟨hd, rfl, _, _, _, _, _, X, rfl, rfl⟩)))))), .cons _ (.cons_cons _ .slnil), rfl⟩
  · rw [rd_cons h0]
    have ht : o.ot.tail = r := by rw [h0]; rfl
    refine ⟨[(L, [.slice a r.length c']), (X, jnL x 1 sl o.n (Um.jnew o.m))], .inr (.inr (.inr (.inr (.inr (.inl ⟨hd, rfl, pg, po, pl, ft, X, L, a, c', rfl, ?_, ?_⟩))))), List.Sublist.refl _, rfl⟩
    · show [(L, [Value.slice a r.length c']), (X, _)] = [(L, [Value.slice a o.ot.tail.length c']), (X, _)]
      rw [ht]
    · show ∀ W', (∀ p ∈ e, BlkAt W' p.1 p.2) → IsRow W' (.slice a o.ot.tail.length c') o.ot.tail
      rw [ht]
      exact hI

theorem put3_rot {l : List (Nat × List Value)} {i j k : Nat} {a b d : Nat × List Value} (hij : i ≠ j) (hik : i ≠ k) (hjk : j ≠ k) : putL l [(k, d), (i, a), (j, b)] = putL l [(i, a), (j, b), (k, d)] := by
  show ((l.set k d).set i a).set j b = ((l.set i a).set j b).set k d
  rw [List.set_comm d a hik.symm, List.set_comm d b hjk.symm]

section
variable {bs : List Nat} {w0 w w' : World} {l e hb hb' sb : List (Nat × List Value)} {B C P : Nat} {c : Um.Cf} {h : Nat} {sl ky : Int} {cs cs' : List Value}

theorem Sx.sublist (hS : Sx bs w0 w l e) {l' : List (Nat × List Value)} (s : l'.Sublist l) : Sx bs w0 w l' e := hS.sub (fun p hp => s.subset hp) (hS.nd.sublist s) (fun p hp => hp)

/-- what a callee hands back, in the caller's list -/
theorem rd_back (hS : Sx bs w0 w (l ++ hb) e) (i j k : Nat) {m M : Um.Mm} (hi : l[i]? = some (B, memL c C m)) (hj : l[j]? = some (C, rowW m.ws c.n)) (hk : l[k]? = some (P, cs)) (hij : i ≠ j) (hik : i ≠ k) (hjk : j ≠ k)
    (hL : Sx (P :: B :: C :: hb.map (·.1)) w w' ((P, cs') :: (B, memL c C M) :: (C, rowW M.ws c.n) :: hb') (e ++ sb)) (hsb : ∀ p ∈ sb, w.heap.size ≤ p.1) :
    Sx bs w0 w' (putL l [(i, B, memL c C M), (j, C, rowW M.ws c.n), (k, P, cs')] ++ hb') (e ++ sb) := by
  have h9 := hS.backs k i j hk hi hj hL hsb
  rwa [put3_rot hij hik hjk] at h9

theorem rd_back0 (hS : Sx bs w0 w (l ++ hb) e) (i j k : Nat) {m M : Um.Mm} (hi : l[i]? = some (B, memL c C m)) (hj : l[j]? = some (C, rowW m.ws c.n)) (hk : l[k]? = some (P, cs)) (hij : i ≠ j) (hik : i ≠ k) (hjk : j ≠ k)
    (hL : Sx (P :: B :: C :: hb.map (·.1)) w w' ((P, cs') :: (B, memL c C M) :: (C, rowW M.ws c.n) :: hb') e) :
    Sx bs w0 w' (putL l [(i, B, memL c C M), (j, C, rowW M.ws c.n), (k, P, cs')] ++ hb') (e ++ []) :=
  rd_back hS i j k hi hj hk hij hik hjk (sb := []) (by rw [List.append_nil]; exact hL) (fun p hp => by cases hp)

theorem RdAt.nil {o : Um.Rd} (hA : RdAt P h ky sl e o cs hb) : RdAt P h ky sl (e ++ []) o cs hb := by rw [List.append_nil]; exact hA

theorem rdStep_any (hS : Sx bs w0 w (l ++ hb) e) (i j k : Nat) (o O : Um.Rd) (hO : O = Um.rdstep c h inn12 ky sl o) (hA : RdAt P h ky sl e o cs hb) (hi : l[i]? = some (B, memL c C o.m)) (hj : l[j]? = some (C, rowW o.m.ws c.n)) (hk : l[k]? = some (P, cs)) (hij : i ≠ j) (hik : i ≠ k) (hjk : j ≠ k) (hr : c.r = true) (hh : Um.Word h) (ho : Um.Rok c o) (hn : o.dn = false → Um.ook h c.s = true) (hsb : -9223372036854775808 ≤ sl ∧ sl ≤ 9223372036854775807) (hkb : -9223372036854775808 ≤ ky ∧ ky ≤ 9223372036854775807) :
    Calls Tryz.prog 17 #[.pointer (some ⟨P, 0, none⟩), .pointer (some ⟨B, 0, none⟩)] w fun r w' => r = .returned (.tuple #[]) ∧ Um.Rok c O ∧ ∃ cs' hb' sb, RdAt P h ky sl (e ++ sb) O cs' hb' ∧ Sx bs w0 w' (putL l [(i, B, memL c C O.m), (j, C, rowW O.m.ws c.n), (k, P, cs')] ++ hb') (e ++ sb) := by
  have hO' : Um.Rok c O := hO ▸ Um.rok_step ho
  have hK := hS.enters k i j hk hi hj hik.symm hjk.symm hij
  rcases hA with ⟨hd, ⟨v0, v1, v2, v3, v4, v5, v6, v7, v8, v9, rfl⟩, rfl⟩ | ⟨hd, q, ov, ot, pj, po, pl, ft, G, cl, la, hSt, rfl, rfl⟩ | ⟨hd, q, ⟨ov, ot, pg, pj, po, pl, ft, rfl⟩, rfl⟩ | ⟨hd, q, ⟨ov, ot, pg, pj, po, pl, ft, rfl⟩, rfl⟩ | ⟨hd, q, ⟨ov, ot, pg, pj, po, pl, ft, rfl⟩, rfl⟩ | ⟨hd, q, pg, po, pl, ft, J, L, a, c', rfl, rfl, hI⟩ | ⟨hd, q, pg, pj, pl, ft, OW, L, a, c', rfl, rfl, hI⟩ | ⟨hd, q, ov, ot, pg, pj, po, V, rfl, rfl⟩
  · have eO : O = o := by rw [hO]; exact Um.rdstep_done hd
    subst eO
    refine (rStep_done (hK.get 0 rfl) rfl _).mono ?_
    rintro r w' ⟨rfl, rfl⟩
    exact ⟨rfl, hO', _, [], [], RdAt.nil (.inl ⟨hd, ⟨_, _, _, _, _, _, _, _, _, _, rfl⟩, rfl⟩), rd_back0 hS i j k hi hj hk hij hik hjk hK⟩
  · have hn' := hn hd
    obtain ⟨g, hg⟩ : ∃ g, g = Um.estep c h inn12 (Um.setE o.m o.g) := ⟨_, rfl⟩
    have eO : O = Um.rd0 o g := by rw [hO, hg]; exact Um.step0 hd q
    unfold Um.rd0 at eO
    cases hen : g.en with
    | false =>
      rw [if_neg (by rw [hen]; decide)] at eO
      subst eO
      refine (rStep_enter (hK.get 0 rfl) (rEnter_a (Z := st12) (g := Um.setE o.m o.g) hK hr hg (ho.k.g o.m ho.wd) hh (by decide) hSt hn' hen)).mono ?_
      rintro r w' ⟨rfl, _, hSn⟩
      exact ⟨rfl, hO', _, _, [], RdAt.nil (.inr (.inl ⟨hd, q, ov, ot, pj, po, pl, ft, G, cl, la, hSt, rfl, rfl⟩)), rd_back0 hS i j k hi hj hk hij hik hjk hSn⟩
    | true =>
      rw [if_pos hen] at eO
      by_cases he : g.e = 0
      · subst eO
        refine (rStep_enter (hK.get 0 rfl) (rEnter_c (Z := st12) (g := Um.setE o.m o.g) hK hr hg (ho.k.g o.m ho.wd) hh (by decide) hSt hn' hen he)).mono ?_
        rintro r w' ⟨rfl, _, hSn⟩
        exact ⟨rfl, hO', _, [], [], RdAt.nil (.inr (.inr (.inl ⟨decide_eq_false (by simpa using he), rfl, ⟨_, _, _, _, _, _, _, rfl⟩, rfl⟩))), rd_back0 hS i j k hi hj hk hij hik hjk (hSn.sublist (.cons_cons _ (.cons_cons _ (.cons_cons _ (.cons _ .slnil)))))⟩
      · subst eO
        refine (rStep_enter (hK.get 0 rfl) (rEnter_b (Z := st12) (g := Um.setE o.m o.g) hK hr hg (ho.k.g o.m ho.wd) hh (by decide) hSt hn' hen he)).mono ?_
        rintro r w' ⟨rfl, _, hSn⟩
        exact ⟨rfl, hO', _, [], [], RdAt.nil (.inl ⟨decide_eq_true he, ⟨_, _, _, _, _, _, _, _, _, _, rfl⟩, rfl⟩), rd_back0 hS i j k hi hj hk hij hik hjk (hSn.sublist (.cons_cons _ (.cons_cons _ (.cons_cons _ (.cons _ .slnil)))))⟩
  · have eO : O = Um.rd1 o (Um.mtouch c o.m 1 5 sl 0 0) := by rw [hO]; exact Um.step1 hd q
    subst eO
    refine (rStep_snapshot (hK.get 0 rfl) (rSnap_x hK hr ho.wd hsb hkb _ rfl)).mono ?_
    rintro r w' ⟨rfl, _, hSn⟩
    exact ⟨rfl, hO', _, [], [], RdAt.nil (.inr (.inr (.inr (.inl ⟨hd, rfl, ⟨_, _, _, _, _, _, _, rfl⟩, rfl⟩)))), rd_back0 hS i j k hi hj hk hij hik hjk hSn⟩
  · obtain ⟨M, hM⟩ : ∃ M, M = Um.mtouch c o.m 1 8 ky 0 0 := ⟨_, rfl⟩
    have eO : O = Um.rd2 sl o M := by rw [hO, hM]; exact Um.step2 hd q
    unfold Um.rd2 at eO
    cases hx : Um.hasN M.l.old 0 sl with
    | false =>
      rw [if_neg (by rw [hx]; decide)] at eO
      subst eO
      refine (rStep_look (hK.get 0 rfl) (rLook_n hK hr ho.wd hsb hkb M hM hx)).mono ?_
      rintro r w' ⟨rfl, _, hSn⟩
      exact ⟨rfl, hO', _, [], [], RdAt.nil (.inr (.inr (.inr (.inr (.inl ⟨hd, rfl, ⟨_, _, _, _, _, _, _, rfl⟩, rfl⟩))))), rd_back0 hS i j k hi hj hk hij hik hjk hSn⟩
    | true =>
      rw [if_pos hx] at eO
      refine (rStep_look (Q := fun w' => ∃ L cs2 ls X xc sb, AnP P L sl ky o.n M.l.old M (e ++ sb) (Um.othersN M.l.old 1 sl) cs2 ls X xc ∧ (∀ p ∈ sb, w.heap.size ≤ p.1) ∧ WordsOk c M ∧ Sx [P, B, C] w w' [(P, cs2), (B, memL c C M), (C, rowW M.ws c.n), (L, ls), (X, xc)] (e ++ sb)) (hK.get 0 rfl) ((rLook_t hK hr ho.wd hsb hkb M hM hx).mono ?_)).mono ?_
      · rintro r w' ⟨L, cs2, ls, X, xc, sb, e1, e2⟩
        exact ⟨e1, L, cs2, ls, X, xc, sb, e2⟩
      rintro r w' ⟨rfl, L, cs2, ls, X, xc, sb, hAn, hsb2, _, hSn⟩
      obtain ⟨hb2, a1, a2, a3⟩ := an_rd (h := h) (o := { o with m := M, w := M.l.old, nx := 3, ot := Um.othersN M.l.old 1 sl }) hd hAn
      have eO2 : O = Um.rdgo { o with m := M, w := M.l.old, nx := 3, ot := Um.othersN M.l.old 1 sl } := eO
      rw [← eO2] at a1 a3
      have a4 : O.m = M := a3
      rw [a4]
      exact ⟨rfl, hO', cs2, hb2, sb, a1, rd_back hS i j k hi hj hk hij hik hjk (hSn.sublist (.cons_cons _ (.cons_cons _ (.cons_cons _ a2)))) hsb2⟩
  · obtain ⟨M, hM⟩ : ∃ M, M = Um.mtouch c o.m 3 8 ky o.w (Um.withN o.w 0 sl) := ⟨_, rfl⟩
    have eO : O = Um.rd3 sl o M := by rw [hO, hM]; exact Um.step3 hd q
    unfold Um.rd3 at eO
    cases hx : M.l.done with
    | false =>
      rw [if_neg (by rw [hx]; decide)] at eO
      subst eO
      refine (rStep_mark (hK.get 0 rfl) (rMark_f hK hr ho.wd hsb hkb M hM ho.k.w hx)).mono ?_
      rintro r w' ⟨rfl, _, hSn⟩
      exact ⟨rfl, hO', _, [], [], RdAt.nil (.inr (.inr (.inr (.inl ⟨hd, rfl, ⟨_, _, _, _, _, _, _, rfl⟩, rfl⟩)))), rd_back0 hS i j k hi hj hk hij hik hjk hSn⟩
    | true =>
      rw [if_pos hx] at eO
      refine (rStep_mark (Q := fun w' => ∃ L cs2 ls X xc sb, AnP P L sl ky o.n o.w M (e ++ sb) (Um.othersN o.w 1 sl) cs2 ls X xc ∧ (∀ p ∈ sb, w.heap.size ≤ p.1) ∧ WordsOk c M ∧ Sx [P, B, C] w w' [(P, cs2), (B, memL c C M), (C, rowW M.ws c.n), (L, ls), (X, xc)] (e ++ sb)) (hK.get 0 rfl) ((rMark_t hK hr ho.wd hsb hkb M hM ho.k.w hx).mono ?_)).mono ?_
      · rintro r w' ⟨L, cs2, ls, X, xc, sb, e1, e2⟩
        exact ⟨e1, L, cs2, ls, X, xc, sb, e2⟩
      rintro r w' ⟨rfl, L, cs2, ls, X, xc, sb, hAn, hsb2, _, hSn⟩
      obtain ⟨hb2, a1, a2, a3⟩ := an_rd (h := h) (o := { o with m := M, nx := 2, ot := Um.othersN o.w 1 sl }) hd hAn
      have eO2 : O = Um.rdgo { o with m := M, nx := 2, ot := Um.othersN o.w 1 sl } := eO
      rw [← eO2] at a1 a3
      have a4 : O.m = M := a3
      rw [a4]
      exact ⟨rfl, hO', cs2, hb2, sb, a1, rd_back hS i j k hi hj hk hij hik hjk (hSn.sublist (.cons_cons _ (.cons_cons _ (.cons_cons _ a2)))) hsb2⟩
  · obtain ⟨j2, hj2⟩ : ∃ j2, j2 = Um.jstep c o.jp 1 sl o.n (Um.setJ o.m o.j) := ⟨_, rfl⟩
    have eO : O = Um.rd4 o j2 := by rw [hO, hj2]; exact Um.step4 hd q
    have hx : -9223372036854775808 ≤ o.jp ∧ o.jp ≤ 9223372036854775807 := by have := ho.k.jp; omega
    have hJ := ho.k.j o.m ho.wd
    have hJ2 : Um.Jok c j2 := hj2 ▸ Um.jstep_ok hJ
    have hr3 := hJ2.r
    unfold Um.rd4 at eO
    by_cases r1 : j2.r = 1
    · rw [if_pos r1] at eO
      refine (rStep_join (Q := fun w' => ∃ cs2 ls X xc, AnP P L sl ky o.n o.w j2.m e o.ot.tail cs2 ls X xc ∧ Um.Jok c j2 ∧ Sx (P :: B :: C :: [(L, [.slice a o.ot.tail.length c']), (J, jnL o.jp 1 sl o.n o.j)].map (·.1)) w w' [(P, cs2), (B, memL c C j2.m), (C, rowW j2.m.ws c.n), (L, ls), (J, jnL o.jp 1 sl o.n j2), (X, xc)] e) (hK.get 0 rfl) ((rJoin_1 (j := Um.setJ o.m o.j) hK hr hj2 hJ hx hI r1).mono ?_)).mono ?_
      · rintro r w' ⟨cs2, ls, X, xc, e1, e2⟩
        exact ⟨e1, cs2, ls, X, xc, e2⟩
      rintro r w' ⟨rfl, cs2, ls, X, xc, hAn, _, hSn⟩
      obtain ⟨hb2, a1, a2, a3⟩ := an_rd (h := h) (o := { o with m := j2.m, j := j2, ot := o.ot.tail }) hd hAn
      rw [← eO] at a1 a3
      have a4 : O.m = j2.m := a3
      rw [a4]
      exact ⟨rfl, hO', cs2, hb2, [], RdAt.nil a1, rd_back0 hS i j k hi hj hk hij hik hjk (hSn.sublist (.cons_cons _ (.cons_cons _ (.cons_cons _ (a2.trans (.cons_cons _ (.cons _ (.cons_cons _ .slnil))))))))⟩
    rw [if_neg r1] at eO
    by_cases r2 : j2.r = 2
    · rw [if_pos r2] at eO
      refine (rStep_join (Q := fun w' => ∃ OW, Um.Jok c j2 ∧ Sx (P :: B :: C :: [(L, [.slice a o.ot.tail.length c']), (J, jnL o.jp 1 sl o.n o.j)].map (·.1)) w w' [(P, [.int .i64 sl, .int .i64 ky, .int .u64 (o.n : Nat), .int .u64 (o.w : Nat), .func (.func 140) #[] #[.pointer (some ⟨L, 0, none⟩)], .int .i64 o.jp, pg, .pointer (some ⟨J, 0, none⟩), .pointer (some ⟨OW, 0, none⟩), pl, .func (.func 152) #[.pointer (some ⟨P, 0, none⟩)] #[], .int .i64 ft]), (B, memL c C j2.m), (C, rowW j2.m.ws c.n), (L, [.slice a o.ot.tail.length c']), (J, jnL o.jp 1 sl o.n j2), (OW, owL sl 0 o.jp (Um.lnew j2.m))] e) (hK.get 0 rfl) ((rJoin_2 (j := Um.setJ o.m o.j) hK hr hj2 hJ hx r2).mono ?_)).mono ?_
      · rintro r w' ⟨OW, e1, e2⟩
        exact ⟨e1, OW, e2⟩
      rintro r w' ⟨rfl, OW, _, hSn⟩
      subst eO
      exact ⟨rfl, hO', _, _, [], RdAt.nil (.inr (.inr (.inr (.inr (.inr (.inr (.inl ⟨hd, rfl, _, _, _, _, OW, L, a, c', rfl, rfl, hI⟩))))))), rd_back0 hS i j k hi hj hk hij hik hjk (hSn.sublist (.cons_cons _ (.cons_cons _ (.cons_cons _ (.cons_cons _ (.cons _ (.cons_cons _ .slnil)))))))⟩
    rw [if_neg r2] at eO
    by_cases r3 : j2.r = 3
    · rw [if_pos r3] at eO
      refine (rStep_join (Q := fun w' => ∃ V, Um.Jok c j2 ∧ Sx (P :: B :: C :: [(L, [.slice a o.ot.tail.length c']), (J, jnL o.jp 1 sl o.n o.j)].map (·.1)) w w' [(P, [.int .i64 sl, .int .i64 ky, .int .u64 (o.n : Nat), .int .u64 (o.w : Nat), .func (.func 140) #[] #[.pointer (some ⟨L, 0, none⟩)], .int .i64 o.jp, pg, .pointer (some ⟨J, 0, none⟩), po, .pointer (some ⟨V, 0, none⟩), .func (.func 147) #[.pointer (some ⟨P, 0, none⟩)] #[], .int .i64 7]), (B, memL c C j2.m), (C, rowW j2.m.ws c.n), (L, [.slice a o.ot.tail.length c']), (J, jnL o.jp 1 sl o.n j2), (V, leaL V sl 5 (Um.lnew j2.m))] e) (hK.get 0 rfl) ((rJoin_3 (j := Um.setJ o.m o.j) hK hr hj2 hJ hx r3).mono ?_)).mono ?_
      · rintro r w' ⟨V, e1, e2⟩
        exact ⟨e1, V, e2⟩
      rintro r w' ⟨rfl, V, _, hSn⟩
      subst eO
      exact ⟨rfl, hO', _, _, [], RdAt.nil (.inr (.inr (.inr (.inr (.inr (.inr (.inr ⟨hd, rfl, _, _, _, _, _, V, rfl, rfl⟩))))))), rd_back0 hS i j k hi hj hk hij hik hjk (hSn.sublist (.cons_cons _ (.cons_cons _ (.cons_cons _ (.cons _ (.cons _ (.cons_cons _ .slnil)))))))⟩
    · rw [if_neg r3] at eO
      have r0 : j2.r = 0 := by omega
      subst eO
      refine (rStep_join (hK.get 0 rfl) (rJoin_0 (j := Um.setJ o.m o.j) hK hr hj2 hJ hx r0)).mono ?_
      rintro r w' ⟨rfl, _, hSn⟩
      exact ⟨rfl, hO', _, _, [], RdAt.nil (.inr (.inr (.inr (.inr (.inr (.inl ⟨hd, q, _, _, _, _, J, L, a, c', rfl, rfl, hI⟩)))))), rd_back0 hS i j k hi hj hk hij hik hjk hSn⟩
  · obtain ⟨v2, hv2⟩ : ∃ v2, v2 = Um.wstep c sl 0 o.op (Um.setLs o.m o.o) := ⟨_, rfl⟩
    have eO : O = Um.rd5 o v2 := by rw [hO, hv2]; exact Um.step5 hd q
    have hV := ho.k.v o.m ho.wd
    unfold Um.rd5 at eO
    cases hx : v2.dn with
    | true =>
      rw [if_pos hx] at eO
      refine (rStep_own (Q := fun w' => ∃ cs2 ls X xc, AnP P L sl ky o.n o.w v2.m e o.ot.tail cs2 ls X xc ∧ Um.Lok c v2 ∧ Sx (P :: B :: C :: [(L, [.slice a o.ot.tail.length c']), (OW, owL sl 0 o.op o.o)].map (·.1)) w w' [(P, cs2), (B, memL c C v2.m), (C, rowW v2.m.ws c.n), (L, ls), (OW, owL sl 0 o.op v2), (X, xc)] e) (hK.get 0 rfl) ((rOwn_1 (v := Um.setLs o.m o.o) hK hr hv2 hV hsb hI hx).mono ?_)).mono ?_
      · rintro r w' ⟨cs2, ls, X, xc, e1, e2⟩
        exact ⟨e1, cs2, ls, X, xc, e2⟩
      rintro r w' ⟨rfl, cs2, ls, X, xc, hAn, _, hSn⟩
      obtain ⟨hb2, a1, a2, a3⟩ := an_rd (h := h) (o := { o with m := v2.m, o := v2, ot := o.ot.tail }) hd hAn
      rw [← eO] at a1 a3
      have a4 : O.m = v2.m := a3
      rw [a4]
      exact ⟨rfl, hO', cs2, hb2, [], RdAt.nil a1, rd_back0 hS i j k hi hj hk hij hik hjk (hSn.sublist (.cons_cons _ (.cons_cons _ (.cons_cons _ (a2.trans (.cons_cons _ (.cons _ (.cons_cons _ .slnil))))))))⟩
    | false =>
      rw [if_neg (by rw [hx]; decide)] at eO
      subst eO
      refine (rStep_own (hK.get 0 rfl) (rOwn_0 (xs := []) (v := Um.setLs o.m o.o) hK hr hv2 hV hsb hx)).mono ?_
      rintro r w' ⟨rfl, _, hSn⟩
      exact ⟨rfl, hO', _, _, [], RdAt.nil (.inr (.inr (.inr (.inr (.inr (.inr (.inl ⟨hd, q, _, _, _, _, OW, L, a, c', rfl, rfl, hI⟩))))))), rd_back0 hS i j k hi hj hk hij hik hjk hSn⟩
  · obtain ⟨v2, hv2⟩ : ∃ v2, v2 = Um.lstep c sl o.lp (Um.setLs o.m o.l) := ⟨_, rfl⟩
    have eO : O = Um.rd6 o v2 := by rw [hO, hv2]; exact Um.step6 hd q
    have hV := ho.k.l o.m ho.wd
    unfold Um.rd6 at eO
    cases hx : v2.dn with
    | true =>
      rw [if_pos hx] at eO
      subst eO
      refine (rStep_leave (hK.get 0 rfl) (rLeave_1 (v := Um.setLs o.m o.l) hK hr hv2 hV hsb hx)).mono ?_
      rintro r w' ⟨rfl, _, hSn⟩
      exact ⟨rfl, hO', _, [], [], RdAt.nil (.inl ⟨rfl, ⟨_, _, _, _, _, _, _, _, _, _, rfl⟩, rfl⟩), rd_back0 hS i j k hi hj hk hij hik hjk (hSn.sublist (.cons_cons _ (.cons_cons _ (.cons_cons _ (.cons _ .slnil)))))⟩
    | false =>
      rw [if_neg (by rw [hx]; decide)] at eO
      subst eO
      refine (rStep_leave (hK.get 0 rfl) (rLeave_0 (v := Um.setLs o.m o.l) hK hr hv2 hV hsb hx)).mono ?_
      rintro r w' ⟨rfl, _, hSn⟩
      exact ⟨rfl, hO', _, _, [], RdAt.nil (.inr (.inr (.inr (.inr (.inr (.inr (.inr ⟨hd, q, _, _, _, _, _, V, rfl, rfl⟩))))))), rd_back0 hS i j k hi hj hk hij hik hjk hSn⟩

end

end Go.Proofs.YtapgghciieloaaaGreat

/-
  A new read; is it done, its error; a step beside others' blocks; to its end; what the laws read.
-/
namespace Go.Proofs.YtapgghciieloaaaGreat
set_option maxRecDepth 100000
open Go.RowKit Go.Sort
set_option linter.unusedVariables false
set_option linter.unusedSimpArgs false

/-- the same blocks, told in another order -/
theorem Sx.perm12 {bs : List Nat} {w0 w : World} {l l' e : List (Nat × List Value)} (h : Sx bs w0 w l e) (p : l'.Perm l) : Sx bs w0 w l' e :=
  ⟨h.off, fun q hq => h.low q (p.mem_iff.1 hq), fun q hq => h.blk q (p.mem_iff.1 hq), (p.pairwise_iff (fun hab => Ne.symm hab)).2 h.nd, h.eb, fun q hq r hr => h.ed q hq r (p.mem_iff.1 hr)⟩

section
variable {bs : List Nat} {w0 w : World} {l e hb hx : List (Nat × List Value)} {B C P : Nat} {c : Um.Cf} {h : Nat} {sl ky : Int} {cs : List Value}

theorem rdDone_any {o : Um.Rd} (hA : RdAt P h ky sl e o cs hb) (hB : BlkAt w P cs) : Calls Tryz.prog 14 #[.pointer (some ⟨P, 0, none⟩)] w fun r w' => r = .returned (.bool o.dn) ∧ w' = w := by
  rcases hA with ⟨hd, ⟨v0, v1, v2, v3, v4, v5, v6, v7, v8, v9, rfl⟩, _⟩ | ⟨hd, q, ov, ot, pj, po, pl, ft, G, cl, la, hSt, rfl, _⟩ | ⟨hd, q, ⟨ov, ot, pg, pj, po, pl, ft, rfl⟩, _⟩ | ⟨hd, q, ⟨ov, ot, pg, pj, po, pl, ft, rfl⟩, _⟩ | ⟨hd, q, ⟨ov, ot, pg, pj, po, pl, ft, rfl⟩, _⟩ | ⟨hd, q, pg, po, pl, ft, J, L, a, c', rfl, _, hI⟩ | ⟨hd, q, pg, pj, pl, ft, OW, L, a, c', rfl, _, hI⟩ | ⟨hd, q, ov, ot, pg, pj, po, V, rfl, _⟩ <;> rw [hd]
  · exact rDone_n hB rfl
  all_goals exact rDone_f _ _ _ hB rfl

theorem rdError_any {o : Um.Rd} (hA : RdAt P h ky sl e o cs hb) (h0 : o.dn = false → o.e = 0) (hB : BlkAt w P cs) : Calls Tryz.prog 15 #[.pointer (some ⟨P, 0, none⟩)] w fun r w' => r = .returned (.int .i64 o.e) ∧ w' = w := by
  rcases hA with ⟨hd, ⟨v0, v1, v2, v3, v4, v5, v6, v7, v8, v9, rfl⟩, _⟩ | ⟨hd, q, ov, ot, pj, po, pl, ft, G, cl, la, hSt, rfl, _⟩ | ⟨hd, q, ⟨ov, ot, pg, pj, po, pl, ft, rfl⟩, _⟩ | ⟨hd, q, ⟨ov, ot, pg, pj, po, pl, ft, rfl⟩, _⟩ | ⟨hd, q, ⟨ov, ot, pg, pj, po, pl, ft, rfl⟩, _⟩ | ⟨hd, q, pg, po, pl, ft, J, L, a, c', rfl, _, hI⟩ | ⟨hd, q, pg, pj, pl, ft, OW, L, a, c', rfl, _, hI⟩ | ⟨hd, q, ov, ot, pg, pj, po, V, rfl, _⟩
  · exact rError_n hB rfl rfl
  all_goals
    rw [h0 hd]
    exact rError_f _ _ _ hB rfl

set_option maxHeartbeats 2000000 in
theorem gNew_f (h : Nat) (hh : Um.Word h) {la : Option Addr} {nl cl : Nat} {Z : Nat → Int} (hT : Told w la nl cl Z) :
    Calls Tryz.prog 44 #[.int .u64 (h : Nat), .slice la nl cl] w fun r w' => ∃ P la' cl' sb, r = .returned (.pointer (some ⟨P, 0, none⟩)) ∧ StB la' nl Z sb ∧ (∀ p ∈ sb, w.heap.size ≤ p.1) ∧ Sx [] w w' [(P, [.int .i64 (Um.svN h), .int .u64 ((0 : Nat) : Int), .int .u64 (h : Nat), .slice la' nl cl', .func (.func 85) #[.pointer (some ⟨P, 0, none⟩)] #[], .int .i64 0, .int .u64 ((0 : Nat) : Int)])] sb := by
  have HT := hide hT
  have HH := hide hh
  clear hT hh
  have hS := Sx.new w
  go_enter Tryz.func44, Tryz.ntmps44
  go_wp2_with fail
  refine (kSlot_any h _ (unhide HH)).mono ?_
  rintro r u ⟨rfl, hb⟩
  replace hS := hS.call hb
  clear hb
  go_wp2_with (first | (refine ybox hS (h := ?_); clear hS; intro _ _ hS) | (refine yall hS (h := ?_); clear hS; intro _ _ hS) | refine yld hS (h := ?_) | (refine yst hS (h := ?_); clear hS; intro _ hS))
  have HSZ := hS.bel.size
  refine (gClone_x hS ((unhide HT).below hS.bel)).mono ?_
  rintro r u ⟨la', cl', sb, rfl, hSB, hLO, hSn⟩
  clear hS
  have hS := hSn
  clear hSn
  dsimp only [putL, List.set, List.cons_append, List.nil_append] at hS
  have HSB := hide hSB
  have HLO := hide (fun p hp => Nat.le_trans HSZ (hLO p hp))
  clear hSB hLO HSZ
  go_wp2_with (first | (refine ybox hS (h := ?_); clear hS; intro _ _ hS) | (refine yall hS (h := ?_); clear hS; intro _ _ hS) | refine yld hS (h := ?_) | (refine yst hS (h := ?_); clear hS; intro _ hS))
  go_ret
  obtain ⟨P, rfl⟩ := nameB hS 0 rfl
  exact ⟨P, la', cl', sb, rfl, unhide HSB, unhide HLO, hS⟩

set_option maxHeartbeats 2000000 in
theorem rdNew_k1 (w : World) (c : Um.Cf) (h : Nat) (ky : Int) (hk : ky < 0) :
    Calls Tryz.prog 11 #[(.agg #[.int .i64 (c.t), .int .i64 (c.s), .int .i64 (c.k), .int .i64 (c.g), .int .u64 (c.q : Int)]), .int .u64 (h : Nat), .int .i64 ky] w fun r w' => ∃ P, r = .returned (.pointer (some ⟨P, 0, none⟩)) ∧ Sx [] w w' [(P, [.int .i64 0, .int .i64 0, .int .u64 0, .int .u64 0, .nilFunc, .int .i64 0, .pointer none, .pointer none, .pointer none, .pointer none, .nilFunc, .int .i64 5])] [] := by
  have hS := Sx.new w
  have d1 : decide (ky < 0) = true := decide_eq_true hk
  go_enter Tryz.func11, Tryz.ntmps11
  go_wp2_with (first | (refine ybox hS (h := ?_); clear hS; intro _ _ hS) | (refine yall hS (h := ?_); clear hS; intro _ _ hS) | refine yld hS (h := ?_) | (refine yst hS (h := ?_); clear hS; intro _ hS))
  go_ret
  obtain ⟨P, rfl⟩ := nameB hS 1 rfl
  exact ⟨P, rfl, hS.sublist (.cons _ (.cons_cons _ .slnil))⟩

set_option maxHeartbeats 2000000 in
theorem rdNew_k2 (w : World) (c : Um.Cf) (h : Nat) (ky : Int) (hk : ¬ ky < 0) (hk2 : c.k ≤ ky) :
    Calls Tryz.prog 11 #[(.agg #[.int .i64 (c.t), .int .i64 (c.s), .int .i64 (c.k), .int .i64 (c.g), .int .u64 (c.q : Int)]), .int .u64 (h : Nat), .int .i64 ky] w fun r w' => ∃ P, r = .returned (.pointer (some ⟨P, 0, none⟩)) ∧ Sx [] w w' [(P, [.int .i64 0, .int .i64 0, .int .u64 0, .int .u64 0, .nilFunc, .int .i64 0, .pointer none, .pointer none, .pointer none, .pointer none, .nilFunc, .int .i64 5])] [] := by
  have hS := Sx.new w
  have d1 : decide (ky < 0) = false := decide_eq_false hk
  have d2 : decide (c.k ≤ ky) = true := decide_eq_true hk2
  go_enter Tryz.func11, Tryz.ntmps11
  go_wp2_with (first | (refine ybox hS (h := ?_); clear hS; intro _ _ hS) | (refine yall hS (h := ?_); clear hS; intro _ _ hS) | refine yld hS (h := ?_) | (refine yst hS (h := ?_); clear hS; intro _ hS))
  go_ret
  obtain ⟨P, rfl⟩ := nameB hS 1 rfl
  exact ⟨P, rfl, hS.sublist (.cons _ (.cons_cons _ .slnil))⟩

set_option maxHeartbeats 2000000 in
theorem rdNew_no (w : World) (c : Um.Cf) (h : Nat) (ky : Int) (hk : ¬ ky < 0) (hk2 : ¬ c.k ≤ ky) (hn : Um.ook h c.s = false) (hh : Um.Word h) :
    Calls Tryz.prog 11 #[(.agg #[.int .i64 (c.t), .int .i64 (c.s), .int .i64 (c.k), .int .i64 (c.g), .int .u64 (c.q : Int)]), .int .u64 (h : Nat), .int .i64 ky] w fun r w' => ∃ P, r = .returned (.pointer (some ⟨P, 0, none⟩)) ∧ Sx [] w w' [(P, [.int .i64 0, .int .i64 0, .int .u64 0, .int .u64 0, .nilFunc, .int .i64 0, .pointer none, .pointer none, .pointer none, .pointer none, .nilFunc, .int .i64 2])] [] := by
  have hS := Sx.new w
  have d1 : decide (ky < 0) = false := decide_eq_false hk
  have d2 : decide (c.k ≤ ky) = false := decide_eq_false hk2
  have HK := hide (fun u => kOf_any h c.s u hh)
  rw [hn] at HK
  clear hn hh
  go_enter Tryz.func11, Tryz.ntmps11
  go_wp2_with (first | (refine ybox hS (h := ?_); clear hS; intro _ _ hS) | (refine yall hS (h := ?_); clear hS; intro _ _ hS) | refine yld hS (h := ?_) | (refine yst hS (h := ?_); clear hS; intro _ hS))
  refine ((unhide HK) _).mono ?_
  rintro r u ⟨rfl, hb⟩
  replace hS := hS.call hb
  clear hb
  go_wp2_with (first | (refine ybox hS (h := ?_); clear hS; intro _ _ hS) | (refine yall hS (h := ?_); clear hS; intro _ _ hS) | refine yld hS (h := ?_) | (refine yst hS (h := ?_); clear hS; intro _ hS))
  go_ret
  obtain ⟨P, rfl⟩ := nameB hS 1 rfl
  exact ⟨P, rfl, hS.sublist (.cons _ (.cons_cons _ .slnil))⟩

set_option maxHeartbeats 4000000 in
theorem rdNew_yes (w : World) (c : Um.Cf) (h : Nat) (ky : Int) (hk : ¬ ky < 0) (hk2 : ¬ c.k ≤ ky) (hn : Um.ook h c.s = true) (hh : Um.Word h) :
    Calls Tryz.prog 11 #[(.agg #[.int .i64 (c.t), .int .i64 (c.s), .int .i64 (c.k), .int .i64 (c.g), .int .u64 (c.q : Int)]), .int .u64 (h : Nat), .int .i64 ky] w fun r w' => ∃ P G la cl sb, r = .returned (.pointer (some ⟨P, 0, none⟩)) ∧ StB la 1 st12 sb ∧ (∀ p ∈ sb, w.heap.size ≤ p.1) ∧ Sx [] w w' [(G, [.int .i64 (Um.svN h), .int .u64 ((0 : Nat) : Int), .int .u64 (h : Nat), .slice la 1 cl, .func (.func 85) #[.pointer (some ⟨G, 0, none⟩)] #[], .int .i64 0, .int .u64 ((0 : Nat) : Int)]), (P, [.int .i64 (Um.svN h), .int .i64 ky, .int .u64 0, .int .u64 0, .nilFunc, .int .i64 0, .pointer (some ⟨G, 0, none⟩), .pointer none, .pointer none, .pointer none, .func (.func 45) #[.pointer (some ⟨P, 0, none⟩)] #[], .int .i64 0])] sb := by
  have hS := Sx.new w
  have d1 : decide (ky < 0) = false := decide_eq_false hk
  have d2 : decide (c.k ≤ ky) = false := decide_eq_false hk2
  have HK := hide (fun u => kOf_any h c.s u hh)
  rw [hn, Um.os_yes hn, ← (Um.ook_facts hn).2.2] at HK
  have HH := hide hh
  clear hn hh
  go_enter Tryz.func11, Tryz.ntmps11
  go_wp2_with (first | (refine ybox hS (h := ?_); clear hS; intro _ _ hS) | (refine yall hS (h := ?_); clear hS; intro _ _ hS) | refine yld hS (h := ?_) | (refine yst hS (h := ?_); clear hS; intro _ hS))
  refine ((unhide HK) _).mono ?_
  rintro r u ⟨rfl, hb⟩
  replace hS := hS.call hb
  clear hb
  go_wp2_with (first | (first | (refine ybox hS (h := ?_); clear hS; intro _ _ hS) | (refine yall hS (h := ?_); clear hS; intro _ _ hS) | refine yld hS (h := ?_) | (refine yst hS (h := ?_); clear hS; intro _ hS)) | (refine wpx_build1 hS rfl _ rfl _ rfl _ (by intro _; simp only [Act.put, List.setIfInBounds_toArray, List.set_cons_zero, List.set_cons_succ]; first | done | exact rfl) ?_; clear hS; intro _ _ hS; dsimp only [List.cons_append, List.nil_append] at hS))
  refine (gNew_f h (unhide HH) (told1 (hS.get 1 rfl))).mono ?_
  rintro r u ⟨G, la, cl, sb, rfl, hSB, hLO, hS2⟩
  have hsz := hS.size
  have hSn := hS.plus hS2.bel hS2 hLO
  have HSB := hide hSB
  have HLO := hide (fun p (hp : p ∈ sb) => Nat.le_trans hsz (hLO p hp))
  clear hS hS2 hSB hLO hsz
  have hS := hSn
  clear hSn
  dsimp only [List.cons_append, List.nil_append] at hS
  go_wp2_with (first | (refine ybox hS (h := ?_); clear hS; intro _ _ hS) | (refine yall hS (h := ?_); clear hS; intro _ _ hS) | refine yld hS (h := ?_) | (refine yst hS (h := ?_); clear hS; intro _ hS))
  go_ret
  obtain ⟨P, rfl⟩ := nameB hS 3 rfl
  exact ⟨P, G, la, cl, sb, rfl, unhide HSB, unhide HLO, hS.sublist (.cons _ (.cons _ (.cons_cons _ (.cons_cons _ .slnil))))⟩

theorem rdNew_p (hS : Sx bs w0 w l e) (c : Um.Cf) (h : Nat) (ky : Int) (hh : Um.Word h) (m : Um.Mm) :
    Calls Tryz.prog 11 #[(.agg #[.int .i64 (c.t), .int .i64 (c.s), .int .i64 (c.k), .int .i64 (c.g), .int .u64 (c.q : Int)]), .int .u64 (h : Nat), .int .i64 ky] w fun r w' => ∃ P cs hb sb, r = .returned (.pointer (some ⟨P, 0, none⟩)) ∧ RdAt P h ky (Um.svN h) sb (Um.rdbeg c h ky m) cs hb ∧ Sx bs w0 w' (l ++ ((P, cs) :: hb)) (e ++ sb) := by
  by_cases hk : ky < 0
  · refine (rdNew_k1 w c h ky hk).mono ?_
    rintro r w' ⟨P, rfl, hS2⟩
    refine ⟨P, _, [], [], rfl, ?_, hS.plus hS2.bel hS2 (fun p hp => by cases hp)⟩
    rw [Um.rdbeg_key (.inl hk)]
    exact .inl ⟨rfl, ⟨_, _, _, _, _, _, _, _, _, _, rfl⟩, rfl⟩
  by_cases hk2 : c.k ≤ ky
  · refine (rdNew_k2 w c h ky hk hk2).mono ?_
    rintro r w' ⟨P, rfl, hS2⟩
    refine ⟨P, _, [], [], rfl, ?_, hS.plus hS2.bel hS2 (fun p hp => by cases hp)⟩
    rw [Um.rdbeg_key (.inr hk2)]
    exact .inl ⟨rfl, ⟨_, _, _, _, _, _, _, _, _, _, rfl⟩, rfl⟩
  have hk3 : ¬ (ky < 0 ∨ c.k ≤ ky) := fun q => q.elim hk hk2
  cases hn : Um.ook h c.s with
  | false =>
    refine (rdNew_no w c h ky hk hk2 hn hh).mono ?_
    rintro r w' ⟨P, rfl, hS2⟩
    refine ⟨P, _, [], [], rfl, ?_, hS.plus hS2.bel hS2 (fun p hp => by cases hp)⟩
    rw [Um.rdbeg_no hk3 hn]
    exact .inl ⟨rfl, ⟨_, _, _, _, _, _, _, _, _, _, rfl⟩, rfl⟩
  | true =>
    refine (rdNew_yes w c h ky hk hk2 hn hh).mono ?_
    rintro r w' ⟨P, G, la, cl, sb, rfl, hSB, hLO, hS2⟩
    have hS3 := hS2.perm12 (.swap _ _ [])
    refine ⟨P, _, [(G, entL G h la 1 cl (Um.enew m))], sb, rfl, ?_, hS.plus hS3.bel hS3 hLO⟩
    rw [Um.rdbeg_yes hk3 hn]
    exact .inr (.inl ⟨rfl, rfl, _, _, _, _, _, _, G, cl, la, hSB, rfl, rfl⟩)

theorem rdbeg_ook {c : Um.Cf} {h : Nat} {ky : Int} {m : Um.Mm} (q : (Um.rdbeg c h ky m).dn = false) : Um.ook h c.s = true := by
  unfold Um.rdbeg at q
  split at q
  · cases q
  · split at q
    · assumption
    · cases q

theorem RdAt.ended {o : Um.Rd} (hA : RdAt P h ky sl e o cs hb) (hd : o.dn = true) : hb = [] := by
  rcases hA with ⟨_, _, q⟩ | ⟨q, _⟩ | ⟨q, _⟩ | ⟨q, _⟩ | ⟨q, _⟩ | ⟨q, _⟩ | ⟨q, _⟩ | ⟨q, _⟩
  · exact q
  all_goals
    rw [hd] at q
    cases q

theorem RdAt.done2 {o : Um.Rd} (hA : RdAt P h ky sl e o cs hb) (hd : o.dn = true) : cs[10]? = some .nilFunc ∧ cs[11]? = some (.int .i64 o.e) := by
  rcases hA with ⟨_, ⟨v0, v1, v2, v3, v4, v5, v6, v7, v8, v9, rfl⟩, _⟩ | ⟨q, _⟩ | ⟨q, _⟩ | ⟨q, _⟩ | ⟨q, _⟩ | ⟨q, _⟩ | ⟨q, _⟩ | ⟨q, _⟩
  · exact ⟨rfl, rfl⟩
  all_goals
    rw [hd] at q
    cases q

/-- two callees' blocks, in the other order -/
theorem Sx.two12 {x y z a b d : List (Nat × List Value)} (h : Sx bs w0 w (((l ++ x) ++ y) ++ z) (((e ++ a) ++ b) ++ d)) : Sx bs w0 w (((l ++ y) ++ x) ++ z) (((e ++ b) ++ a) ++ d) := by
  have p : (((l ++ y) ++ x) ++ z).Perm (((l ++ x) ++ y) ++ z) := by
    refine List.Perm.append_right z ?_
    rw [List.append_assoc, List.append_assoc]
    exact List.Perm.append_left l List.perm_append_comm
  have h2 := h.perm12 p
  refine h2.sub (fun q hq => hq) h2.nd (fun q hq => ?_)
  simp only [List.mem_append] at hq ⊢
  rcases hq with ((q1 | q1) | q1) | q1 <;> simp [q1]

theorem Sx.two12l {x y a b : List (Nat × List Value)} (h : Sx bs w0 w ((l ++ x) ++ y) ((e ++ a) ++ b)) : Sx bs w0 w ((l ++ y) ++ x) ((e ++ b) ++ a) := by
  have h2 := Sx.two12 (l := l) (e := e) (x := x) (y := y) (z := []) (a := a) (b := b) (d := []) (by rw [List.append_nil, List.append_nil]; exact h)
  rwa [List.append_nil, List.append_nil] at h2

theorem put3_app {i j k : Nat} {a b d a' b' d' : Nat × List Value} (hi : l[i]? = some a) (hj : l[j]? = some b) (hk : l[k]? = some d) : putL (l ++ hx) [(i, a'), (j, b'), (k, d')] = putL l [(i, a'), (j, b'), (k, d')] ++ hx := by
  have li := put_get_lt hi
  have lj := put_get_lt hj
  have lk := put_get_lt hk
  show (((l ++ hx).set i a').set j b').set k d' = ((l.set i a').set j b').set k d' ++ hx
  rw [List.set_append_left _ _ li, List.set_append_left _ _ (by rw [List.length_set]; exact lj), List.set_append_left _ _ (by rw [List.length_set, List.length_set]; exact lk)]

theorem rdStep_h (hS : Sx bs w0 w (l ++ (hx ++ hb)) e) (i j k : Nat) (o O : Um.Rd) (hO : O = Um.rdstep c h inn12 ky sl o) (hA : RdAt P h ky sl e o cs hb) (hi : l[i]? = some (B, memL c C o.m)) (hj : l[j]? = some (C, rowW o.m.ws c.n)) (hk : l[k]? = some (P, cs)) (hij : i ≠ j) (hik : i ≠ k) (hjk : j ≠ k) (hr : c.r = true) (hh : Um.Word h) (ho : Um.Rok c o) (hn : o.dn = false → Um.ook h c.s = true) (hsb : -9223372036854775808 ≤ sl ∧ sl ≤ 9223372036854775807) (hkb : -9223372036854775808 ≤ ky ∧ ky ≤ 9223372036854775807) :
    Calls Tryz.prog 17 #[.pointer (some ⟨P, 0, none⟩), .pointer (some ⟨B, 0, none⟩)] w fun r w' => r = .returned (.tuple #[]) ∧ Um.Rok c O ∧ ∃ cs' hb' sb, RdAt P h ky sl (e ++ sb) O cs' hb' ∧ Sx bs w0 w' (putL l [(i, B, memL c C O.m), (j, C, rowW O.m.ws c.n), (k, P, cs')] ++ (hx ++ hb')) (e ++ sb) := by
  rw [← List.append_assoc] at hS
  refine (rdStep_any (l := l ++ hx) hS i j k o O hO hA (List.getElem?_append_left (put_get_lt hi) ▸ hi) (List.getElem?_append_left (put_get_lt hj) ▸ hj) (List.getElem?_append_left (put_get_lt hk) ▸ hk) hij hik hjk hr hh ho hn hsb hkb).mono ?_
  rintro r w' ⟨e1, e2, cs', hb', sb, e3, e4⟩
  rw [put3_app hi hj hk, List.append_assoc] at e4
  exact ⟨e1, e2, cs', hb', sb, e3, e4⟩

set_option maxHeartbeats 4000000 in
theorem rdEnds_x (hS : Sx bs w0 w (l ++ (hx ++ hb)) e) (i j k : Nat) (o : Um.Rd) (hA : RdAt P h ky sl e o cs hb) (hi : l[i]? = some (B, memL c C o.m)) (hj : l[j]? = some (C, rowW o.m.ws c.n)) (hk : l[k]? = some (P, cs)) (hij : i ≠ j) (hik : i ≠ k) (hjk : j ≠ k) (hr : c.r = true) (hh : Um.Word h) (ho : Um.Rok c o) (hn : o.dn = false → Um.ook h c.s = true) (hsb : -9223372036854775808 ≤ sl ∧ sl ≤ 9223372036854775807) (hkb : -9223372036854775808 ≤ ky ∧ ky ≤ 9223372036854775807) (most : Nat) (hm : most ≤ 1000) (H : Um.Rd) (hH : H = Um.rdit c h inn12 ky sl o most) :
    Calls Tryz.prog 20 #[.pointer (some ⟨P, 0, none⟩), .pointer (some ⟨B, 0, none⟩), .int .i64 (most : Nat)] w fun r w' => ∃ N : Nat, r = .returned (.int .i64 (N : Nat)) ∧ N ≤ most ∧ (N < most → (Um.rdit c h inn12 ky sl o N).dn = true) ∧ (∀ q, q < N → (Um.rdit c h inn12 ky sl o q).dn = false) ∧ Um.Rok c H ∧ ∃ cs' hb' sb, RdAt P h ky sl (e ++ sb) H cs' hb' ∧ Sx bs w0 w' (putL l [(i, B, memL c C H.m), (j, C, rowW H.m.ws c.n), (k, P, cs')] ++ (hx ++ hb')) (e ++ sb) := by
  have HR := hide hr
  have HO := hide (show ∀ k, Um.Rok c (Um.rdit c h inn12 ky sl o k) from fun k => Um.rok_it ho k)
  have HH := hide hH
  have HHH := hide hh
  have HBD := hide (And.intro hsb hkb)
  have HN := hide (show ∀ k, (Um.rdit c h inn12 ky sl o k).dn = false → Um.ook h c.s = true from fun k hk => hn (by
    cases hq : o.dn with
    | false => rfl
    | true => rw [Um.rdit_done (q := 0) hq (Nat.zero_le k)] at hk; rw [← hk]; exact hq.symm))
  have HL := hide (And.intro (put_get_lt hi) (And.intro (put_get_lt hj) (put_get_lt hk)))
  have HD3 := hide (And.intro hij (And.intro hik hjk))
  have H0 := hide (show ∃ cs' hb' sb, RdAt P h ky sl (e ++ sb) (Um.rdit c h inn12 ky sl o 0) cs' hb' ∧ Sx bs w0 w (putL l [(i, B, memL c C (Um.rdit c h inn12 ky sl o 0).m), (j, C, rowW (Um.rdit c h inn12 ky sl o 0).m.ws c.n), (k, P, cs')] ++ (hx ++ hb')) (e ++ sb) from ⟨cs, hb, [], hA.nil, by
    rw [List.append_nil, show putL l [(i, B, memL c C (Um.rdit c h inn12 ky sl o 0).m), (j, C, rowW (Um.rdit c h inn12 ky sl o 0).m.ws c.n), (k, P, cs)] = l from put_same3 hi hj hk]
    exact hS⟩)
  clear hS hA hi hj hk hr ho hH hh hsb hkb hn hij hik hjk
  go_enter Tryz.func20, Tryz.ntmps20
  go_wp2_with fail
  go_loopw [9] (fun iv wr => ∃ q : Nat, q ≤ most ∧ iv = .int .i64 q ∧ Hid (∀ k, k < q → (Um.rdit c h inn12 ky sl o k).dn = false) ∧ Hid (∃ cs' hb' sb, RdAt P h ky sl (e ++ sb) (Um.rdit c h inn12 ky sl o q) cs' hb' ∧ Sx bs w0 wr (putL l [(i, B, memL c C (Um.rdit c h inn12 ky sl o q).m), (j, C, rowW (Um.rdit c h inn12 ky sl o q).m.ws c.n), (k, P, cs')] ++ (hx ++ hb')) (e ++ sb))) (fun iv _ => most - (intOf iv).toNat)
  case atStart => exact ⟨0, Nat.zero_le _, rfl, hide (fun _ h => absurd h (Nat.not_lt_zero _)), H0⟩
  case round =>
    clear H0
    rename_i wr
    obtain ⟨q, hq, rfl, HQ, HS3⟩ := hrel
    obtain ⟨cs1, hb1, sb1, hA1, hS1⟩ := unhide HS3
    have hg := put3_get (l := l) (a := (B, memL c C (Um.rdit c h inn12 ky sl o q).m)) (b := (C, rowW (Um.rdit c h inn12 ky sl o q).m.ws c.n)) (d := (P, cs1)) (unhide HL).1 (unhide HL).2.1 (unhide HL).2.2 (unhide HD3).1 (unhide HD3).2.1 (unhide HD3).2.2
    by_cases hlt : q < most
    · have hlti : (q : Int) < (most : Int) := by omega
      have HD := hide (rdDone_any hA1 (hS1.get k (List.getElem?_append_left (put_get_lt hg.2.2) ▸ hg.2.2)))
      cases hd : (Um.rdit c h inn12 ky sl o q).dn with
      | true =>
        have HE := hide (show Um.rdit c h inn12 ky sl o q = H by rw [unhide HH]; exact (Um.rdit_done hd (by omega)).symm)
        rw [hd] at HD
        have Hd := hide hd
        clear hS1 hA1 hg hd
        go_wp2_with fail
        refine (unhide HD).mono ?_
        rintro r u ⟨rfl, rfl⟩
        clear HD
        go_wp2
        go_ret
        refine ⟨q, rfl, hq, fun _ => unhide Hd, unhide HQ, ?_⟩
        have hS5 := unhide HS3
        have hO5 := (unhide HO) q
        rw [unhide HE] at hS5 hO5
        exact ⟨hO5, hS5⟩
      | false =>
        rw [hd] at HD
        have Hd := hide hd
        have HA1 := hide hA1
        have HS1 := hide hS1
        have HG := hide hg
        clear hS1 hA1 hg hd HS3
        go_wp2_with fail
        refine (unhide HD).mono ?_
        rintro r u ⟨rfl, rfl⟩
        clear HD
        go_wp2_with fail
        refine (rdStep_h (unhide HS1) i j k _ (Um.rdit c h inn12 ky sl o (q + 1)) rfl (unhide HA1) (unhide HG).1 (unhide HG).2.1 (unhide HG).2.2 (unhide HD3).1 (unhide HD3).2.1 (unhide HD3).2.2 (unhide HR) (unhide HHH) ((unhide HO) q) ((unhide HN) q) (unhide HBD).1 (unhide HBD).2).mono ?_
        rintro r u ⟨rfl, _, cs2, hb2, sb2, hA2, hS2⟩
        rw [put3_twice (unhide HD3).1 (unhide HD3).2.1 (unhide HD3).2.2, List.append_assoc] at hS2
        rw [List.append_assoc] at hA2
        have HS6 := hide (show ∃ cs' hb' sb, RdAt P h ky sl (e ++ sb) (Um.rdit c h inn12 ky sl o (q + 1)) cs' hb' ∧ Sx bs w0 u (putL l [(i, B, memL c C (Um.rdit c h inn12 ky sl o (q + 1)).m), (j, C, rowW (Um.rdit c h inn12 ky sl o (q + 1)).m.ws c.n), (k, P, cs')] ++ (hx ++ hb')) (e ++ sb) from ⟨cs2, hb2, sb1 ++ sb2, hA2, hS2⟩)
        clear hS2 hA2 HS1 HA1 HG
        go_wp2
        refine ⟨⟨q + 1, by omega, by go_num, hide (fun k hk => ?_), HS6⟩, by simp [intOf]; omega⟩
        by_cases e : k = q
        · subst e; exact unhide Hd
        · exact (unhide HQ) k (by omega)
    · have hge : ¬ (q : Int) < (most : Int) := by omega
      obtain rfl : q = most := by omega
      clear hS1 hA1 hg
      go_wp2
      go_ret
      have hS5 := unhide HS3
      have hO5 := (unhide HO) q
      rw [← unhide HH] at hS5 hO5
      exact ⟨q, rfl, Nat.le_refl _, fun h => absurd h (Nat.lt_irrefl _), unhide HQ, hO5, hS5⟩

end

set_option maxHeartbeats 1000000 in
theorem of12_any (a b : Int) (w : World) : Calls Tryz.prog 25 #[.int .i64 a, .int .i64 b] w fun r w' => r = .returned (.agg #[.int .i64 a, .int .i64 b]) ∧ Below w.heap.size w w' := by
  go_enter Tryz.func25, Tryz.ntmps25
  go_wp2
  exact bodyPost_ret (v := (.agg #[.int .i64 a, .int .i64 b])) (by simp [results, Tryz.results25, go_sem]) rfl ⟨rfl, (Below.refl _ _).alloc (Nat.le_refl _) _⟩

end Go.Proofs.YtapgghciieloaaaGreat

/-
  The walk of layer 12's first look: a key that another active one writes is read; one key that there is not; one slot that there is not.
-/
namespace Go.Proofs.YtapgghciieloaaaGreat
set_option maxRecDepth 100000
open Go.RowKit Go.Sort
set_option linter.unusedVariables false
set_option linter.unusedSimpArgs false

theorem perm3r {x y : Nat × List Value} {h : List (Nat × List Value)} : (x :: y :: h).Perm ((h ++ [x]) ++ [y]) := by
  rw [List.append_assoc]
  exact List.perm_append_comm (l₁ := [x, y]) (l₂ := h)

def rc0 : Um.Cf := ⟨1, 2, 1, 0, 0⟩
def rm1 : Um.Mm := Um.mtouch rc0 ⟨fun _ => 0, 0, Um.noT⟩ 2 4 0 0 268435456
def rm2 : Um.Mm := Um.mtouch rc0 rm1 2 4 1 0 268435456
def rm3 : Um.Mm := Um.mtouch rc0 rm2 2 8 0 0 8192
def ra12 : Um.Rd := Um.rdit rc0 1 inn12 0 0 (Um.rdbeg rc0 1 0 rm3) 50
def rm4 : Um.Mm := Um.mtouch rc0 ra12.m 1 4 0 0 0
def rm5 : Um.Mm := Um.mtouch rc0 rm4 1 4 1 0 0
def rm6 : Um.Mm := Um.mtouch rc0 rm5 1 8 0 0 0

theorem rc0_r : rc0.r = true := by decide +kernel

theorem ra_n {n : Nat} (h0 : n ≤ 50) (h1 : n < 50 → (Um.rdit rc0 1 inn12 0 0 (Um.rdbeg rc0 1 0 rm3) n).dn = true) (h2 : ∀ q, q < n → (Um.rdit rc0 1 inn12 0 0 (Um.rdbeg rc0 1 0 rm3) q).dn = false) : n = 11 := by
  have hN : (Um.rdit rc0 1 inn12 0 0 (Um.rdbeg rc0 1 0 rm3) 11).dn = true := by decide +kernel
  have hf : (Um.rdit rc0 1 inn12 0 0 (Um.rdbeg rc0 1 0 rm3) 10).dn = false := by decide +kernel
  rcases Nat.lt_trichotomy n 11 with h | h | h
  · have h3 := h1 (by omega)
    have h4 := Um.rdit_done h3 (show n ≤ 10 by omega)
    rw [h4, h3] at hf
    cases hf
  · exact h
  · have h3 := h2 11 h
    rw [hN] at h3
    cases h3

theorem nw12_2 (w : World) : Calls Tryz.prog 34 #[.int .i64 2, .int .i64 0] w fun r w' => r = .returned (.int .u64 ((268435456 : Nat) : Int)) ∧ Below w.heap.size w w' := by
  have h := rNew01_any 2 w
  rwa [show Um.packV 0 2 false false false 0 0 = 268435456 by decide +kernel] at h

theorem wi12_a (w : World) : Calls Tryz.prog 38 #[.int .u64 ((268435456 : Nat) : Int), .int .i64 0, .int .i64 1] w fun r w' => r = .returned (.int .u64 ((268435458 : Nat) : Int)) ∧ Below w.heap.size w w' := by
  have h := same_below (refWith_any 268435456 0 1 w (by unfold Um.Word; omega))
  rwa [show Um.withN 268435456 0 1 = 268435458 by decide +kernel] at h

theorem wi12_b (w : World) : Calls Tryz.prog 38 #[.int .u64 ((268435456 : Nat) : Int), .int .i64 1, .int .i64 0] w fun r w' => r = .returned (.int .u64 ((268439552 : Nat) : Int)) ∧ Below w.heap.size w w' := by
  have h := same_below (refWith_any 268435456 1 0 w (by unfold Um.Word; omega))
  rwa [show Um.withN 268435456 1 0 = 268439552 by decide +kernel] at h

set_option maxHeartbeats 8000000 in
theorem rAlive_any (w : World) : Calls Tryz.prog 12 #[] w fun e w' => e = .returned (.bool true) ∧ Below w.heap.size w w' := by
  have hS := Sx.new w
  go_enter Tryz.func12, Tryz.ntmps12
  go_wp2_with (first | (refine ybox hS (h := ?_); clear hS; intro _ _ hS) | (refine yall hS (h := ?_); clear hS; intro _ _ hS) | refine yld hS (h := ?_) | (refine yst hS (h := ?_); clear hS; intro _ hS))
  refine (new_x hS rc0 rc0_r).mono ?_
  rintro r u ⟨B, C, rfl, hWn, hSn⟩
  clear hS
  have hS := hSn
  clear hSn
  dsimp only [putL, List.set, List.cons_append, List.nil_append] at hS
  have HW0 := hide hWn
  clear hWn
  go_wp2_with fail
  refine (of12_any 4 0 _).mono ?_
  rintro r u ⟨rfl, hb⟩
  replace hS := hS.call hb
  clear hb
  go_wp2_with fail
  refine (nw12_2 _).mono ?_
  rintro r u ⟨rfl, hb⟩
  replace hS := hS.call hb
  clear hb
  go_wp2_with fail
  refine (mStore_x hS 1 2 rfl rfl (by decide) rc0_r (unhide HW0) 4 0 268435456 (by unfold Um.Word; omega) (by decide) (by decide) rm1 rfl).mono ?_
  rintro r u ⟨rfl, hWn, hSn⟩
  clear hS
  have hS := hSn
  clear hSn
  dsimp only [putL, List.set, List.cons_append, List.nil_append] at hS
  have HW1 := hide hWn
  clear hWn
  go_wp2_with fail
  refine (of12_any 4 1 _).mono ?_
  rintro r u ⟨rfl, hb⟩
  replace hS := hS.call hb
  clear hb
  go_wp2_with fail
  refine (nw12_2 _).mono ?_
  rintro r u ⟨rfl, hb⟩
  replace hS := hS.call hb
  clear hb
  go_wp2_with fail
  refine (mStore_x hS 1 2 rfl rfl (by decide) rc0_r (unhide HW1) 4 1 268435456 (by unfold Um.Word; omega) (by decide) (by decide) rm2 rfl).mono ?_
  rintro r u ⟨rfl, hWn, hSn⟩
  clear hS
  have hS := hSn
  clear hSn
  dsimp only [putL, List.set, List.cons_append, List.nil_append] at hS
  have HW2 := hide hWn
  clear hWn
  go_wp2_with fail
  refine (of12_any 8 0 _).mono ?_
  rintro r u ⟨rfl, hb⟩
  replace hS := hS.call hb
  clear hb
  go_wp2_with fail
  refine (mStore_x hS 1 2 rfl rfl (by decide) rc0_r (unhide HW2) 8 0 8192 (by unfold Um.Word; omega) (by decide) (by decide) rm3 rfl).mono ?_
  rintro r u ⟨rfl, hWn, hSn⟩
  clear hS
  have hS := hSn
  clear hSn
  dsimp only [putL, List.set, List.cons_append, List.nil_append] at hS
  have HW3 := hide hWn
  clear hWn
  obtain ⟨CF, rfl⟩ := nameB hS 0 rfl
  go_upto_region 8 with fail
  go_cut [1, 2, 4, 5, 6] (fun s1 s2 s4 s5 s6 wx => s1 = .pointer (some ⟨CF, 0, none⟩) ∧ s2 = .pointer (some ⟨B, 0, none⟩) ∧ ∃ Pa Pb Pd csa csb csd hba hbb hbd sa sb sd, s4 = .pointer (some ⟨Pa, 0, none⟩) ∧ s5 = .pointer (some ⟨Pb, 0, none⟩) ∧ s6 = .pointer (some ⟨Pd, 0, none⟩) ∧ RdAt Pa 1 0 (Um.svN 1) sa (Um.rdbeg rc0 1 0 rm3) csa hba ∧ RdAt Pb 1 1 (Um.svN 1) sb (Um.rdbeg rc0 1 1 rm3) csb hbb ∧ RdAt Pd 3 0 (Um.svN 3) sd (Um.rdbeg rc0 3 0 rm3) csd hbd ∧ Sx [] w wx (((([(CF, [.int .i64 1, .int .i64 2, .int .i64 1, .int .i64 0, .int .u64 0]), (B, memL rc0 C rm3), (C, rowW rm3.ws rc0.n)]) ++ ((Pa, csa) :: hba)) ++ ((Pb, csb) :: hbb)) ++ ((Pd, csd) :: hbd)) ((([] ++ sa) ++ sb) ++ sd))
  case first =>
    have k0 := fun w' (hq : BlkAt w' CF [.int .i64 1, .int .i64 2, .int .i64 1, .int .i64 0, .int .u64 0]) => hq.cell 0 _ rfl
    have k1 := fun w' (hq : BlkAt w' CF [.int .i64 1, .int .i64 2, .int .i64 1, .int .i64 0, .int .u64 0]) => hq.cell 1 _ rfl
    have k2 := fun w' (hq : BlkAt w' CF [.int .i64 1, .int .i64 2, .int .i64 1, .int .i64 0, .int .u64 0]) => hq.cell 2 _ rfl
    have k3 := fun w' (hq : BlkAt w' CF [.int .i64 1, .int .i64 2, .int .i64 1, .int .i64 0, .int .u64 0]) => hq.cell 3 _ rfl
    have k4 := fun w' (hq : BlkAt w' CF [.int .i64 1, .int .i64 2, .int .i64 1, .int .i64 0, .int .u64 0]) => hq.cell 4 _ rfl
    have HP := hide (hS.get 0 rfl)
    have HS3 := hide hS
    clear hS
    go_region_held3 (fun w' => BlkAt w' CF [.int .i64 1, .int .i64 2, .int .i64 1, .int .i64 0, .int .u64 0]) (first | exact (unhide HP).drew | exact BlkAt.below (by assumption) (by assumption) | assumption) (first | (go_at_call 11; refine (rdNew_p (by first | exact hSa | exact (unhide HS3).drew) rc0 _ _ (by unfold Um.Word; decide) rm3).mono ?_; rintro e u5 ⟨Pn, csn, hbn, sbn, rfl, hAn, hSa⟩; have hPn := hSa.get 0 rfl))
    all_goals
      go_wp2_with fail
      go_meet
      refine ⟨rfl, rfl, _, _, _, _, _, _, _, _, _, _, _, _, rfl, rfl, rfl, by assumption, by assumption, by assumption, ?_⟩
      first | exact hSa | exact hSa.two12l | exact Sx.two12 hSa | exact (Sx.two12 hSa.two12l) | exact (Sx.two12 hSa).two12l | exact (Sx.two12 (Sx.two12 hSa).two12l)
  case rest =>
  clear hS
  obtain ⟨rfl, rfl, Pa, Pb, Pd, csa, csb, csd, hba, hbb, hbd, sa, sb, sd, rfl, rfl, rfl, hAa, hAb, hAd, hS⟩ := hcut
  have hb0 := hAb.ended (by decide +kernel)
  have hd0 := hAd.ended (by decide +kernel)
  subst hb0 hd0
  have zb := hAb.done2 (by decide +kernel)
  have zd := hAd.done2 (by decide +kernel)
  rw [show (Um.rdbeg rc0 1 1 rm3).e = 5 by decide +kernel] at zb
  rw [show (Um.rdbeg rc0 3 0 rm3).e = 2 by decide +kernel] at zd
  have HZB := hide zb
  have HZD := hide zd
  have hAa2 := hAa.mono (e' := (([] ++ sa) ++ sb) ++ sd) (fun p hp => by simp [hp])
  have HA := hide hAa2
  clear zb zd hAa hAb hAd hAa2
  have hS2 := hS.perm12 (l' := [(CF, [.int .i64 1, .int .i64 2, .int .i64 1, .int .i64 0, .int .u64 0]), (B, memL rc0 C rm3), (C, rowW rm3.ws rc0.n), (Pa, csa), (Pb, csb), (Pd, csd)] ++ ([] ++ hba)) (.cons _ (.cons _ (.cons _ (.cons _ perm3r))))
  clear hS
  have hS := hS2
  clear hS2
  go_wp2_with fail
  refine (rdEnds_x (c := rc0) (h := 1) (sl := 0) (ky := 0) hS 1 2 3 (Um.rdbeg rc0 1 0 rm3) (unhide HA) rfl rfl rfl (by decide) (by decide) (by decide) rc0_r (by unfold Um.Word; decide) (Um.rok_beg (unhide HW3)) (fun _ => by decide +kernel) (by decide) (by decide) 50 (by decide) ra12 rfl).mono ?_
  rintro r u ⟨n, rfl, hn1, hn2, hn3, hOn, cs2, hb2, sb2, hA2, hSn⟩
  clear hS
  have hS := hSn
  clear hSn
  dsimp only [putL, List.set, List.cons_append, List.nil_append] at hS
  obtain rfl : n = 11 := ra_n hn1 hn2 hn3
  have HOA := hide hOn
  have HA2 := hide hA2
  clear hn1 hn2 hn3 hOn hA2 HA
  go_wp2_with fail
  refine (rDone_n (hS.get 4 rfl) (unhide HZB).1).mono ?_
  rintro r u ⟨rfl, rfl⟩
  go_wp2_with fail
  refine (rError_n (hS.get 4 rfl) (unhide HZB).1 (unhide HZB).2).mono ?_
  rintro r u ⟨rfl, rfl⟩
  go_wp2_with fail
  refine (rDone_n (hS.get 5 rfl) (unhide HZD).1).mono ?_
  rintro r u ⟨rfl, rfl⟩
  go_wp2_with fail
  refine (rError_n (hS.get 5 rfl) (unhide HZD).1 (unhide HZD).2).mono ?_
  rintro r u ⟨rfl, rfl⟩
  go_wp2_with fail
  refine (rdError_any (unhide HA2) (by decide +kernel) (hS.get 3 rfl)).mono ?_
  rintro r u ⟨rfl, rfl⟩
  rw [show ra12.e = 0 by decide +kernel]
  go_wp2_with fail
  refine (of12_any 4 0 _).mono ?_
  rintro r u ⟨rfl, hb⟩
  replace hS := hS.call hb
  clear hb
  go_wp2_with fail
  refine (mLoad_x hS 1 2 rfl rfl (by decide) rc0_r (unhide HOA).wd 4 0 (by decide) (by decide) rm4 rfl).mono ?_
  rintro r u ⟨rfl, hWn, hSn⟩
  clear hS
  have hS := hSn
  clear hSn
  dsimp only [putL, List.set, List.cons_append, List.nil_append] at hS
  have HW4 := hide hWn
  clear hWn
  rw [show ((rm4.l.old : Nat) : Int) = ((268435458 : Nat) : Int) by decide +kernel]
  go_wp2_with fail
  refine (nw12_2 _).mono ?_
  rintro r u ⟨rfl, hb⟩
  replace hS := hS.call hb
  clear hb
  go_wp2_with fail
  refine (wi12_a _).mono ?_
  rintro r u ⟨rfl, hb⟩
  replace hS := hS.call hb
  clear hb
  go_wp2_with fail
  refine (of12_any 4 1 _).mono ?_
  rintro r u ⟨rfl, hb⟩
  replace hS := hS.call hb
  clear hb
  go_wp2_with fail
  refine (mLoad_x hS 1 2 rfl rfl (by decide) rc0_r (unhide HW4) 4 1 (by decide) (by decide) rm5 rfl).mono ?_
  rintro r u ⟨rfl, hWn, hSn⟩
  clear hS
  have hS := hSn
  clear hSn
  dsimp only [putL, List.set, List.cons_append, List.nil_append] at hS
  have HW5 := hide hWn
  clear hWn
  rw [show ((rm5.l.old : Nat) : Int) = ((268439552 : Nat) : Int) by decide +kernel]
  go_wp2_with fail
  refine (nw12_2 _).mono ?_
  rintro r u ⟨rfl, hb⟩
  replace hS := hS.call hb
  clear hb
  go_wp2_with fail
  refine (wi12_b _).mono ?_
  rintro r u ⟨rfl, hb⟩
  replace hS := hS.call hb
  clear hb
  go_wp2_with fail
  refine (of12_any 8 0 _).mono ?_
  rintro r u ⟨rfl, hb⟩
  replace hS := hS.call hb
  clear hb
  go_wp2_with fail
  refine (mLoad_x hS 1 2 rfl rfl (by decide) rc0_r (unhide HW5) 8 0 (by decide) (by decide) rm6 rfl).mono ?_
  rintro r u ⟨rfl, hWn, hSn⟩
  clear hS
  have hS := hSn
  clear hSn
  dsimp only [putL, List.set, List.cons_append, List.nil_append] at hS
  clear hWn
  rw [show ((rm6.l.old : Nat) : Int) = 8193 by decide +kernel]
  have hB := hS.bel
  clear hS
  go_wp2
  go_ret
  exact ⟨rfl, hB⟩

end Go.Proofs.YtapgghciieloaaaGreat
