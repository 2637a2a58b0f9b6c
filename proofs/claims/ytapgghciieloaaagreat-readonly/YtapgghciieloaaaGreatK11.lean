/-
  Texts that the laws stand on, merged (ReadMath, ReadMath2, ReadMath3, ReadMath4, ReadMath5, ReadMath6, ReadMath7).
-/
import Derived.Test.YtapgghciieloaaaGreatK10
import Derived.Test.YtapgghciieloaaaGreatK9

/-
  Plain arithmetic of layer 12: a read, over a memory; its stages, alone. No Go in sight.
-/
namespace Um
set_option maxRecDepth 100000

/-- a read over a memory: its next step (0 enter, 1 snapshot, 2 look, 3 mark, 4 join, 5 own, 6 leave), its snapshot, the key's word, the others that are left, its machines with what they were made of (and whether they were made), what it will tell, what it tells, is it done -/
structure Rd where
  m : Mm
  nx : Nat
  n : Nat
  w : Nat
  ot : List Int
  g : Es
  j : Js
  jp : Int
  ja : Bool
  o : Ls
  op : Int
  oa : Bool
  l : Ls
  lp : Int
  la : Bool
  td : Int
  e : Int
  dn : Bool

/-- it begins to leave -/
def rdlv (o : Rd) (st td : Int) : Rd := { o with l := lnew o.m, lp := st, la := true, td := td, nx := 6 }

/-- to the next other one -/
def rdgo (o : Rd) : Rd := match o.ot with
  | [] => rdlv o (-1) 0
  | x :: _ => { o with j := jnew o.m, jp := x, ja := true, nx := 4 }

/-- the writers are found -/
def rdfd (slot : Int) (o : Rd) : Rd := rdgo { o with ot := othersN o.w 1 slot }

def rd0 (o : Rd) (g : Es) : Rd := if g.en = true then { o with m := g.m, g := g, nx := 1, e := g.e, dn := decide (g.e ≠ 0) } else { o with m := g.m, g := g }
def rd1 (o : Rd) (M : Mm) : Rd := { o with m := M, n := M.l.old, nx := 2 }
def rd2 (slot : Int) (o : Rd) (M : Mm) : Rd := if hasN M.l.old 0 slot = true then rdfd slot { o with m := M, w := M.l.old, nx := 3 } else { o with m := M, w := M.l.old, nx := 3 }
def rd3 (slot : Int) (o : Rd) (M : Mm) : Rd := if M.l.done = true then rdfd slot { o with m := M, nx := 2 } else { o with m := M, nx := 2 }
def rd4 (o : Rd) (j : Js) : Rd :=
  if j.r = 1 then rdgo { o with m := j.m, j := j, ot := o.ot.tail }
  else if j.r = 2 then { o with m := j.m, j := j, o := lnew j.m, op := o.jp, oa := true, nx := 5 }
  else if j.r = 3 then rdlv { o with m := j.m, j := j } 5 7
  else { o with m := j.m, j := j }
def rd5 (o : Rd) (w : Ls) : Rd := if w.dn = true then rdgo { o with m := w.m, o := w, ot := o.ot.tail } else { o with m := w.m, o := w }
def rd6 (o : Rd) (l : Ls) : Rd := if l.dn = true then { o with m := l.m, l := l, dn := true, e := o.td } else { o with m := l.m, l := l }

def rdstep (c : Cf) (h : Nat) (inn : Nat → Bool) (key slot : Int) (o : Rd) : Rd :=
  if o.dn = true then o
  else if o.nx = 0 then rd0 o (estep c h inn (setE o.m o.g))
  else if o.nx = 1 then rd1 o (mtouch c o.m 1 5 slot 0 0)
  else if o.nx = 2 then rd2 slot o (mtouch c o.m 1 8 key 0 0)
  else if o.nx = 3 then rd3 slot o (mtouch c o.m 3 8 key o.w (withN o.w 0 slot))
  else if o.nx = 4 then rd4 o (jstep c o.jp 1 slot o.n (setJ o.m o.j))
  else if o.nx = 5 then rd5 o (wstep c slot 0 o.op (setLs o.m o.o))
  else rd6 o (lstep c slot o.lp (setLs o.m o.l))

def rdit (c : Cf) (h : Nat) (inn : Nat → Bool) (key slot : Int) (o : Rd) : Nat → Rd
  | 0 => o
  | k + 1 => rdstep c h inn key slot (rdit c h inn key slot o k)

section
variable {c : Cf} {h : Nat} {inn : Nat → Bool} {key slot : Int}

theorem rdit_add (o : Rd) (a b : Nat) : rdit c h inn key slot o (a + b) = rdit c h inn key slot (rdit c h inn key slot o a) b := by
  induction b with
  | zero => rfl
  | succ b ih => show rdstep c h inn key slot (rdit c h inn key slot o (a + b)) = _; rw [ih]; rfl

theorem rdstep_done {o : Rd} (hd : o.dn = true) : rdstep c h inn key slot o = o := by
  unfold rdstep
  rw [if_pos hd]

theorem rdit_done {o : Rd} {q : Nat} (hd : (rdit c h inn key slot o q).dn = true) {k : Nat} (hk : q ≤ k) : rdit c h inn key slot o k = rdit c h inn key slot o q := by
  obtain ⟨d, rfl⟩ : ∃ d, k = q + d := ⟨k - q, by omega⟩
  clear hk
  induction d with
  | zero => rfl
  | succ d ih =>
    show rdstep c h inn key slot (rdit c h inn key slot o (q + d)) = _
    rw [ih]
    exact rdstep_done hd

/-- one comes to another one in so many steps at most -/
def Rch (c : Cf) (h : Nat) (inn : Nat → Bool) (key slot : Int) (o o' : Rd) (B : Nat) : Prop := ∃ k, k ≤ B ∧ rdit c h inn key slot o k = o'

theorem Rch.refl (o : Rd) : Rch c h inn key slot o o 0 := ⟨0, Nat.le_refl _, rfl⟩

theorem Rch.trans {o o' o2 : Rd} {a b : Nat} (h1 : Rch c h inn key slot o o' a) (h2 : Rch c h inn key slot o' o2 b) : Rch c h inn key slot o o2 (a + b) := by
  obtain ⟨k, hk, e1⟩ := h1
  obtain ⟨q, hq, e2⟩ := h2
  exact ⟨k + q, by omega, by rw [rdit_add, e1, e2]⟩

theorem Rch.mono {o o' : Rd} {a b : Nat} (h1 : Rch c h inn key slot o o' a) (hab : a ≤ b) : Rch c h inn key slot o o' b := by
  obtain ⟨k, hk, e1⟩ := h1
  exact ⟨k, by omega, e1⟩

theorem Rch.step {o o' : Rd} (e : rdstep c h inn key slot o = o') : Rch c h inn key slot o o' 1 := ⟨1, Nat.le_refl _, e⟩

/-! ## what a step is -/

theorem step6 {o : Rd} (hd : o.dn = false) (hn : o.nx = 6) : rdstep c h inn key slot o = rd6 o (lstep c slot o.lp (setLs o.m o.l)) := by
  unfold rdstep
  rw [if_neg (by rw [hd]; decide), if_neg (by omega), if_neg (by omega), if_neg (by omega), if_neg (by omega), if_neg (by omega), if_neg (by omega)]

theorem step5 {o : Rd} (hd : o.dn = false) (hn : o.nx = 5) : rdstep c h inn key slot o = rd5 o (wstep c slot 0 o.op (setLs o.m o.o)) := by
  unfold rdstep
  rw [if_neg (by rw [hd]; decide), if_neg (by omega), if_neg (by omega), if_neg (by omega), if_neg (by omega), if_neg (by omega), if_pos hn]

theorem step4 {o : Rd} (hd : o.dn = false) (hn : o.nx = 4) : rdstep c h inn key slot o = rd4 o (jstep c o.jp 1 slot o.n (setJ o.m o.j)) := by
  unfold rdstep
  rw [if_neg (by rw [hd]; decide), if_neg (by omega), if_neg (by omega), if_neg (by omega), if_neg (by omega), if_pos hn]

theorem step3 {o : Rd} (hd : o.dn = false) (hn : o.nx = 3) : rdstep c h inn key slot o = rd3 slot o (mtouch c o.m 3 8 key o.w (withN o.w 0 slot)) := by
  unfold rdstep
  rw [if_neg (by rw [hd]; decide), if_neg (by omega), if_neg (by omega), if_neg (by omega), if_pos hn]

theorem step2 {o : Rd} (hd : o.dn = false) (hn : o.nx = 2) : rdstep c h inn key slot o = rd2 slot o (mtouch c o.m 1 8 key 0 0) := by
  unfold rdstep
  rw [if_neg (by rw [hd]; decide), if_neg (by omega), if_neg (by omega), if_pos hn]

theorem step1 {o : Rd} (hd : o.dn = false) (hn : o.nx = 1) : rdstep c h inn key slot o = rd1 o (mtouch c o.m 1 5 slot 0 0) := by
  unfold rdstep
  rw [if_neg (by rw [hd]; decide), if_neg (by omega), if_pos hn]

theorem step0 {o : Rd} (hd : o.dn = false) (hn : o.nx = 0) : rdstep c h inn key slot o = rd0 o (estep c h inn (setE o.m o.g)) := by
  unfold rdstep
  rw [if_neg (by rw [hd]; decide), if_pos hn]

/-! ## alone, stage by stage -/

/-- words when a transaction has left -/
def lvw (c : Cf) (slot st : Int) (ws : Nat → Nat) (i : Nat) : Nat := if (i : Int) = c.cl 4 slot then moveN (ws i) (lst st (ws i)) false else ws i

theorem reach6 (hr : c.r = true) (h0 : 0 ≤ slot) (h1 : slot < c.s) {o : Rd} (hd : o.dn = false) (hn : o.nx = 6) (hl : setLs o.m o.l = lnew o.m) :
    ∃ o', Rch c h inn key slot o o' 2 ∧ o'.dn = true ∧ o'.e = o.td ∧ o'.m.ws = lvw c slot o.lp o.m.ws := by
  obtain ⟨a1, a2, a3, a4⟩ := alone_leaves hr h0 h1 (st := o.lp) o.m (k := 2) (by decide) _ rfl
  have e1 : rdstep c h inn key slot o = { o with m := (lit10 c slot o.lp (lnew o.m) 1).m, l := lit10 c slot o.lp (lnew o.m) 1 } := by
    rw [step6 hd hn, hl]
    show rd6 o (lit10 c slot o.lp (lnew o.m) 1) = _
    unfold rd6
    rw [if_neg (by rw [a4]; decide)]
  have e2 : rdstep c h inn key slot (rdstep c h inn key slot o) = { o with m := (lit10 c slot o.lp (lnew o.m) 2).m, l := lit10 c slot o.lp (lnew o.m) 2, dn := true, e := o.td } := by
    rw [e1, step6 (by exact hd) (by exact hn)]
    show rd6 _ (lit10 c slot o.lp (lnew o.m) 2) = _
    unfold rd6
    rw [if_pos a1]
  refine ⟨_, ⟨2, Nat.le_refl _, e2⟩, rfl, rfl, funext fun i => ?_⟩
  exact a2 i

theorem own_alone (hr : c.r = true) (h0 : 0 ≤ slot) (h1 : slot < c.s) (sw x : Int) (m : Mm) :
    ∃ k, k ≤ 2 ∧ 1 ≤ k ∧ (wit c slot sw x (lnew m) k).dn = true ∧ (∀ q, q < k → (wit c slot sw x (lnew m) q).dn = false) ∧ ∀ i : Nat, (wit c slot sw x (lnew m) k).m.ws i = if (i : Int) = c.cl 4 slot then withN (m.ws i) sw x else m.ws i := by
  have hc := (sl_cells hr h0 h1).1
  have hcn := cl_nat hr h0 h1
  by_cases hh : withN (m.ws (c.cl 4 slot).toNat) sw x = m.ws (c.cl 4 slot).toNat
  · obtain ⟨a1, a2, a3, a4⟩ := own_there hr h0 h1 m hh (k := 1) (by decide) _ rfl
    refine ⟨1, by decide, by decide, a1, fun q hq => ?_, fun i => ?_⟩
    · obtain rfl : q = 0 := by omega
      rfl
    · rw [a2]
      split
      · rename_i e
        rw [show i = (c.cl 4 slot).toNat by omega, hh]
      · rfl
  · have e1 : wit c slot sw x (lnew m) 1 = _ := wstep_look (sd := sw) (b := x) hr h0 h1 (o := lnew m) rfl rfl
    have hd1 : (wit c slot sw x (lnew m) 1).dn = false := by rw [e1]; exact decide_eq_false hh
    have hm1 : (wit c slot sw x (lnew m) 1).m.ws = m.ws := by rw [e1]; exact load_ws c m 4 slot
    have hs1 : (wit c slot sw x (lnew m) 1).s = m.ws (c.cl 4 slot).toNat := by rw [e1]; rfl
    have e2 : wit c slot sw x (lnew m) 2 = _ := wstep_lay (sd := sw) (b := x) hr h0 h1 (o := wit c slot sw x (lnew m) 1) hd1 (by rw [e1])
    refine ⟨2, by decide, by decide, by rw [e2]; exact decide_eq_true (by rw [hm1, hs1]), fun q hq => ?_, fun i => ?_⟩
    · match q, hq with
      | 0, _ => rfl
      | 1, _ => exact hd1
    · rw [e2]
      show (mtouch c _ 3 4 slot _ _).ws i = _
      rw [swap_ws, hm1, hs1]
      by_cases e : (i : Int) = c.cl 4 slot
      · have ei : i = (c.cl 4 slot).toNat := by omega
        rw [if_pos ⟨e, by rw [ei]⟩, if_pos e, ei]
      · rw [if_neg (fun q => e q.1), if_neg e]

/-- words when an own end was laid -/
def ownw (c : Cf) (sw slot x : Int) (ws : Nat → Nat) (i : Nat) : Nat := if (i : Int) = c.cl 4 slot then withN (ws i) sw x else ws i

theorem reach5 (hr : c.r = true) (h0 : 0 ≤ slot) (h1 : slot < c.s) {o : Rd} (hd : o.dn = false) (hn : o.nx = 5) (hl : setLs o.m o.o = lnew o.m) :
    ∃ E : Ls, Rch c h inn key slot o (rdgo { o with m := E.m, o := E, ot := o.ot.tail }) 2 ∧ E.m.ws = ownw c 0 slot o.op o.m.ws := by
  obtain ⟨k, hk2, hk1, a1, a2, a3⟩ := own_alone hr h0 h1 0 o.op o.m
  refine ⟨wit c slot 0 o.op (lnew o.m) k, ?_, funext fun i => a3 i⟩
  have main : ∀ q, q < k → rdit c h inn key slot o q = { o with m := (wit c slot 0 o.op (lnew o.m) q).m, o := if q = 0 then o.o else wit c slot 0 o.op (lnew o.m) q } := by
    intro q
    induction q with
    | zero => intro _; rfl
    | succ q ih =>
      intro hq
      show rdstep c h inn key slot (rdit c h inn key slot o q) = _
      rw [ih (by omega), step5 (by exact hd) (by exact hn)]
      have hs : wstep c slot 0 o.op (setLs (wit c slot 0 o.op (lnew o.m) q).m (if q = 0 then o.o else wit c slot 0 o.op (lnew o.m) q)) = wit c slot 0 o.op (lnew o.m) (q + 1) := by
        by_cases e : q = 0
        · subst e
          show wstep c slot 0 o.op (setLs o.m o.o) = _
          rw [hl]
          rfl
        · rw [if_neg e]
          rfl
      show rd5 _ (wstep c slot 0 o.op (setLs (wit c slot 0 o.op (lnew o.m) q).m (if q = 0 then o.o else wit c slot 0 o.op (lnew o.m) q))) = _
      rw [hs]
      unfold rd5
      rw [if_neg (by rw [a2 (q + 1) hq]; decide), if_neg (show ¬ q + 1 = 0 by omega)]
  obtain ⟨q, rfl⟩ : ∃ q, k = q + 1 := ⟨k - 1, by omega⟩
  refine ⟨q + 1, hk2, ?_⟩
  show rdstep c h inn key slot (rdit c h inn key slot o q) = _
  rw [main q (by omega), step5 (by exact hd) (by exact hn)]
  have hs : wstep c slot 0 o.op (setLs (wit c slot 0 o.op (lnew o.m) q).m (if q = 0 then o.o else wit c slot 0 o.op (lnew o.m) q)) = wit c slot 0 o.op (lnew o.m) (q + 1) := by
    by_cases e : q = 0
    · subst e
      show wstep c slot 0 o.op (setLs o.m o.o) = _
      rw [hl]
      rfl
    · rw [if_neg e]
      rfl
  show rd5 _ (wstep c slot 0 o.op (setLs (wit c slot 0 o.op (lnew o.m) q).m (if q = 0 then o.o else wit c slot 0 o.op (lnew o.m) q))) = _
  rw [hs]
  unfold rd5
  rw [if_pos a1]

end

end Um

/-
  Plain arithmetic of layer 12: a read that is alone, to its end. No Go in sight.
-/
namespace Um
set_option maxRecDepth 100000

/-- (so: the side of the other one's end, sw: of one's own: 1, 0 for a read, 0, 1 for a write) what a join comes to, alone: the other one may be a slot that there is not -/
def cfl (c : Cf) (so slot : Int) (n : Nat) (ws : Nat → Nat) (x : Int) : Nat := if x < c.s then jtg so slot n (ws (c.cl 4 x).toNat) (ws (c.cl 6 x).toNat) else 1

/-- words when the other one has its end -/
def othw (c : Cf) (so slot x : Int) (ws : Nat → Nat) (i : Nat) : Nat := if (i : Int) = c.cl 4 x then withN (ws i) so slot else ws i

/-- conflicts with others, one behind the other, and whether it may go on -/
def conf (c : Cf) (so sw slot : Int) (n : Nat) : (Nat → Nat) → List Int → (Nat → Nat) × Bool
  | ws, [] => (ws, true)
  | ws, x :: r => if cfl c so slot n ws x = 3 then (ws, false) else if cfl c so slot n ws x = 2 then conf c so sw slot n (ownw c sw slot x (othw c so slot x ws)) r else conf c so sw slot n ws r

theorem cl_none {c : Cf} (hr : c.r = true) {a x : Int} (ha : a = 4 ∨ a = 5 ∨ a = 6 ∨ a = 7) (h1 : ¬ x < c.s) : c.cl a x < 0 := by
  have hb := c.rb hr
  unfold Cf.cl cellN
  rw [hr]
  rcases ha with rfl | rfl | rfl | rfl <;> simp [h1]

section
variable {c : Cf} {h : Nat} {inn : Nat → Bool} {key slot : Int}

theorem join_end (hr : c.r = true) (so slot : Int) (n : Nat) {x : Int} (x0 : 0 ≤ x) (m : Mm) :
    ∃ k, k ≤ 3 ∧ 1 ≤ k ∧ (∀ q, q < k → (jit c x so slot n (jnew m) q).r = 0) ∧ (jit c x so slot n (jnew m) k).r = cfl c so slot n m.ws x ∧ (jit c x so slot n (jnew m) k).m.ws = (if cfl c so slot n m.ws x = 2 then othw c so slot x m.ws else m.ws) := by
  by_cases x1 : x < c.s
  · obtain ⟨a1, a2, a3, _⟩ := join_alone (sd := so) (b := slot) (sn := n) hr x0 x1 m (k := 3) (by decide) _ rfl
    have hcf : cfl c so slot n m.ws x = jtg so slot n (m.ws (c.cl 4 x).toNat) (m.ws (c.cl 6 x).toNat) := if_pos x1
    have fin : ∀ k, (jit c x so slot n (jnew m) k).r ≠ 0 → k ≤ 3 → (jit c x so slot n (jnew m) k).r = cfl c so slot n m.ws x ∧ (jit c x so slot n (jnew m) k).m.ws = (if cfl c so slot n m.ws x = 2 then othw c so slot x m.ws else m.ws) := by
      intro k hk hk3
      rw [← jit_end hk hk3, hcf, ← a1]
      refine ⟨rfl, funext fun i => ?_⟩
      rw [a2 i]
      by_cases e2 : (jit c x so slot n (jnew m) 3).r = 2
      · rw [if_pos e2]
        unfold othw
        by_cases ei : (i : Int) = c.cl 4 x
        · rw [if_pos ⟨e2, ei⟩, if_pos ei]
        · rw [if_neg (fun q => ei q.2), if_neg ei]
      · rw [if_neg e2, if_neg (fun q => e2 q.1)]
    by_cases h1 : (jit c x so slot n (jnew m) 1).r = 0
    · by_cases h2 : (jit c x so slot n (jnew m) 2).r = 0
      · refine ⟨3, by decide, by decide, fun q hq => ?_, (fin 3 a3 (by decide)).1, (fin 3 a3 (by decide)).2⟩
        match q, hq with
        | 0, _ => rfl
        | 1, _ => exact h1
        | 2, _ => exact h2
      · refine ⟨2, by decide, by decide, fun q hq => ?_, (fin 2 h2 (by decide)).1, (fin 2 h2 (by decide)).2⟩
        match q, hq with
        | 0, _ => rfl
        | 1, _ => exact h1
    · refine ⟨1, by decide, by decide, fun q hq => ?_, (fin 1 h1 (by decide)).1, (fin 1 h1 (by decide)).2⟩
      obtain rfl : q = 0 := by omega
      rfl
  · have hcl := cl_none hr (a := 4) (.inl rfl) x1
    have hold : (mtouch c m 1 4 x 0 0).l.old = 0 := by rw [load_old, if_neg (by omega)]
    have hcf : cfl c so slot n m.ws x = 1 := if_neg x1
    have e1 : jit c x so slot n (jnew m) 1 = ⟨mtouch c m 1 4 x 0 0, 0, 0, 1⟩ := by
      have hold2 : (mtouch c (jnew m).m 1 4 x 0 0).l.old = 0 := hold
      show jstep c x so slot n (jnew m) = _
      unfold jstep
      rw [if_neg (fun q => q rfl), if_pos (show (jnew m).nx = 0 from rfl), hold2, if_neg (by decide), if_neg (by decide)]
      rfl
    refine ⟨1, by decide, by decide, fun q hq => ?_, ?_, ?_⟩
    · obtain rfl : q = 0 := by omega
      rfl
    · rw [e1, hcf]
    · rw [e1, hcf, if_neg (by decide)]
      exact load_ws c m 4 x

theorem reach4 (hr : c.r = true) {o : Rd} (hd : o.dn = false) (hn : o.nx = 4) (hj : setJ o.m o.j = jnew o.m) (x0 : 0 ≤ o.jp) :
    ∃ A : Js, Rch c h inn key slot o (rd4 o A) 3 ∧ A.r = cfl c 1 slot o.n o.m.ws o.jp ∧ A.m.ws = (if cfl c 1 slot o.n o.m.ws o.jp = 2 then othw c 1 slot o.jp o.m.ws else o.m.ws) := by
  obtain ⟨k, hk3, hk1, a1, a2, a3⟩ := join_end hr 1 slot o.n x0 o.m
  refine ⟨jit c o.jp 1 slot o.n (jnew o.m) k, ?_, a2, a3⟩
  have stp : ∀ q, jstep c o.jp 1 slot o.n (setJ (jit c o.jp 1 slot o.n (jnew o.m) q).m (if q = 0 then o.j else jit c o.jp 1 slot o.n (jnew o.m) q)) = jit c o.jp 1 slot o.n (jnew o.m) (q + 1) := by
    intro q
    by_cases e : q = 0
    · subst e
      show jstep c o.jp 1 slot o.n (setJ o.m o.j) = _
      rw [hj]
      rfl
    · rw [if_neg e]
      rfl
  have main : ∀ q, q < k → rdit c h inn key slot o q = { o with m := (jit c o.jp 1 slot o.n (jnew o.m) q).m, j := if q = 0 then o.j else jit c o.jp 1 slot o.n (jnew o.m) q } := by
    intro q
    induction q with
    | zero => intro _; rfl
    | succ q ih =>
      intro hq
      show rdstep c h inn key slot (rdit c h inn key slot o q) = _
      rw [ih (by omega), step4 (by exact hd) (by exact hn)]
      show rd4 _ (jstep c o.jp 1 slot o.n (setJ (jit c o.jp 1 slot o.n (jnew o.m) q).m (if q = 0 then o.j else jit c o.jp 1 slot o.n (jnew o.m) q))) = _
      rw [stp]
      have hz := a1 (q + 1) hq
      unfold rd4
      rw [if_neg (by rw [hz]; decide), if_neg (by rw [hz]; decide), if_neg (by rw [hz]; decide), if_neg (show ¬ q + 1 = 0 by omega)]
  obtain ⟨q, rfl⟩ : ∃ q, k = q + 1 := ⟨k - 1, by omega⟩
  refine ⟨q + 1, hk3, ?_⟩
  show rdstep c h inn key slot (rdit c h inn key slot o q) = _
  rw [main q (by omega), step4 (by exact hd) (by exact hn)]
  show rd4 _ (jstep c o.jp 1 slot o.n (setJ (jit c o.jp 1 slot o.n (jnew o.m) q).m (if q = 0 then o.j else jit c o.jp 1 slot o.n (jnew o.m) q))) = _
  rw [stp]
  rfl

theorem cfl_range (c : Cf) (so slot : Int) (n : Nat) (ws : Nat → Nat) (x : Int) : cfl c so slot n ws x = 1 ∨ cfl c so slot n ws x = 2 ∨ cfl c so slot n ws x = 3 := by
  unfold cfl
  split
  · unfold jtg
    (repeat' split) <;> simp
  · exact .inl rfl

theorem go_alone (hr : c.r = true) (h0 : 0 ≤ slot) (h1 : slot < c.s) : ∀ (L : List Int) (o : Rd), o.ot = L → o.dn = false → (∀ x ∈ L, 0 ≤ x) →
    ∃ o', Rch c h inn key slot (rdgo o) o' (5 * L.length + 2) ∧ o'.dn = true ∧ o'.e = (if (conf c 1 0 slot o.n o.m.ws L).2 = true then 0 else 7) ∧ o'.m.ws = lvw c slot (if (conf c 1 0 slot o.n o.m.ws L).2 = true then -1 else 5) (conf c 1 0 slot o.n o.m.ws L).1 := by
  intro L
  induction L with
  | nil =>
    intro o ho hd _
    have e : rdgo o = rdlv o (-1) 0 := by unfold rdgo; rw [ho]
    rw [e]
    obtain ⟨o', r1, r2, r3, r4⟩ := reach6 (h := h) (inn := inn) (key := key) hr h0 h1 (o := rdlv o (-1) 0) hd rfl rfl
    exact ⟨o', r1, r2, r3, r4⟩
  | cons x r ih =>
    intro o ho hd hx
    have e : rdgo o = { o with j := jnew o.m, jp := x, ja := true, nx := 4 } := by unfold rdgo; rw [ho]
    rw [e]
    obtain ⟨A, r1, r2, r3⟩ := reach4 (h := h) (inn := inn) (key := key) (slot := slot) hr (o := { o with j := jnew o.m, jp := x, ja := true, nx := 4 }) hd rfl rfl (hx x List.mem_cons_self)
    have hcf : conf c 1 0 slot o.n o.m.ws (x :: r) = if cfl c 1 slot o.n o.m.ws x = 3 then (o.m.ws, false) else if cfl c 1 slot o.n o.m.ws x = 2 then conf c 1 0 slot o.n (ownw c 0 slot x (othw c 1 slot x o.m.ws)) r else conf c 1 0 slot o.n o.m.ws r := rfl
    have r2' : A.r = cfl c 1 slot o.n o.m.ws x := r2
    have r3' : A.m.ws = (if cfl c 1 slot o.n o.m.ws x = 2 then othw c 1 slot x o.m.ws else o.m.ws) := r3
    have hlen : (x :: r).length = r.length + 1 := rfl
    rcases cfl_range c 1 slot o.n o.m.ws x with q | q | q
    · have hq : conf c 1 0 slot o.n o.m.ws (x :: r) = conf c 1 0 slot o.n o.m.ws r := by rw [hcf, if_neg (by rw [q]; decide), if_neg (by rw [q]; decide)]
      rw [hq]
      rw [q] at r2' r3'
      rw [if_neg (by decide)] at r3'
      unfold rd4 at r1
      rw [if_pos r2'] at r1
      obtain ⟨o', s1, s2, s3, s4⟩ := ih { o with j := A, jp := x, ja := true, nx := 4, m := A.m, ot := o.ot.tail } (by rw [ho]; rfl) hd (fun y hy => hx y (List.mem_cons_of_mem _ hy))
      have s3' : o'.e = (if (conf c 1 0 slot o.n A.m.ws r).2 = true then 0 else 7) := s3
      have s4' : o'.m.ws = lvw c slot (if (conf c 1 0 slot o.n A.m.ws r).2 = true then -1 else 5) (conf c 1 0 slot o.n A.m.ws r).1 := s4
      rw [r3'] at s3' s4'
      exact ⟨o', (r1.trans s1).mono (by omega), s2, s3', s4'⟩
    · have hq : conf c 1 0 slot o.n o.m.ws (x :: r) = conf c 1 0 slot o.n (ownw c 0 slot x (othw c 1 slot x o.m.ws)) r := by rw [hcf, if_neg (by rw [q]; decide), if_pos q]
      rw [hq]
      rw [q] at r2' r3'
      rw [if_pos rfl] at r3'
      unfold rd4 at r1
      rw [if_neg (by rw [r2']; decide), if_pos r2'] at r1
      obtain ⟨E, t1, t2⟩ := reach5 (h := h) (inn := inn) (key := key) hr h0 h1 (o := { o with j := A, jp := x, ja := true, m := A.m, o := lnew A.m, op := x, oa := true, nx := 5 }) hd rfl rfl
      have t2' : E.m.ws = ownw c 0 slot x A.m.ws := t2
      obtain ⟨o', s1, s2, s3, s4⟩ := ih { o with j := A, jp := x, ja := true, m := E.m, o := E, op := x, oa := true, nx := 5, ot := o.ot.tail } (by rw [ho]; rfl) hd (fun y hy => hx y (List.mem_cons_of_mem _ hy))
      have s3' : o'.e = (if (conf c 1 0 slot o.n E.m.ws r).2 = true then 0 else 7) := s3
      have s4' : o'.m.ws = lvw c slot (if (conf c 1 0 slot o.n E.m.ws r).2 = true then -1 else 5) (conf c 1 0 slot o.n E.m.ws r).1 := s4
      rw [t2', r3'] at s3' s4'
      exact ⟨o', ((r1.trans t1).trans s1).mono (by omega), s2, s3', s4'⟩
    · have hq : conf c 1 0 slot o.n o.m.ws (x :: r) = (o.m.ws, false) := by rw [hcf, if_pos q]
      rw [hq]
      rw [q] at r2' r3'
      rw [if_neg (by decide)] at r3'
      unfold rd4 at r1
      rw [if_neg (by rw [r2']; decide), if_neg (by rw [r2']; decide), if_pos r2'] at r1
      obtain ⟨o', s1, s2, s3, s4⟩ := reach6 (h := h) (inn := inn) (key := key) hr h0 h1 (o := rdlv { o with j := A, jp := x, ja := true, nx := 4, m := A.m } 5 7) hd rfl rfl
      have s4' : o'.m.ws = lvw c slot 5 A.m.ws := s4
      rw [r3'] at s4'
      exact ⟨o', (r1.trans s1).mono (by omega), s2, s3, s4'⟩

/-! ## from its beginning -/

/-- a new read -/
def rdnew (m : Mm) : Rd := ⟨m, 0, 0, 0, [], enew m, jnew m, 0, false, lnew m, 0, false, lnew m, 0, false, 0, 0, false⟩

/-- words with a transaction busy; with a key marked -/
def bsw (c : Cf) (slot : Int) (ws : Nat → Nat) (i : Nat) : Nat := if (i : Int) = c.cl 4 slot then bzN (ws i) else ws i
def mkw (c : Cf) (sd key slot : Int) (ws : Nat → Nat) (i : Nat) : Nat := if (i : Int) = c.cl 8 key then withN (ws i) sd slot else ws i

theorem key_cells {c : Cf} (hr : c.r = true) {key slot : Int} (h0 : 0 ≤ slot) (h1 : slot < c.s) (k0 : 0 ≤ key) (k1 : key < c.k) : 0 < c.cl 8 key ∧ c.cl 8 key ≠ c.cl 4 slot ∧ c.cl 8 key ≠ c.cl 5 slot ∧ c.cl 8 key ≠ c.cl 6 slot := by
  have hb := c.rb hr
  unfold Cf.cl cellN
  rw [hr]
  simp [h0, h1, k0, k1]
  omega

theorem slotsTo_mem {x : Nat} {a : Int} {k : Nat} {y : Int} (hy : y ∈ slotsTo x a k) : 0 ≤ y ∧ y < k := by
  unfold slotsTo at hy
  obtain ⟨j, hj, rfl⟩ := List.mem_map.1 hy
  have := (List.mem_filter.1 hj).1
  have := List.mem_range.1 this
  omega

theorem others_mem {x : Nat} {a s y : Int} (hy : y ∈ othersN x a s) : 0 ≤ y ∧ y ≤ 11 ∧ y ≠ s := by
  unfold othersN at hy
  obtain ⟨h1, h2⟩ := List.mem_filter.1 hy
  have := slotsTo_mem h1
  exact ⟨this.1, by omega, by simpa using h2⟩

theorem others_len (x : Nat) (a s : Int) : (othersN x a s).length ≤ 12 := by
  unfold othersN slotsN slotsTo
  refine Nat.le_trans (List.length_filter_le _ _) ?_
  rw [List.length_map]
  refine Nat.le_trans (List.length_filter_le _ _) ?_
  rw [List.length_range]
  exact Nat.le_refl _

theorem read_barred (hr : c.r = true) (hn : ook h c.s = true) (m : Mm) (hf : flN h inn (m.ws (c.cl 4 (svN h)).toNat) ≠ 0) :
    ∃ o', Rch c h inn key slot (rdnew m) o' 1 ∧ o'.dn = true ∧ o'.e = flN h inn (m.ws (c.cl 4 (svN h)).toNat) ∧ o'.m.ws = m.ws := by
  obtain ⟨a1, a2, _, a4⟩ := alone_amiss hr m hn hf (k := 1) (by decide) _ rfl
  have e1 : rdstep c h inn key slot (rdnew m) = { rdnew m with m := (eit c h inn (enew m) 1).m, g := eit c h inn (enew m) 1, nx := 1, e := (eit c h inn (enew m) 1).e, dn := decide ((eit c h inn (enew m) 1).e ≠ 0) } := by
    rw [step0 rfl rfl]
    show rd0 (rdnew m) (eit c h inn (enew m) 1) = _
    unfold rd0
    rw [if_pos a1]
  exact ⟨_, Rch.step e1, decide_eq_true (by rw [a2]; exact hf), a2, a4⟩

/-- it is entered: two steps -/
theorem read_enter (hr : c.r = true) (hn : ook h c.s = true) (hs : svN h = slot) (m : Mm) (hf : flN h inn (m.ws (c.cl 4 slot).toNat) = 0) :
    ∃ G : Es, Rch c h inn key slot (rdnew m) { rdnew m with m := G.m, g := G, nx := 1, e := 0, dn := false } 2 ∧ G.m.ws = bsw c slot m.ws := by
  subst hs
  obtain ⟨a1, a2, _, a4, a5⟩ := alone_enters hr m hn hf (k := 2) (by decide) _ rfl
  have b1 : (eit c h inn (enew m) 1).en = false := by
    unfold edn at a5
    rw [hn] at a5
    cases hq : (eit c h inn (enew m) 1).en
    · rfl
    · rw [hq] at a5; cases a5
  refine ⟨eit c h inn (enew m) 2, ⟨2, Nat.le_refl _, ?_⟩, funext fun i => a4 i⟩
  have e1 : rdstep c h inn key (svN h) (rdnew m) = { rdnew m with m := (eit c h inn (enew m) 1).m, g := eit c h inn (enew m) 1 } := by
    rw [step0 rfl rfl]
    show rd0 (rdnew m) (eit c h inn (enew m) 1) = _
    unfold rd0
    rw [if_neg (by rw [b1]; decide)]
  show rdstep c h inn key (svN h) (rdstep c h inn key (svN h) (rdnew m)) = _
  rw [e1, step0 rfl rfl]
  show rd0 _ (eit c h inn (enew m) 2) = _
  unfold rd0
  rw [if_pos a1, a2]
  rfl

theorem read_alone (hr : c.r = true) (hn : ook h c.s = true) (hs : svN h = slot) (k0 : 0 ≤ key) (k1 : key < c.k) (m : Mm) (hf : flN h inn (m.ws (c.cl 4 slot).toNat) = 0)
    (R : (Nat → Nat) × Bool) (hR : R = conf c 1 0 slot (m.ws (c.cl 5 slot).toNat) (mkw c 0 key slot (bsw c slot m.ws)) (othersN (m.ws (c.cl 8 key).toNat) 1 slot)) :
    ∃ o', Rch c h inn key slot (rdnew m) o' 70 ∧ o'.dn = true ∧ o'.e = (if R.2 = true then 0 else 7) ∧ o'.m.ws = lvw c slot (if R.2 = true then -1 else 5) R.1 := by
  obtain ⟨G, g1, g2⟩ := read_enter (key := key) hr hn hs m hf
  have hsl : 0 ≤ slot ∧ slot < c.s := by
    obtain ⟨f0, f1, _⟩ := ook_facts hn
    rw [hs] at f0 f1
    exact ⟨f0, f1⟩
  obtain ⟨h0, h1⟩ := hsl
  obtain ⟨c4, c5, _⟩ := sl_cells hr h0 h1
  obtain ⟨d1, d2, d3, _⟩ := key_cells hr h0 h1 k0 k1
  have hG5 : G.m.ws (c.cl 5 slot).toNat = m.ws (c.cl 5 slot).toNat := by rw [g2]; exact if_neg (by omega)
  have hG8 : G.m.ws (c.cl 8 key).toNat = m.ws (c.cl 8 key).toNat := by rw [g2]; exact if_neg (by omega)
  obtain ⟨M1, hM1⟩ : ∃ M1, M1 = mtouch c G.m 1 5 slot 0 0 := ⟨_, rfl⟩
  have o1 : M1.l.old = m.ws (c.cl 5 slot).toNat := by rw [hM1, load_old, if_pos (by omega), hG5]
  have w1 : M1.ws = G.m.ws := by rw [hM1, load_ws]
  obtain ⟨M2, hM2⟩ : ∃ M2, M2 = mtouch c M1 1 8 key 0 0 := ⟨_, rfl⟩
  have o2 : M2.l.old = m.ws (c.cl 8 key).toNat := by rw [hM2, load_old, if_pos (by omega), w1, hG8]
  have w2 : M2.ws = G.m.ws := by rw [hM2, load_ws, w1]
  have e1 : rdstep c h inn key slot { rdnew m with m := G.m, g := G, nx := 1, e := 0, dn := false } = { rdnew m with m := M1, g := G, nx := 2, e := 0, dn := false, n := M1.l.old } := by
    rw [step1 rfl rfl]
    show rd1 _ (mtouch c G.m 1 5 slot 0 0) = _
    rw [← hM1]
    rfl
  have e2 : rdstep c h inn key slot { rdnew m with m := M1, g := G, nx := 2, e := 0, dn := false, n := M1.l.old } = rd2 slot { rdnew m with m := M1, g := G, nx := 2, e := 0, dn := false, n := M1.l.old } M2 := by
    rw [step2 rfl rfl, hM2]
  have p1 := (g1.trans (Rch.step e1)).trans (Rch.step e2)
  have hlen := others_len (m.ws (c.cl 8 key).toNat) 1 slot
  have hmem : ∀ y ∈ othersN (m.ws (c.cl 8 key).toNat) 1 slot, 0 ≤ y := fun y hy => (others_mem hy).1
  by_cases hh : hasN (m.ws (c.cl 8 key).toNat) 0 slot = true
  · have hmk : mkw c 0 key slot (bsw c slot m.ws) = M2.ws := by
      rw [w2, ← g2]
      funext i
      unfold mkw
      split
      · rename_i e
        rw [show i = (c.cl 8 key).toNat by omega, hG8, with_self hh]
      · rfl
    unfold rd2 at p1
    rw [if_pos (by rw [o2]; exact hh)] at p1
    obtain ⟨o', s1, s2, s3, s4⟩ := go_alone (h := h) (inn := inn) (key := key) hr h0 h1 (othersN (m.ws (c.cl 8 key).toNat) 1 slot) { rdnew m with m := M2, g := G, nx := 3, e := 0, dn := false, n := M1.l.old, w := M2.l.old, ot := othersN M2.l.old 1 slot } (by show othersN M2.l.old 1 slot = _; rw [o2]) rfl hmem
    have hc : conf c 1 0 slot M1.l.old M2.ws (othersN (m.ws (c.cl 8 key).toNat) 1 slot) = R := by rw [hR, o1, hmk]
    have s3' : o'.e = (if (conf c 1 0 slot M1.l.old M2.ws (othersN (m.ws (c.cl 8 key).toNat) 1 slot)).2 = true then 0 else 7) := s3
    have s4' : o'.m.ws = lvw c slot (if (conf c 1 0 slot M1.l.old M2.ws (othersN (m.ws (c.cl 8 key).toNat) 1 slot)).2 = true then -1 else 5) (conf c 1 0 slot M1.l.old M2.ws (othersN (m.ws (c.cl 8 key).toNat) 1 slot)).1 := s4
    rw [hc] at s3' s4'
    exact ⟨o', (p1.trans s1).mono (by omega), s2, s3', s4'⟩
  · obtain ⟨M3, hM3⟩ : ∃ M3, M3 = mtouch c M2 3 8 key M2.l.old (withN M2.l.old 0 slot) := ⟨_, rfl⟩
    have hat : M2.ws (c.cl 8 key).toNat = M2.l.old := by rw [w2, hG8, o2]
    have hdn : M3.l.done = true := by rw [hM3, swap_done]; exact decide_eq_true ⟨by omega, hat⟩
    have hmk : mkw c 0 key slot (bsw c slot m.ws) = M3.ws := by
      rw [← g2, ← w2]
      funext i
      rw [hM3, swap_ws]
      unfold mkw
      by_cases e : (i : Int) = c.cl 8 key
      · have ei : i = (c.cl 8 key).toNat := by omega
        rw [if_pos e, if_pos ⟨e, by rw [ei]; exact hat⟩, ei, hat]
      · rw [if_neg e, if_neg (fun q => e q.1)]
    unfold rd2 at p1
    rw [if_neg (by rw [o2]; exact hh)] at p1
    have e3 : rdstep c h inn key slot { rdnew m with m := M2, g := G, nx := 3, e := 0, dn := false, n := M1.l.old, w := M2.l.old } = rd3 slot { rdnew m with m := M2, g := G, nx := 3, e := 0, dn := false, n := M1.l.old, w := M2.l.old } M3 := by
      rw [step3 rfl rfl, hM3]
    have p2 := p1.trans (Rch.step e3)
    unfold rd3 at p2
    rw [if_pos hdn] at p2
    obtain ⟨o', s1, s2, s3, s4⟩ := go_alone (h := h) (inn := inn) (key := key) hr h0 h1 (othersN (m.ws (c.cl 8 key).toNat) 1 slot) { rdnew m with m := M3, g := G, nx := 2, e := 0, dn := false, n := M1.l.old, w := M2.l.old, ot := othersN M2.l.old 1 slot } (by show othersN M2.l.old 1 slot = _; rw [o2]) rfl hmem
    have hc : conf c 1 0 slot M1.l.old M3.ws (othersN (m.ws (c.cl 8 key).toNat) 1 slot) = R := by rw [hR, o1, hmk]
    have s3' : o'.e = (if (conf c 1 0 slot M1.l.old M3.ws (othersN (m.ws (c.cl 8 key).toNat) 1 slot)).2 = true then 0 else 7) := s3
    have s4' : o'.m.ws = lvw c slot (if (conf c 1 0 slot M1.l.old M3.ws (othersN (m.ws (c.cl 8 key).toNat) 1 slot)).2 = true then -1 else 5) (conf c 1 0 slot M1.l.old M3.ws (othersN (m.ws (c.cl 8 key).toNat) 1 slot)).1 := s4
    rw [hc] at s3' s4'
    exact ⟨o', (p2.trans s1).mono (by omega), s2, s3', s4'⟩

end

end Um

/-
  Plain arithmetic of layer 12: what conflicts with many change, in whatever order. No Go in sight.
-/
namespace Um
set_option maxRecDepth 100000

/-- words when a conflict was laid, both ends -/
def layw (c : Cf) (so sw slot x : Int) (ws : Nat → Nat) : Nat → Nat := ownw c sw slot x (othw c so slot x ws)

/-- conflicts with those of a row that have to be laid -/
def layL (c : Cf) (so sw slot : Int) (P : Int → Bool) : (Nat → Nat) → List Int → Nat → Nat
  | ws, [] => ws
  | ws, x :: r => layL c so sw slot P (if P x = true then layw c so sw slot x ws else ws) r

section
variable {c : Cf} {so sw slot : Int} {n : Nat}

/-- other cells than the two statuses stay -/
theorem layw_other {x : Int} {ws : Nat → Nat} {i : Nat} (h1 : (i : Int) ≠ c.cl 4 slot) (h2 : (i : Int) ≠ c.cl 4 x) : layw c so sw slot x ws i = ws i := by
  unfold layw ownw
  rw [if_neg h1]
  unfold othw
  rw [if_neg h2]

theorem layw_own {x : Int} {ws : Nat → Nat} {i : Nat} (h1 : (i : Int) = c.cl 4 slot) (h2 : (i : Int) ≠ c.cl 4 x) : layw c so sw slot x ws i = withN (ws i) sw x := by
  unfold layw ownw
  rw [if_pos h1]
  unfold othw
  rw [if_neg h2]

theorem layw_oth {x : Int} {ws : Nat → Nat} {i : Nat} (h1 : (i : Int) ≠ c.cl 4 slot) (h2 : (i : Int) = c.cl 4 x) : layw c so sw slot x ws i = withN (ws i) so slot := by
  unfold layw ownw
  rw [if_neg h1]
  unfold othw
  rw [if_pos h2]

theorem cl4_ne (hr : c.r = true) {x y : Int} (x0 : 0 ≤ x) (x1 : x < c.s) (y0 : 0 ≤ y) (y1 : y < c.s) (h : x ≠ y) : c.cl 4 x ≠ c.cl 4 y := fun e => h (cl_inj hr x0 x1 y0 y1 e)

theorem cl46_ne (hr : c.r = true) {x y : Int} (x0 : 0 ≤ x) (x1 : x < c.s) (y0 : 0 ≤ y) (y1 : y < c.s) : c.cl 6 x ≠ c.cl 4 y := by
  have hb := c.rb hr
  unfold Cf.cl cellN
  rw [hr]
  simp [x0, x1, y0, y1]
  omega

theorem cl5_ne (hr : c.r = true) {x y : Int} (x0 : 0 ≤ x) (x1 : x < c.s) (y0 : 0 ≤ y) (y1 : y < c.s) : c.cl 5 x ≠ c.cl 4 y := by
  have hb := c.rb hr
  unfold Cf.cl cellN
  rw [hr]
  simp [x0, x1, y0, y1]
  omega

/-- what a join comes to hangs on nothing that a conflict laid changes -/
theorem cfl_lay (hr : c.r = true) (hso : so = 0 ∨ so = 1) (h0 : 0 ≤ slot) (h1 : slot < c.s) {ws : Nat → Nat} {x y : Int} (x0 : 0 ≤ x) (hx : x ≠ slot) (y0 : 0 ≤ y) (hy : y ≠ slot) (hl : cfl c so slot n ws y = 2) : cfl c so slot n (layw c so sw slot y ws) x = cfl c so slot n ws x := by
  unfold cfl
  by_cases x1 : x < c.s
  · rw [if_pos x1, if_pos x1]
    have y1 : y < c.s := by
      unfold cfl at hl
      rcases Int.lt_or_le y c.s with q | q
      · exact q
      · rw [if_neg (by omega)] at hl; cases hl
    have ex := cl_nat hr x0 x1
    have e6 : (((c.cl 6 x).toNat : Nat) : Int) = c.cl 6 x := by
      have := (sl_cells hr x0 x1)
      omega
    have n6 : layw c so sw slot y ws (c.cl 6 x).toNat = ws (c.cl 6 x).toNat := layw_other (by rw [e6]; exact cl46_ne hr x0 x1 h0 h1) (by rw [e6]; exact cl46_ne hr x0 x1 y0 y1)
    have s4 : (((c.cl 4 x).toNat : Nat) : Int) ≠ c.cl 4 slot := by rw [ex]; exact cl4_ne hr x0 x1 h0 h1 hx
    rw [n6]
    by_cases e : x = y
    · subst e
      rw [layw_oth s4 ex]
      unfold cfl at hl
      rw [if_pos x1] at hl
      have ho : okS so slot = true := okS_iff.2 ⟨hso, h0, by have := c.rb hr; omega⟩
      rw [hl]
      unfold jtg at hl ⊢
      rw [st_with, hasN_with, ho]
      split at hl
      · cases hl
      · rename_i q
        rw [if_neg q, if_pos rfl]
    · rw [layw_other s4 (by rw [ex]; exact cl4_ne hr x0 x1 y0 y1 e)]
  · rw [if_neg x1, if_neg x1]

/-- conflicts with a row: those that have to be laid, up to the first one that must not have it -/
theorem conf_lays (hr : c.r = true) (hso : so = 0 ∨ so = 1) (h0 : 0 ≤ slot) (h1 : slot < c.s) (P : Int → Bool) : ∀ (L : List Int) (ws : Nat → Nat), (∀ x ∈ L, 0 ≤ x ∧ x ≠ slot) → (∀ x ∈ L, P x = decide (cfl c so slot n ws x = 2)) →
    ∃ L', (∀ x ∈ L', x ∈ L) ∧ (conf c so sw slot n ws L).1 = layL c so sw slot P ws L' ∧ ((conf c so sw slot n ws L).2 = true → L' = L ∧ ∀ x ∈ L, cfl c so slot n ws x ≠ 3) ∧ ((∀ x ∈ L, cfl c so slot n ws x ≠ 3) → (conf c so sw slot n ws L).2 = true) := by
  intro L
  induction L with
  | nil => intro ws _ _; exact ⟨[], by simp, rfl, fun _ => ⟨rfl, by simp⟩, fun _ => rfl⟩
  | cons x r ih =>
    intro ws hx hP
    have hcf : conf c so sw slot n ws (x :: r) = if cfl c so slot n ws x = 3 then (ws, false) else if cfl c so slot n ws x = 2 then conf c so sw slot n (layw c so sw slot x ws) r else conf c so sw slot n ws r := rfl
    obtain ⟨x0, xs⟩ := hx x List.mem_cons_self
    have hr' : ∀ y ∈ r, 0 ≤ y ∧ y ≠ slot := fun y hy => hx y (List.mem_cons_of_mem _ hy)
    rcases cfl_range c so slot n ws x with q | q | q
    · have e : conf c so sw slot n ws (x :: r) = conf c so sw slot n ws r := by rw [hcf, if_neg (by rw [q]; decide), if_neg (by rw [q]; decide)]
      obtain ⟨L', a1, a2, a3, a4⟩ := ih ws hr' (fun y hy => hP y (List.mem_cons_of_mem _ hy))
      have hp : P x = false := by rw [hP x List.mem_cons_self, q]; rfl
      refine ⟨x :: L', fun y hy => ?_, ?_, fun h => ?_, fun h => ?_⟩
      · rcases List.mem_cons.1 hy with rfl | hy
        · exact List.mem_cons_self
        · exact List.mem_cons_of_mem _ (a1 y hy)
      · rw [e, a2]
        show _ = layL c so sw slot P (if P x = true then _ else ws) L'
        rw [hp, if_neg (by decide)]
      · rw [e] at h
        obtain ⟨b1, b2⟩ := a3 h
        refine ⟨by rw [b1], fun y hy => ?_⟩
        rcases List.mem_cons.1 hy with rfl | hy
        · rw [q]; decide
        · exact b2 y hy
      · rw [e]
        exact a4 (fun y hy => h y (List.mem_cons_of_mem _ hy))
    · have e : conf c so sw slot n ws (x :: r) = conf c so sw slot n (layw c so sw slot x ws) r := by rw [hcf, if_neg (by rw [q]; decide), if_pos q]
      have same : ∀ y ∈ r, cfl c so slot n (layw c so sw slot x ws) y = cfl c so slot n ws y := fun y hy => cfl_lay hr hso h0 h1 (hr' y hy).1 (hr' y hy).2 x0 xs q
      obtain ⟨L', a1, a2, a3, a4⟩ := ih (layw c so sw slot x ws) hr' (fun y hy => by rw [same y hy]; exact hP y (List.mem_cons_of_mem _ hy))
      have hp : P x = true := by rw [hP x List.mem_cons_self, q]; rfl
      refine ⟨x :: L', fun y hy => ?_, ?_, fun h => ?_, fun h => ?_⟩
      · rcases List.mem_cons.1 hy with rfl | hy
        · exact List.mem_cons_self
        · exact List.mem_cons_of_mem _ (a1 y hy)
      · rw [e, a2]
        show _ = layL c so sw slot P (if P x = true then layw c so sw slot x ws else ws) L'
        rw [hp, if_pos rfl]
      · rw [e] at h
        obtain ⟨b1, b2⟩ := a3 h
        refine ⟨by rw [b1], fun y hy => ?_⟩
        rcases List.mem_cons.1 hy with rfl | hy
        · rw [q]; decide
        · rw [← same y hy]; exact b2 y hy
      · rw [e]
        exact a4 (fun y hy => by rw [same y hy]; exact h y (List.mem_cons_of_mem _ hy))
    · have e : conf c so sw slot n ws (x :: r) = (ws, false) := by rw [hcf, if_pos q]
      refine ⟨[], by simp, by rw [e]; rfl, fun h => ?_, fun h => absurd q (h x List.mem_cons_self)⟩
      rw [e] at h
      cases h

/-- the cells behind conflicts -/
theorem layL_other (P : Int → Bool) : ∀ (L : List Int) (ws : Nat → Nat) (i : Nat), (i : Int) ≠ c.cl 4 slot → (∀ x ∈ L, (i : Int) ≠ c.cl 4 x) → layL c so sw slot P ws L i = ws i := by
  intro L
  induction L with
  | nil => intro ws i _ _; rfl
  | cons x r ih =>
    intro ws i h1 h2
    show layL c so sw slot P _ r i = ws i
    rw [ih _ i h1 (fun y hy => h2 y (List.mem_cons_of_mem _ hy))]
    split
    · exact layw_other h1 (h2 x List.mem_cons_self)
    · rfl

/-- another one's status: as it was, or with its end -/
theorem layL_status (P : Int → Bool) : ∀ (L : List Int) (ws : Nat → Nat) (i : Nat), (i : Int) ≠ c.cl 4 slot → layL c so sw slot P ws L i = ws i ∨ layL c so sw slot P ws L i = withN (ws i) so slot := by
  intro L
  induction L with
  | nil => intro ws i _; exact .inl rfl
  | cons x r ih =>
    intro ws i h1
    have step : (if P x = true then layw c so sw slot x ws else ws) i = ws i ∨ (if P x = true then layw c so sw slot x ws else ws) i = withN (ws i) so slot := by
      split
      · by_cases e : (i : Int) = c.cl 4 x
        · exact .inr (layw_oth h1 e)
        · exact .inl (layw_other h1 e)
      · exact .inl rfl
    show layL c so sw slot P _ r i = ws i ∨ layL c so sw slot P _ r i = withN (ws i) so slot
    rcases ih (if P x = true then layw c so sw slot x ws else ws) i h1 with e | e
    · rw [e]; exact step
    · rw [e]
      rcases step with q | q
      · rw [q]; exact .inr rfl
      · rw [q, with_twice]; exact .inr rfl

/-- bits that are on the other side, or none -/
def far (sw : Int) (j : Nat) : Prop := (j : Int) < 12 * sw ∨ 12 * sw + 12 ≤ (j : Int)

theorem with_far (x : Nat) {a : Int} (b : Int) {j : Nat} (hj : far a j) : (withN x a b).testBit j = x.testBit j := by
  cases ho : okS a b with
  | false => rw [with_bad _ a b ho]
  | true =>
    have hb := okS_iff.1 ho
    rw [with_ok _ ho, testBit_setN, if_neg]
    unfold bitAt
    unfold far at hj
    omega

theorem far_hi {sw : Int} (hsw : sw = 0 ∨ sw = 1) {j : Nat} (hj : 24 ≤ j) : far sw j := by
  unfold far
  omega

/-- one's own status: its generation, its state, its side In, are what they were -/
theorem layL_own (hr : c.r = true) (h0 : 0 ≤ slot) (h1 : slot < c.s) (P : Int → Bool) {j : Nat} (hj : far sw j) : ∀ (L : List Int) (ws : Nat → Nat), (∀ x ∈ L, 0 ≤ x ∧ x ≠ slot ∧ (P x = true → x < c.s)) → ∀ i : Nat, (i : Int) = c.cl 4 slot →
    (layL c so sw slot P ws L i).testBit j = (ws i).testBit j := by
  intro L
  induction L with
  | nil => intro ws _ i _; rfl
  | cons x r ih =>
    intro ws hx i hi
    have a1 := ih (if P x = true then layw c so sw slot x ws else ws) (fun y hy => hx y (List.mem_cons_of_mem _ hy)) i hi
    obtain ⟨x0, xs, xp⟩ := hx x List.mem_cons_self
    refine a1.trans ?_
    split
    · rename_i hp
      rw [layw_own hi (by rw [hi]; exact cl4_ne hr h0 h1 x0 (xp hp) (fun q => xs q.symm))]
      exact with_far _ _ hj
    · rfl

theorem parts_far {x y : Nat} (h : ∀ j, 24 ≤ j → x.testBit j = y.testBit j) : gnN x = gnN y ∧ stN x = stN y ∧ x.testBit 26 = y.testBit 26 := by
  refine ⟨?_, ?_, h 26 (by decide)⟩
  · apply Nat.eq_of_testBit_eq
    intro j
    unfold gnN
    rw [testBit_part, testBit_part, h _ (by omega)]
  · apply Nat.eq_of_testBit_eq
    intro j
    unfold stN
    rw [testBit_part, testBit_part, h _ (by omega)]

theorem layL_parts (hr : c.r = true) (hsw : sw = 0 ∨ sw = 1) (h0 : 0 ≤ slot) (h1 : slot < c.s) (P : Int → Bool) (L : List Int) (ws : Nat → Nat) (hx : ∀ x ∈ L, 0 ≤ x ∧ x ≠ slot ∧ (P x = true → x < c.s)) (i : Nat) (hi : (i : Int) = c.cl 4 slot) :
    gnN (layL c so sw slot P ws L i) = gnN (ws i) ∧ stN (layL c so sw slot P ws L i) = stN (ws i) ∧ (layL c so sw slot P ws L i).testBit 26 = (ws i).testBit 26 :=
  parts_far (fun _ hj => layL_own hr h0 h1 P (far_hi hsw hj) L ws hx i hi)

/-- in whatever order -/
theorem layw_comm (x y : Int) (ws : Nat → Nat) : layw c so sw slot x (layw c so sw slot y ws) = layw c so sw slot y (layw c so sw slot x ws) := by
  funext i
  unfold layw ownw othw
  by_cases h1 : (i : Int) = c.cl 4 slot
  · by_cases h2 : (i : Int) = c.cl 4 x
    · by_cases h3 : (i : Int) = c.cl 4 y
      · simp only [if_pos h1, if_pos h2, if_pos h3]
        rw [with_comm (withN (ws i) so slot) sw y so slot, with_comm (withN (ws i) so slot) sw x so slot, with_comm _ sw y sw x]
      · simp only [if_pos h1, if_pos h2, if_neg h3]
        rw [with_comm (ws i) sw y so slot, with_comm _ sw y sw x]
    · by_cases h3 : (i : Int) = c.cl 4 y
      · simp only [if_pos h1, if_neg h2, if_pos h3]
        rw [with_comm (ws i) sw x so slot, with_comm _ sw x sw y]
      · simp only [if_pos h1, if_neg h2, if_neg h3]
        rw [with_comm (ws i) sw y sw x]
  · by_cases h2 : (i : Int) = c.cl 4 x <;> by_cases h3 : (i : Int) = c.cl 4 y
    · simp only [if_neg h1, if_pos h2, if_pos h3]
    · simp only [if_neg h1, if_pos h2, if_neg h3]
    · simp only [if_neg h1, if_neg h2, if_pos h3]
    · simp only [if_neg h1, if_neg h2, if_neg h3]

theorem layw_twice (hr : c.r = true) (h0 : 0 ≤ slot) (h1 : slot < c.s) {x : Int} (x0 : 0 ≤ x) (x1 : x < c.s) (hx : x ≠ slot) (ws : Nat → Nat) : layw c so sw slot x (layw c so sw slot x ws) = layw c so sw slot x ws := by
  funext i
  by_cases e1 : (i : Int) = c.cl 4 slot
  · have e2 : (i : Int) ≠ c.cl 4 x := by rw [e1]; exact cl4_ne hr h0 h1 x0 x1 (fun q => hx q.symm)
    rw [layw_own e1 e2, layw_own e1 e2, with_twice]
  · by_cases e2 : (i : Int) = c.cl 4 x
    · rw [layw_oth e1 e2, layw_oth e1 e2, with_twice]
    · rw [layw_other e1 e2, layw_other e1 e2]

theorem layL_layw (P : Int → Bool) (x : Int) : ∀ (L : List Int) (ws : Nat → Nat), layL c so sw slot P (layw c so sw slot x ws) L = layw c so sw slot x (layL c so sw slot P ws L) := by
  intro L
  induction L with
  | nil => intro ws; rfl
  | cons y r ih =>
    intro ws
    show layL c so sw slot P (if P y = true then layw c so sw slot y (layw c so sw slot x ws) else layw c so sw slot x ws) r = layw c so sw slot x (layL c so sw slot P (if P y = true then layw c so sw slot y ws else ws) r)
    by_cases hp : P y = true
    · rw [if_pos hp, if_pos hp, layw_comm y x, ih]
    · rw [if_neg hp, if_neg hp, ih]

/-- two rows, in either order -/
theorem layL_comm (P Q : Int → Bool) : ∀ (L K : List Int) (ws : Nat → Nat), layL c so sw slot P (layL c so sw slot Q ws K) L = layL c so sw slot Q (layL c so sw slot P ws L) K := by
  intro L
  induction L with
  | nil => intro K ws; rfl
  | cons x r ih =>
    intro K ws
    show layL c so sw slot P (if P x = true then layw c so sw slot x (layL c so sw slot Q ws K) else layL c so sw slot Q ws K) r = layL c so sw slot Q (layL c so sw slot P (if P x = true then layw c so sw slot x ws else ws) r) K
    by_cases hp : P x = true
    · rw [if_pos hp, if_pos hp, ← layL_layw, ih]
    · rw [if_neg hp, if_neg hp, ih]

/-- what is laid is laid -/
theorem layL_there (hr : c.r = true) (h0 : 0 ≤ slot) (h1 : slot < c.s) (P : Int → Bool) : ∀ (L : List Int) (ws : Nat → Nat), (∀ x ∈ L, 0 ≤ x ∧ x ≠ slot ∧ (P x = true → x < c.s)) → layL c so sw slot P (layL c so sw slot P ws L) L = layL c so sw slot P ws L := by
  intro L
  induction L with
  | nil => intro ws _; rfl
  | cons x r ih =>
    intro ws hx
    obtain ⟨x0, xs, xp⟩ := hx x List.mem_cons_self
    have hr' := fun y hy => hx y (List.mem_cons_of_mem _ hy)
    show layL c so sw slot P (if P x = true then layw c so sw slot x (layL c so sw slot P (if P x = true then layw c so sw slot x ws else ws) r) else layL c so sw slot P (if P x = true then layw c so sw slot x ws else ws) r) r = layL c so sw slot P (if P x = true then layw c so sw slot x ws else ws) r
    by_cases hp : P x = true
    · rw [if_pos hp, if_pos hp, ← layL_layw, layw_twice hr h0 h1 x0 (xp hp) xs, ih _ hr']
    · rw [if_neg hp, if_neg hp, ih _ hr']

end

end Um

/-
  Plain arithmetic of layer 12: what a read that is alone comes to, from the words that it found; read again; two keys in either order. No Go in sight.
-/
namespace Um
set_option maxRecDepth 100000
set_option linter.unusedVariables false

theorem bz_with (x : Nat) (a b : Int) : withN (bzN x) a b = bzN (withN x a b) := by
  cases ho : okS a b with
  | false => rw [with_bad _ a b ho, with_bad _ a b ho]
  | true =>
    rw [with_ok _ ho, with_ok _ ho]
    exact setN_comm _ _ _ _ _ (.inr rfl)

theorem unbz {x : Nat} (h : x.testBit 26 = false) : moveN (bzN x) (lst (-1) (bzN x)) false = x := by
  have e : lst (-1) (bzN x) = stN (bzN x) := by unfold lst; rw [if_pos (.inl (by decide))]
  have hlt : stN (bzN x) < 8 := part_lt _ 27 3
  rw [e]
  apply Nat.eq_of_testBit_eq
  intro j
  rw [move_bits hlt]
  by_cases e1 : j = 26
  · subst e1
    rw [if_pos rfl, h]
  · rw [if_neg e1]
    have hb : ∀ k, k ≠ 26 → (bzN x).testBit k = x.testBit k := fun k hk => by
      unfold bzN
      rw [testBit_setN, if_neg (fun q => hk q.symm)]
    by_cases e2 : 27 ≤ j ∧ j < 30
    · rw [if_pos e2]
      unfold stN
      rw [testBit_part, decide_eq_true (show j - 27 < 3 by omega), Bool.true_and, show j - 27 + 27 = j by omega, hb j e1]
    · rw [if_neg e2, hb j e1]

section
variable {c : Cf} {so sw sd slot key : Int} {n : Nat}

theorem bsw_layw (x : Int) (ws : Nat → Nat) : layw c so sw slot x (bsw c slot ws) = bsw c slot (layw c so sw slot x ws) := by
  funext i
  unfold layw ownw othw bsw
  by_cases h1 : (i : Int) = c.cl 4 slot <;> by_cases h2 : (i : Int) = c.cl 4 x
  · simp only [if_pos h1, if_pos h2]
    rw [bz_with, bz_with]
  · simp only [if_pos h1, if_neg h2]
    rw [bz_with]
  · simp only [if_neg h1, if_pos h2]
  · simp only [if_neg h1, if_neg h2]

theorem bsw_layL (P : Int → Bool) : ∀ (L : List Int) (ws : Nat → Nat), layL c so sw slot P (bsw c slot ws) L = bsw c slot (layL c so sw slot P ws L) := by
  intro L
  induction L with
  | nil => intro ws; rfl
  | cons x r ih =>
    intro ws
    show layL c so sw slot P (if P x = true then layw c so sw slot x (bsw c slot ws) else bsw c slot ws) r = bsw c slot (layL c so sw slot P (if P x = true then layw c so sw slot x ws else ws) r)
    by_cases hp : P x = true
    · rw [if_pos hp, if_pos hp, bsw_layw, ih]
    · rw [if_neg hp, if_neg hp, ih]

theorem mkw_bsw (ws : Nat → Nat) : mkw c sd key slot (bsw c slot ws) = bsw c slot (mkw c sd key slot ws) := by
  funext i
  unfold mkw bsw
  by_cases h1 : (i : Int) = c.cl 8 key <;> by_cases h2 : (i : Int) = c.cl 4 slot
  · simp only [if_pos h1, if_pos h2]
    rw [bz_with]
  · simp only [if_pos h1, if_neg h2]
  · simp only [if_neg h1, if_pos h2]
  · simp only [if_neg h1, if_neg h2]

theorem mkw_layw (x : Int) (ws : Nat → Nat) : layw c so sw slot x (mkw c sd key slot ws) = mkw c sd key slot (layw c so sw slot x ws) := by
  funext i
  unfold layw ownw othw mkw
  by_cases h1 : (i : Int) = c.cl 4 slot <;> by_cases h2 : (i : Int) = c.cl 4 x <;> by_cases h3 : (i : Int) = c.cl 8 key
  · simp only [if_pos h1, if_pos h2, if_pos h3]
    rw [with_comm (ws i) sd slot so slot, with_comm _ sd slot sw x]
  · simp only [if_pos h1, if_pos h2, if_neg h3]
  · simp only [if_pos h1, if_neg h2, if_pos h3]
    rw [with_comm (ws i) sd slot sw x]
  · simp only [if_pos h1, if_neg h2, if_neg h3]
  · simp only [if_neg h1, if_pos h2, if_pos h3]
    rw [with_comm (ws i) sd slot so slot]
  · simp only [if_neg h1, if_pos h2, if_neg h3]
  · simp only [if_neg h1, if_neg h2, if_pos h3]
  · simp only [if_neg h1, if_neg h2, if_neg h3]

theorem mkw_layL (P : Int → Bool) : ∀ (L : List Int) (ws : Nat → Nat), layL c so sw slot P (mkw c sd key slot ws) L = mkw c sd key slot (layL c so sw slot P ws L) := by
  intro L
  induction L with
  | nil => intro ws; rfl
  | cons x r ih =>
    intro ws
    show layL c so sw slot P (if P x = true then layw c so sw slot x (mkw c sd key slot ws) else mkw c sd key slot ws) r = mkw c sd key slot (layL c so sw slot P (if P x = true then layw c so sw slot x ws else ws) r)
    by_cases hp : P x = true
    · rw [if_pos hp, if_pos hp, mkw_layw, ih]
    · rw [if_neg hp, if_neg hp, ih]

theorem mkw_twice (ws : Nat → Nat) : mkw c sd key slot (mkw c sd key slot ws) = mkw c sd key slot ws := by
  funext i
  unfold mkw
  by_cases h : (i : Int) = c.cl 8 key
  · simp only [if_pos h]; rw [with_twice]
  · simp only [if_neg h]

theorem mkw_comm (k2 : Int) (ws : Nat → Nat) : mkw c sd key slot (mkw c sd k2 slot ws) = mkw c sd k2 slot (mkw c sd key slot ws) := by
  funext i
  unfold mkw
  by_cases h : (i : Int) = c.cl 8 key <;> by_cases h2 : (i : Int) = c.cl 8 k2
  · simp only [if_pos h, if_pos h2]
  · simp only [if_pos h, if_neg h2]
  · simp only [if_neg h, if_pos h2]
  · simp only [if_neg h, if_neg h2]

/-- entered and left: as if it had not been -/
theorem lvw_bsw {ws : Nat → Nat} (h : (ws (c.cl 4 slot).toNat).testBit 26 = false) : lvw c slot (-1) (bsw c slot ws) = ws := by
  funext i
  unfold lvw bsw
  by_cases e : (i : Int) = c.cl 4 slot
  · have ei : i = (c.cl 4 slot).toNat := by omega
    simp only [if_pos e]
    rw [ei]
    exact unbz h
  · simp only [if_neg e]

theorem key_other (hr : c.r = true) {x : Int} (x0 : 0 ≤ x) (x1 : x < c.s) (k0 : 0 ≤ key) (k1 : key < c.k) : (c.cl 4 x) ≠ c.cl 8 key ∧ (c.cl 6 x) ≠ c.cl 8 key ∧ (c.cl 5 x) ≠ c.cl 8 key := by
  obtain ⟨_, a, b, d⟩ := key_cells hr x0 x1 k0 k1
  exact ⟨a.symm, d.symm, b.symm⟩

theorem nat6 (hr : c.r = true) {x : Int} (x0 : 0 ≤ x) (x1 : x < c.s) : (((c.cl 6 x).toNat : Nat) : Int) = c.cl 6 x ∧ (((c.cl 5 x).toNat : Nat) : Int) = c.cl 5 x := by
  have := sl_cells hr x0 x1
  omega

/-- what a join comes to hangs on other cells than those that an entering, a mark, touch -/
theorem cfl_mk (hr : c.r = true) (h0 : 0 ≤ slot) (h1 : slot < c.s) (k0 : 0 ≤ key) (k1 : key < c.k) (ws : Nat → Nat) {x : Int} (x0 : 0 ≤ x) (hx : x ≠ slot) : cfl c so slot n (mkw c sd key slot ws) x = cfl c so slot n ws x := by
  unfold cfl
  by_cases x1 : x < c.s
  · obtain ⟨a, b, _⟩ := key_other hr x0 x1 k0 k1
    rw [if_pos x1, if_pos x1]
    have e4 : mkw c sd key slot ws (c.cl 4 x).toNat = ws (c.cl 4 x).toNat := if_neg (by rw [cl_nat hr x0 x1]; exact a)
    have e6 : mkw c sd key slot ws (c.cl 6 x).toNat = ws (c.cl 6 x).toNat := if_neg (by rw [(nat6 hr x0 x1).1]; exact b)
    rw [e4, e6]
  · rw [if_neg x1, if_neg x1]

theorem cfl_bs (hr : c.r = true) (h0 : 0 ≤ slot) (h1 : slot < c.s) (ws : Nat → Nat) {x : Int} (x0 : 0 ≤ x) (hx : x ≠ slot) : cfl c so slot n (bsw c slot ws) x = cfl c so slot n ws x := by
  unfold cfl
  by_cases x1 : x < c.s
  · rw [if_pos x1, if_pos x1]
    have e4 : bsw c slot ws (c.cl 4 x).toNat = ws (c.cl 4 x).toNat := if_neg (by rw [cl_nat hr x0 x1]; exact cl4_ne hr x0 x1 h0 h1 hx)
    have e6 : bsw c slot ws (c.cl 6 x).toNat = ws (c.cl 6 x).toNat := if_neg (by rw [(nat6 hr x0 x1).1]; exact cl46_ne hr x0 x1 h0 h1)
    rw [e4, e6]
  · rw [if_neg x1, if_neg x1]

end

/-- who has to get its end -/
def Pc (c : Cf) (slot : Int) (n : Nat) (ws : Nat → Nat) (x : Int) : Bool := decide (cfl c 1 slot n ws x = 2)

/-- what a read comes to from these words, if it is entered: may it go on, its words -/
structure Rsum (c : Cf) (key slot : Int) (ws : Nat → Nat) (ws' : Nat → Nat) (e : Int) : Prop where
  ok : (∀ x ∈ othersN (ws (c.cl 8 key).toNat) 1 slot, cfl c 1 slot (ws (c.cl 5 slot).toNat) ws x ≠ 3) → e = 0 ∧ ws' = layL c 1 0 slot (Pc c slot (ws (c.cl 5 slot).toNat) ws) (mkw c 0 key slot ws) (othersN (ws (c.cl 8 key).toNat) 1 slot)
  no : (¬ ∀ x ∈ othersN (ws (c.cl 8 key).toNat) 1 slot, cfl c 1 slot (ws (c.cl 5 slot).toNat) ws x ≠ 3) → e = 7 ∧ ∃ L', (∀ x ∈ L', x ∈ othersN (ws (c.cl 8 key).toNat) 1 slot) ∧ ws' = lvw c slot 5 (layL c 1 0 slot (Pc c slot (ws (c.cl 5 slot).toNat) ws) (mkw c 0 key slot (bsw c slot ws)) L')

section
variable {c : Cf} {h : Nat} {inn : Nat → Bool} {key slot : Int}

theorem fl_facts {x : Nat} (hf : flN h inn x = 0) : ((gnN x : Nat) : Int) = tgN h ∧ 2 ≤ stN x ∧ x.testBit 26 = false ∧ inn (stN x) = true := by
  unfold flN at hf
  split at hf
  · cases hf
  rename_i q
  split at hf
  · cases hf
  rename_i q2
  split at hf
  · rename_i q3
    refine ⟨?_, ?_, by simpa using q2, q3⟩
    · exact Decidable.byContradiction fun e => q (.inl e)
    · have a : ¬ stN x = 0 := fun e => q (.inr (.inl e))
      have b : ¬ stN x = 1 := fun e => q (.inr (.inr e))
      omega
  · cases hf

theorem P_in (hr : c.r = true) {n : Nat} {ws : Nat → Nat} {x : Int} (hp : Pc c slot n ws x = true) : x < c.s := by
  have q := of_decide_eq_true hp
  unfold cfl at q
  rcases Int.lt_or_le x c.s with e | e
  · exact e
  · rw [if_neg (by omega)] at q; cases q

theorem read_sum (hr : c.r = true) (hn : ook h c.s = true) (hs : svN h = slot) (k0 : 0 ≤ key) (k1 : key < c.k) (m : Mm) (hf : flN h inn (m.ws (c.cl 4 slot).toNat) = 0) :
    ∃ o', Rch c h inn key slot (rdnew m) o' 70 ∧ o'.dn = true ∧ Rsum c key slot m.ws o'.m.ws o'.e := by
  have hsl : 0 ≤ slot ∧ slot < c.s := by
    obtain ⟨f0, f1, _⟩ := ook_facts hn
    rw [hs] at f0 f1
    exact ⟨f0, f1⟩
  obtain ⟨h0, h1⟩ := hsl
  obtain ⟨o', r1, r2, r3, r4⟩ := read_alone (key := key) hr hn hs k0 k1 m hf _ rfl
  refine ⟨o', r1, r2, ?_⟩
  obtain ⟨N, hN⟩ : ∃ N, N = m.ws (c.cl 5 slot).toNat := ⟨_, rfl⟩
  obtain ⟨L, hL⟩ : ∃ L, L = othersN (m.ws (c.cl 8 key).toNat) 1 slot := ⟨_, rfl⟩
  rw [← hN, ← hL] at r3 r4
  have hmem : ∀ x ∈ L, 0 ≤ x ∧ x ≠ slot := fun x hx => by
    rw [hL] at hx
    have := others_mem hx
    exact ⟨this.1, this.2.2⟩
  have hcf : ∀ x ∈ L, cfl c 1 slot N (mkw c 0 key slot (bsw c slot m.ws)) x = cfl c 1 slot N m.ws x := fun x hx => by
    rw [cfl_mk hr h0 h1 k0 k1 _ (hmem x hx).1 (hmem x hx).2, cfl_bs hr h0 h1 _ (hmem x hx).1 (hmem x hx).2]
  obtain ⟨L', a1, a2, a3, a4⟩ := conf_lays (n := N) hr (.inr rfl) h0 h1 (Pc c slot N m.ws) L (mkw c 0 key slot (bsw c slot m.ws)) hmem (fun x hx => by rw [hcf x hx]; rfl)
  refine ⟨fun q => ?_, fun q => ?_⟩
  · rw [← hN, ← hL] at q ⊢
    have hb := a4 (fun x hx => by rw [hcf x hx]; exact q x hx)
    obtain ⟨b1, _⟩ := a3 hb
    rw [hb, if_pos rfl] at r3
    rw [hb, if_pos rfl, a2, b1] at r4
    refine ⟨r3, ?_⟩
    rw [r4, mkw_bsw, bsw_layL]
    refine lvw_bsw ?_
    obtain ⟨_, _, e26⟩ := layL_parts (so := 1) hr (.inl rfl) h0 h1 (Pc c slot N m.ws) L (mkw c 0 key slot m.ws) (fun x hx => ⟨(hmem x hx).1, (hmem x hx).2, fun hp => P_in hr hp⟩) (c.cl 4 slot).toNat (cl_nat hr h0 h1)
    rw [e26]
    have : mkw c 0 key slot m.ws (c.cl 4 slot).toNat = m.ws (c.cl 4 slot).toNat := if_neg (by rw [cl_nat hr h0 h1]; exact (key_other hr h0 h1 k0 k1).1)
    rw [this]
    exact (fl_facts hf).2.2.1
  · rw [← hN, ← hL] at q ⊢
    have hb : (conf c 1 0 slot N (mkw c 0 key slot (bsw c slot m.ws)) L).2 = false := by
      cases hq : (conf c 1 0 slot N (mkw c 0 key slot (bsw c slot m.ws)) L).2 with
      | false => rfl
      | true =>
        exfalso
        exact q (fun x hx => by rw [← hcf x hx]; exact (a3 hq).2 x hx)
    rw [hb, if_neg (by decide)] at r3
    rw [hb, if_neg (by decide), a2] at r4
    exact ⟨r3, L', a1, r4⟩

end

end Um

/-
  Plain arithmetic of layer 12: a read behind a read, alone: the same key again, two keys in either order. No Go in sight.
-/
namespace Um
set_option maxRecDepth 100000

theorem layL_congr {c : Cf} {slot : Int} {P Q : Int → Bool} : ∀ (L : List Int) (ws : Nat → Nat), (∀ x ∈ L, P x = Q x) → layL c 1 0 slot P ws L = layL c 1 0 slot Q ws L := by
  intro L
  induction L with
  | nil => intro ws _; rfl
  | cons x r ih =>
    intro ws h
    show layL c 1 0 slot P (if P x = true then layw c 1 0 slot x ws else ws) r = layL c 1 0 slot Q (if Q x = true then layw c 1 0 slot x ws else ws) r
    rw [h x List.mem_cons_self]
    exact ih _ (fun y hy => h y (List.mem_cons_of_mem _ hy))

theorem has_mark (x : Nat) (b : Int) (j : Int) : hasN (withN x 0 b) 1 j = hasN x 1 j := by
  unfold hasN
  cases ho : okS 1 j with
  | false => rfl
  | true =>
    rw [Bool.true_and, Bool.true_and]
    cases hb : okS 0 b with
    | false => rw [with_bad _ 0 b hb]
    | true =>
      have h1 := (okS_iff.1 ho).2
      have h2 := (okS_iff.1 hb).2
      rw [with_ok _ hb, testBit_setN, if_neg]
      unfold bitAt
      omega

/-- a mark of a reader leaves the writers -/
theorem others_mark (x : Nat) (b s : Int) : othersN (withN x 0 b) 1 s = othersN x 1 s := by
  unfold othersN slotsN slotsTo
  congr 1
  congr 1
  refine List.filter_congr fun j _ => ?_
  exact has_mark x b (j : Int)

section
variable {c : Cf} {h : Nat} {inn : Nat → Bool} {key slot : Int}

/-- what a read that went on leaves, as the next one finds it -/
structure Aft (c : Cf) (slot : Int) (ws ws' : Nat → Nat) : Prop where
  gn : gnN (ws' (c.cl 4 slot).toNat) = gnN (ws (c.cl 4 slot).toNat)
  st : stN (ws' (c.cl 4 slot).toNat) = stN (ws (c.cl 4 slot).toNat)
  bz : (ws' (c.cl 4 slot).toNat).testBit 26 = (ws (c.cl 4 slot).toNat).testBit 26
  n : ws' (c.cl 5 slot).toNat = ws (c.cl 5 slot).toNat
  ot : ∀ k, 0 ≤ k → k < c.k → othersN (ws' (c.cl 8 k).toNat) 1 slot = othersN (ws (c.cl 8 k).toNat) 1 slot
  cf : ∀ n x, 0 ≤ x → x ≠ slot → cfl c 1 slot n ws' x = cfl c 1 slot n ws x

theorem fl_aft {ws ws' : Nat → Nat} (h : Aft c slot ws ws') (x : Nat) (inn : Nat → Bool) : flN x inn (ws' (c.cl 4 slot).toNat) = flN x inn (ws (c.cl 4 slot).toNat) := by
  unfold flN
  rw [h.gn, h.st, h.bz]

theorem aft (hr : c.r = true) (h0 : 0 ≤ slot) (h1 : slot < c.s) (k0 : 0 ≤ key) (k1 : key < c.k) (ws : Nat → Nat) (n : Nat) (L : List Int) (hL : ∀ x ∈ L, 0 ≤ x ∧ x ≠ slot) :
    Aft c slot ws (layL c 1 0 slot (Pc c slot n ws) (mkw c 0 key slot ws) L) := by
  have hcn := cl_nat hr h0 h1
  have hP : ∀ x ∈ L, 0 ≤ x ∧ x ≠ slot ∧ (Pc c slot n ws x = true → x < c.s) := fun x hx => ⟨(hL x hx).1, (hL x hx).2, fun hp => P_in hr hp⟩
  have hown : mkw c 0 key slot ws (c.cl 4 slot).toNat = ws (c.cl 4 slot).toNat := if_neg (by rw [hcn]; exact (key_other hr h0 h1 k0 k1).1)
  obtain ⟨e1, e2, e3⟩ := layL_parts (so := 1) hr (.inl rfl) h0 h1 (Pc c slot n ws) L (mkw c 0 key slot ws) hP (c.cl 4 slot).toNat hcn
  rw [hown] at e1 e2 e3
  -- other cells
  have hoth : ∀ i : Nat, (i : Int) ≠ c.cl 4 slot → (∀ x, 0 ≤ x → x < c.s → (i : Int) ≠ c.cl 4 x) → layL c 1 0 slot (Pc c slot n ws) (mkw c 0 key slot ws) L i = mkw c 0 key slot ws i := by
    intro i hi hx
    -- those that there are not are not laid
    have gen : ∀ (K : List Int) (v : Nat → Nat), (∀ x ∈ K, 0 ≤ x) → layL c 1 0 slot (Pc c slot n ws) v K i = v i := by
      intro K
      induction K with
      | nil => intro v _; rfl
      | cons y r ih =>
        intro v hy
        show layL c 1 0 slot (Pc c slot n ws) (if Pc c slot n ws y = true then layw c 1 0 slot y v else v) r i = v i
        rw [ih _ (fun z hz => hy z (List.mem_cons_of_mem _ hz))]
        split
        · rename_i hp
          exact layw_other hi (hx y (hy y List.mem_cons_self) (P_in hr hp))
        · rfl
    exact gen L _ (fun x hx => (hL x hx).1)
  refine ⟨e1, e2, e3, ?_, fun k q0 q1 => ?_, fun q x x0 hx => ?_⟩
  · rw [hoth _ (by rw [(nat6 hr h0 h1).2]; exact cl5_ne hr h0 h1 h0 h1) (fun x x0 x1 => by rw [(nat6 hr h0 h1).2]; exact cl5_ne hr h0 h1 x0 x1)]
    exact if_neg (by rw [(nat6 hr h0 h1).2]; exact (key_other hr h0 h1 k0 k1).2.2)
  · have hk := (key_cells hr h0 h1 q0 q1)
    have ek : (((c.cl 8 k).toNat : Nat) : Int) = c.cl 8 k := by have := hk.1; omega
    rw [hoth _ (by rw [ek]; exact hk.2.1) (fun x x0 x1 => by rw [ek]; exact (key_cells hr x0 x1 q0 q1).2.1)]
    unfold mkw
    split
    · exact others_mark _ _ _
    · rfl
  · have e : cfl c 1 slot q (mkw c 0 key slot ws) x = cfl c 1 slot q ws x := cfl_mk hr h0 h1 k0 k1 ws x0 hx
    -- what is laid: where a join of this snapshot, or of another, finds it
    unfold cfl at e ⊢
    by_cases x1 : x < c.s
    · rw [if_pos x1, if_pos x1] at e ⊢
      rw [← e]
      have c4 := cl_nat hr x0 x1
      have n4 : (((c.cl 4 x).toNat : Nat) : Int) ≠ c.cl 4 slot := by rw [c4]; exact cl4_ne hr x0 x1 h0 h1 hx
      have e6 : layL c 1 0 slot (Pc c slot n ws) (mkw c 0 key slot ws) L (c.cl 6 x).toNat = mkw c 0 key slot ws (c.cl 6 x).toNat :=
        hoth _ (by rw [(nat6 hr x0 x1).1]; exact cl46_ne hr x0 x1 h0 h1) (fun y y0 y1 => by rw [(nat6 hr x0 x1).1]; exact cl46_ne hr x0 x1 y0 y1)
      rw [e6]
      have hmk : mkw c 0 key slot ws (c.cl 4 x).toNat = ws (c.cl 4 x).toNat := if_neg (by rw [c4]; exact (key_other hr x0 x1 k0 k1).1)
      by_cases hp : x ∈ L ∧ Pc c slot n ws x = true
      · rcases layL_status (c := c) (so := 1) (sw := 0) (slot := slot) (Pc c slot n ws) L (mkw c 0 key slot ws) (c.cl 4 x).toNat n4 with q4 | q4
        · rw [q4]
        · rw [q4, hmk]
          have hl := of_decide_eq_true hp.2
          unfold cfl at hl
          rw [if_pos x1] at hl
          have ho : okS 1 slot = true := okS_iff.2 ⟨.inr rfl, h0, by have := c.rb hr; omega⟩
          -- it may be laid: so a join of whatever snapshot comes to the same with it laid
          unfold jtg at hl ⊢
          rw [st_with, hasN_with, ho]
          by_cases g1 : stN (ws (c.cl 4 x).toNat) < 2 ∨ 4 < stN (ws (c.cl 4 x).toNat) ∨ stN (ws (c.cl 4 x).toNat) = 4 ∧ past (mkw c 0 key slot ws (c.cl 6 x).toNat) q = true
          · rw [if_pos g1, if_pos g1]
          · rw [if_neg g1, if_neg g1, if_pos rfl]
            by_cases g2 : hasN (ws (c.cl 4 x).toNat) 1 slot = true
            · rw [if_pos g2]
            · rw [if_neg g2]
              split at hl
              · cases hl
              · split at hl
                · cases hl
                · rename_i g3
                  rw [if_neg g3]
      · have gen : ∀ (K : List Int) (v : Nat → Nat), (∀ y ∈ K, y ∈ L) → layL c 1 0 slot (Pc c slot n ws) v K (c.cl 4 x).toNat = v (c.cl 4 x).toNat := by
          intro K
          induction K with
          | nil => intro v _; rfl
          | cons y r ih =>
            intro v hy
            show layL c 1 0 slot (Pc c slot n ws) (if Pc c slot n ws y = true then layw c 1 0 slot y v else v) r (c.cl 4 x).toNat = _
            rw [ih _ (fun z hz => hy z (List.mem_cons_of_mem _ hz))]
            split
            · rename_i hpy
              have hyL := hy y List.mem_cons_self
              refine layw_other n4 ?_
              rw [c4]
              refine cl4_ne hr x0 x1 (hL y hyL).1 (P_in hr hpy) (fun q => hp ?_)
              rw [q]
              exact ⟨hyL, hpy⟩
            · rfl
        rw [gen L _ (fun y hy => hy)]
    · rw [if_neg x1, if_neg x1]

/-- the others of a key are others -/
theorem ot_facts {w : Nat} {slot : Int} : ∀ x ∈ othersN w 1 slot, 0 ≤ x ∧ x ≠ slot := fun _ hx => ⟨(others_mem hx).1, (others_mem hx).2.2⟩

/-- read again: nothing more is changed -/
theorem read_twice (hr : c.r = true) (h0 : 0 ≤ slot) (h1 : slot < c.s) (k0 : 0 ≤ key) (k1 : key < c.k) {ws ws' ws2 : Nat → Nat} {e e2 : Int} (hA : Rsum c key slot ws ws' e) (he : e = 0) (hB : Rsum c key slot ws' ws2 e2) : e2 = 0 ∧ ws2 = ws' := by
  have hok : ∀ x ∈ othersN (ws (c.cl 8 key).toNat) 1 slot, cfl c 1 slot (ws (c.cl 5 slot).toNat) ws x ≠ 3 := by
    refine Decidable.byContradiction fun q => ?_
    have := (hA.no q).1
    omega
  obtain ⟨_, hw⟩ := hA.ok hok
  have hF : Aft c slot ws ws' := by rw [hw]; exact aft hr h0 h1 k0 k1 ws _ _ ot_facts
  have hok2 : ∀ x ∈ othersN (ws' (c.cl 8 key).toNat) 1 slot, cfl c 1 slot (ws' (c.cl 5 slot).toNat) ws' x ≠ 3 := by
    rw [hF.ot key k0 k1, hF.n]
    intro x hx
    rw [hF.cf _ x (ot_facts x hx).1 (ot_facts x hx).2]
    exact hok x hx
  obtain ⟨q1, q2⟩ := hB.ok hok2
  refine ⟨q1, ?_⟩
  rw [q2, hF.ot key k0 k1, hF.n, layL_congr (Q := Pc c slot (ws (c.cl 5 slot).toNat) ws) _ _ (fun x hx => by
    unfold Pc
    rw [hF.cf _ x (ot_facts x hx).1 (ot_facts x hx).2]), mkw_layL]
  have e1 : layL c 1 0 slot (Pc c slot (ws (c.cl 5 slot).toNat) ws) ws' (othersN (ws (c.cl 8 key).toNat) 1 slot) = ws' := by
    rw [hw]
    exact layL_there hr h0 h1 _ _ _ (fun x hx => ⟨(ot_facts x hx).1, (ot_facts x hx).2, fun hp => P_in hr hp⟩)
  rw [e1, hw, mkw_layL, mkw_twice]

/-- behind one that failed: it is aborted -/
theorem read_failed (hr : c.r = true) (h0 : 0 ≤ slot) (h1 : slot < c.s) (k0 : 0 ≤ key) (k1 : key < c.k) {ws ws' : Nat → Nat} {e : Int} (hf : flN h inn (ws (c.cl 4 slot).toNat) = 0) (hi : inn 5 = false) (hA : Rsum c key slot ws ws' e) (he : e ≠ 0) : e = 7 ∧ flN h inn (ws' (c.cl 4 slot).toNat) = 4 := by
  have hno : ¬ ∀ x ∈ othersN (ws (c.cl 8 key).toNat) 1 slot, cfl c 1 slot (ws (c.cl 5 slot).toNat) ws x ≠ 3 := fun q => he (hA.ok q).1
  obtain ⟨q1, L', q2, q3⟩ := hA.no hno
  have hcn := cl_nat hr h0 h1
  obtain ⟨e1, _, _⟩ := layL_parts (so := 1) hr (.inl rfl) h0 h1 (Pc c slot (ws (c.cl 5 slot).toNat) ws) L' (mkw c 0 key slot (bsw c slot ws)) (fun x hx => ⟨(ot_facts x (q2 x hx)).1, (ot_facts x (q2 x hx)).2, fun hp => P_in hr hp⟩) (c.cl 4 slot).toNat hcn
  have hown : mkw c 0 key slot (bsw c slot ws) (c.cl 4 slot).toNat = bzN (ws (c.cl 4 slot).toNat) := by
    unfold mkw
    rw [if_neg (by rw [hcn]; exact (key_other hr h0 h1 k0 k1).1)]
    exact if_pos hcn
  rw [hown] at e1
  have hgb : gnN (bzN (ws (c.cl 4 slot).toNat)) = gnN (ws (c.cl 4 slot).toNat) := by
    rw [← move_bz, gn_move _ (show stN (ws (c.cl 4 slot).toNat) < 8 from part_lt _ 27 3)]
  refine ⟨q1, ?_⟩
  have hv : ws' (c.cl 4 slot).toNat = moveN (layL c 1 0 slot (Pc c slot (ws (c.cl 5 slot).toNat) ws) (mkw c 0 key slot (bsw c slot ws)) L' (c.cl 4 slot).toNat) 5 false := by
    rw [q3]
    unfold lvw
    rw [if_pos hcn]
    have h5 : ∀ v, lst 5 v = 5 := fun v => by unfold lst; rw [if_neg (by decide)]; rfl
    rw [h5]
  generalize layL c 1 0 slot (Pc c slot (ws (c.cl 5 slot).toNat) ws) (mkw c 0 key slot (bsw c slot ws)) L' (c.cl 4 slot).toNat = v at hv e1
  have hp := move_parts v 5 false (by decide)
  have h2 : stN (moveN v 5 false) = 5 := hp.2.1
  have h3 : gnN (moveN v 5 false) = gnN (ws (c.cl 4 slot).toNat) := by rw [gn_move _ (by decide), e1, hgb]
  have hg := (fl_facts hf).1
  unfold flN
  rw [hv, h2, h3, hp.1, if_neg (by rintro (q | q | q); exact q hg; cases q; cases q), if_neg (by decide), hi]
  rfl

/-- two keys, in either order -/
theorem read_order (hr : c.r = true) (h0 : 0 ≤ slot) (h1 : slot < c.s) {ka kb : Int} (a0 : 0 ≤ ka) (a1 : ka < c.k) (b0 : 0 ≤ kb) (b1 : kb < c.k) {ws wa wab wb wba : Nat → Nat} {ea eb xa xb : Int}
    (hA : Rsum c ka slot ws wa ea) (hAB : ea = 0 → Rsum c kb slot wa wab eb) (hB : Rsum c kb slot ws wb xb) (hBA : xb = 0 → Rsum c ka slot wb wba xa) :
    (ea = 0 ∧ eb = 0) ↔ (xb = 0 ∧ xa = 0) := by
  have key1 : ∀ {k q : Int} {w v z : Nat → Nat} {e f : Int}, 0 ≤ k → k < c.k → 0 ≤ q → q < c.k → Rsum c k slot w v e → (e = 0 → Rsum c q slot v z f) → ((e = 0 ∧ f = 0) ↔ ((∀ x ∈ othersN (w (c.cl 8 k).toNat) 1 slot, cfl c 1 slot (w (c.cl 5 slot).toNat) w x ≠ 3) ∧ ∀ x ∈ othersN (w (c.cl 8 q).toNat) 1 slot, cfl c 1 slot (w (c.cl 5 slot).toNat) w x ≠ 3)) := by
    intro k q w v z e f k0 k1 q0 q1 hK hQ
    constructor
    · rintro ⟨e0, f0⟩
      have hok : ∀ x ∈ othersN (w (c.cl 8 k).toNat) 1 slot, cfl c 1 slot (w (c.cl 5 slot).toNat) w x ≠ 3 := by
        refine Decidable.byContradiction fun r => ?_
        have := (hK.no r).1
        omega
      obtain ⟨_, hw⟩ := hK.ok hok
      have hF : Aft c slot w v := by rw [hw]; exact aft hr h0 h1 k0 k1 w _ _ ot_facts
      have hok2 : ∀ x ∈ othersN (v (c.cl 8 q).toNat) 1 slot, cfl c 1 slot (v (c.cl 5 slot).toNat) v x ≠ 3 := by
        refine Decidable.byContradiction fun r => ?_
        have := ((hQ e0).no r).1
        omega
      refine ⟨hok, fun x hx => ?_⟩
      rw [hF.ot q q0 q1, hF.n] at hok2
      have := hok2 x hx
      rwa [hF.cf _ x (ot_facts x hx).1 (ot_facts x hx).2] at this
    · rintro ⟨g1, g2⟩
      obtain ⟨e0, hw⟩ := hK.ok g1
      have hF : Aft c slot w v := by rw [hw]; exact aft hr h0 h1 k0 k1 w _ _ ot_facts
      refine ⟨e0, ((hQ e0).ok ?_).1⟩
      rw [hF.ot q q0 q1, hF.n]
      intro x hx
      rw [hF.cf _ x (ot_facts x hx).1 (ot_facts x hx).2]
      exact g2 x hx
  rw [key1 a0 a1 b0 b1 hA hAB, key1 b0 b1 a0 a1 hB hBA]
  exact And.comm

theorem read_order_ws (hr : c.r = true) (h0 : 0 ≤ slot) (h1 : slot < c.s) {ka kb : Int} (a0 : 0 ≤ ka) (a1 : ka < c.k) (b0 : 0 ≤ kb) (b1 : kb < c.k) {ws wa wab wb wba : Nat → Nat} {ea eb xa xb : Int}
    (hA : Rsum c ka slot ws wa ea) (hAB : Rsum c kb slot wa wab eb) (hB : Rsum c kb slot ws wb xb) (hBA : Rsum c ka slot wb wba xa) (e1 : ea = 0) (e2 : eb = 0) (e3 : xb = 0) (e4 : xa = 0) : wab = wba := by
  have two : ∀ {k q : Int} {w v z : Nat → Nat} {e f : Int}, 0 ≤ k → k < c.k → 0 ≤ q → q < c.k → Rsum c k slot w v e → Rsum c q slot v z f → e = 0 → f = 0 →
      z = layL c 1 0 slot (Pc c slot (w (c.cl 5 slot).toNat) w) (layL c 1 0 slot (Pc c slot (w (c.cl 5 slot).toNat) w) (mkw c 0 q slot (mkw c 0 k slot w)) (othersN (w (c.cl 8 k).toNat) 1 slot)) (othersN (w (c.cl 8 q).toNat) 1 slot) := by
    intro k q w v z e f k0 k1 q0 q1 hK hQ e0 f0
    have hok : ∀ x ∈ othersN (w (c.cl 8 k).toNat) 1 slot, cfl c 1 slot (w (c.cl 5 slot).toNat) w x ≠ 3 := by
      refine Decidable.byContradiction fun r => ?_
      have := (hK.no r).1
      omega
    obtain ⟨_, hw⟩ := hK.ok hok
    have hF : Aft c slot w v := by rw [hw]; exact aft hr h0 h1 k0 k1 w _ _ ot_facts
    have hok2 : ∀ x ∈ othersN (v (c.cl 8 q).toNat) 1 slot, cfl c 1 slot (v (c.cl 5 slot).toNat) v x ≠ 3 := by
      refine Decidable.byContradiction fun r => ?_
      have := (hQ.no r).1
      omega
    obtain ⟨_, hz⟩ := hQ.ok hok2
    rw [hz, hF.ot q q0 q1, hF.n, layL_congr (Q := Pc c slot (w (c.cl 5 slot).toNat) w) _ _ (fun x hx => by
      unfold Pc
      rw [hF.cf _ x (ot_facts x hx).1 (ot_facts x hx).2]), hw, ← mkw_layL]
  rw [two a0 a1 b0 b1 hA hAB e1 e2, two b0 b1 a0 a1 hB hBA e3 e4, mkw_comm, layL_comm]

end

end Um

/-
  Plain arithmetic of layer 12: two reads of one key at once, nobody writes it; a key whose writers have all gone. No Go in sight.
-/
namespace Um
set_option maxRecDepth 100000
set_option linter.unusedVariables false

/-- another memory -/
def setR (m : Mm) (o : Rd) : Rd := { o with m := m }

/-- a word of two readers: no writers -/
theorem no_others : ∀ w : Nat, w < 4 → ∀ s : Int, othersN w 1 s = [] := by
  intro w hw s
  have h : slotsN w 1 = [] := by
    match w, hw with
    | 0, _ => decide +kernel
    | 1, _ => decide +kernel
    | 2, _ => decide +kernel
    | 3, _ => decide +kernel
  unfold othersN
  rw [h]
  rfl

theorem mark_lt : ∀ w : Nat, w < 4 → ∀ i : Int, i = 0 ∨ i = 1 → withN w 0 i < 4 ∧ hasN (withN w 0 i) 0 i = true ∧ (∀ j : Int, j = 0 ∨ j = 1 → hasN w 0 j = true → hasN (withN w 0 i) 0 j = true) := by
  intro w hw i hi
  have h : ∀ w, w < 4 → (withN w 0 0 < 4 ∧ withN w 0 1 < 4) := by decide +kernel
  refine ⟨?_, ?_, fun j _ hj => has_stay 0 i hj⟩
  · rcases hi with rfl | rfl
    · exact (h w hw).1
    · exact (h w hw).2
  · rw [hasN_with]
    rcases hi with rfl | rfl <;> decide

/-- one of two that read at once: K the key's word, S its own status -/
structure Sr (i : Int) (K S : Nat) (o : Rd) : Prop where
  nx : o.nx = 0 ∨ o.nx = 1 ∨ o.nx = 2 ∨ o.nx = 3 ∨ o.nx = 6
  a0 : o.nx = 0 → o.dn = false ∧ S = actW ∧ o.g.en = false ∧ o.g.e = 0 ∧ (o.g.tk = true → o.g.s = actW)
  a1 : o.nx = 1 ∨ o.nx = 2 ∨ o.nx = 3 → o.dn = false ∧ S = busW ∧ o.e = 0
  a3 : o.nx = 3 → o.w < 4 ∧ hasN o.w 0 i = false
  a6 : o.nx = 6 → o.dn = false → S = busW ∧ o.lp = -1 ∧ o.td = 0 ∧ o.l.dn = false ∧ (o.l.lk = true → o.l.s = busW)
  ad : o.dn = true → S = actW ∧ o.e = 0
  k6 : o.nx = 6 → hasN K 0 i = true

theorem Sr.at {i : Int} {K S : Nat} {o : Rd} (h : Sr i K S o) (m : Mm) : Sr i K S (setR m o) := ⟨h.nx, h.a0, h.a1, h.a3, h.a6, h.ad, h.k6⟩

theorem Sr.key {i : Int} {K K' S : Nat} {o : Rd} (h : Sr i K S o) (hk : hasN K 0 i = true → hasN K' 0 i = true) : Sr i K' S o := ⟨h.nx, h.a0, h.a1, h.a3, h.a6, h.ad, fun q => hk (h.k6 q)⟩

theorem sr_new (i : Int) (K : Nat) (m : Mm) : Sr i K actW (rdnew m) :=
  ⟨.inl rfl, fun _ => ⟨rfl, rfl, rfl, rfl, (fun q => by cases q)⟩, (fun q => by rcases q with q | q | q <;> cases q), (fun q => by cases q), (fun q => by cases q), (fun q => by cases q), (fun q => by cases q)⟩

/-- begins to leave: behind what was found -/
theorem sr_found {i : Int} {K : Nat} {o : Rd} (hw : o.w < 4) (hd : o.dn = false) (he : o.e = 0) (hk : hasN K 0 i = true) : Sr i K busW (rdfd i o) := by
  have e : rdfd i o = rdlv { o with ot := [] } (-1) 0 := by
    unfold rdfd
    rw [no_others o.w hw i]
    rfl
  rw [e]
  exact ⟨.inr (.inr (.inr (.inr rfl))), (fun q => by cases q), (fun q => by rcases q with q | q | q <;> cases q), (fun q => by cases q), fun _ _ => ⟨rfl, rfl, rfl, rfl, (fun q => by cases q)⟩, (fun q => by rw [show (rdlv { o with ot := [] } (-1) 0).dn = o.dn from rfl, hd] at q; cases q), fun _ => hk⟩

section
variable {c : Cf} {h : Nat} {inn : Nat → Bool} {i : Int}

/-- how far it is from its end -/
def muR (c : Cf) (o : Rd) : Nat :=
  if o.dn = true then 0 else if o.nx = 0 then (if o.g.tk = true then 11 else 12) else if o.nx = 1 then 10 else if o.nx = 2 then 8 else if o.nx = 3 then (if o.m.ws (c.cl 8 0).toNat = o.w then 7 else 9) else (if o.l.lk = true then 3 else 4)

theorem mu_found {c : Cf} {i : Int} {o : Rd} (hw : o.w < 4) (hd : o.dn = false) : muR c (rdfd i o) = 4 := by
  have e : rdfd i o = rdlv { o with ot := [] } (-1) 0 := by
    unfold rdfd
    rw [no_others o.w hw i]
    rfl
  rw [e]
  simp [muR, rdlv, hd, lnew]

/-- what a step does to the words: the key's stays below 4 and loses no reader, another one's status stays -/
structure Moved (c : Cf) (i : Int) (m M : Mm) : Prop where
  k : M.ws (c.cl 8 0).toNat < 4
  kk : ∀ j : Int, j = 0 ∨ j = 1 → hasN (m.ws (c.cl 8 0).toNat) 0 j = true → hasN (M.ws (c.cl 8 0).toNat) 0 j = true
  st : ∀ j : Int, 0 ≤ j → j < c.s → j ≠ i → M.ws (c.cl 4 j).toNat = m.ws (c.cl 4 j).toNat

theorem moved_same {m M : Mm} (hk : m.ws (c.cl 8 0).toNat < 4) (e : M.ws = m.ws) : Moved c i m M := ⟨by rw [e]; exact hk, fun j _ q => by rw [e]; exact q, fun j _ _ _ => by rw [e]⟩

theorem moved_st (hr : c.r = true) (i0 : 0 ≤ i) (i1 : i < c.s) {m M : Mm} (hk : m.ws (c.cl 8 0).toNat < 4) (e : ∀ q : Nat, (q : Int) ≠ c.cl 4 i → M.ws q = m.ws q) : Moved c i m M := by
  have hb := c.rb hr
  obtain ⟨k1, k2, _⟩ := key_cells hr (key := 0) i0 i1 (by decide) (by omega)
  have ek : M.ws (c.cl 8 0).toNat = m.ws (c.cl 8 0).toNat := e _ (by omega)
  refine ⟨by rw [ek]; exact hk, fun j _ q => by rw [ek]; exact q, fun j j0 j1 hj => e _ ?_⟩
  rw [cl_nat hr j0 j1]
  exact cl4_ne hr j0 j1 i0 i1 hj

theorem sr_step (hr : c.r = true) (hn : ook h c.s = true) (hg : tgN h = 0) (hs : svN h = i) (hi : i = 0 ∨ i = 1) (h2 : inn 2 = true) {o : Rd} (hk : o.m.ws (c.cl 8 0).toNat < 4) (hS : Sr i (o.m.ws (c.cl 8 0).toNat) (o.m.ws (c.cl 4 i).toNat) o) :
    Sr i ((rdstep c h inn 0 i o).m.ws (c.cl 8 0).toNat) ((rdstep c h inn 0 i o).m.ws (c.cl 4 i).toNat) (rdstep c h inn 0 i o) ∧ Moved c i o.m (rdstep c h inn 0 i o).m ∧ (o.dn = false → muR c (rdstep c h inn 0 i o) < muR c o) := by
  obtain ⟨f0, f1, _⟩ := ook_facts hn
  rw [hs] at f0 f1
  have hb := c.rb hr
  have hcn := cl_nat hr f0 f1
  obtain ⟨k1, k2, k3, _⟩ := key_cells hr (key := 0) f0 f1 (by decide) (by omega)
  have ekn : (((c.cl 8 0).toNat : Nat) : Int) = c.cl 8 0 := by omega
  obtain ⟨_, _, _, _, _, _, hne, _⟩ := w_facts
  cases hd : o.dn with
  | true => rw [rdstep_done hd]; exact ⟨hS, moved_same hk rfl, (fun q => by cases q)⟩
  | false =>
    rcases hS.nx with hx | hx | hx | hx | hx
    · -- entering
      obtain ⟨_, a2, a3, a4, a5⟩ := hS.a0 hx
      rw [step0 hd hx]
      cases ht : o.g.tk with
      | false =>
        have hl : estep c h inn (setE o.m o.g) = _ := estep_look hr (inn := inn) (o := setE o.m o.g) hn a3 ht
        rw [hs] at hl
        have hw : (setE o.m o.g).m.ws (c.cl 4 i).toNat = actW := a2
        rw [hw, fl_w0 hg h2] at hl
        have e : rd0 o (estep c h inn (setE o.m o.g)) = { o with m := mtouch c o.m 1 4 i 0 0, g := ⟨mtouch c o.m 1 4 i 0 0, true, actW, o.g.w, 0, false⟩ } := by
          rw [hl]
          unfold rd0
          rw [if_neg (fun q => by cases q)]
          rfl
        rw [e]
        have ew : (mtouch c o.m 1 4 i 0 0).ws = o.m.ws := load_ws c o.m 4 i
        refine ⟨?_, moved_same hk ew, fun _ => by simp [muR, hd, hx, ht]⟩
        show Sr i ((mtouch c o.m 1 4 i 0 0).ws _) ((mtouch c o.m 1 4 i 0 0).ws _) _
        rw [ew]
        exact ⟨hS.nx, fun _ => ⟨hd, a2, rfl, rfl, fun _ => rfl⟩, hS.a1, hS.a3, hS.a6, hS.ad, hS.k6⟩
      | true =>
        have hl : estep c h inn (setE o.m o.g) = _ := estep_take hr (inn := inn) (o := setE o.m o.g) hn a3 ht
        rw [hs] at hl
        have hgs : o.g.s = actW := a5 ht
        have hw : (setE o.m o.g).m.ws (c.cl 4 i).toNat = (setE o.m o.g).s := by show o.m.ws _ = o.g.s; rw [a2, hgs]
        rw [if_pos hw, decide_eq_true hw] at hl
        have e : rd0 o (estep c h inn (setE o.m o.g)) = { o with m := mtouch c o.m 3 4 i o.g.s (bzN o.g.s), g := ⟨mtouch c o.m 3 4 i o.g.s (bzN o.g.s), false, o.g.s, bzN o.g.s, o.g.e, true⟩, nx := 1, e := o.g.e, dn := decide (o.g.e ≠ 0) } := by
          rw [hl]
          unfold rd0
          rw [if_pos rfl]
          rfl
        rw [e, a4]
        have ew : ∀ q : Nat, (q : Int) ≠ c.cl 4 i → (mtouch c o.m 3 4 i o.g.s (bzN o.g.s)).ws q = o.m.ws q := fun q hq => by rw [swap_ws, if_neg (fun z => hq z.1)]
        have eo : (mtouch c o.m 3 4 i o.g.s (bzN o.g.s)).ws (c.cl 4 i).toNat = busW := by rw [swap_ws, if_pos ⟨hcn, hw⟩, hgs]; rfl
        refine ⟨?_, moved_st hr f0 f1 hk ew, fun _ => by simp [muR, hd, hx, ht]⟩
        show Sr i ((mtouch c o.m 3 4 i o.g.s (bzN o.g.s)).ws (c.cl 8 0).toNat) ((mtouch c o.m 3 4 i o.g.s (bzN o.g.s)).ws (c.cl 4 i).toNat) _
        rw [eo]
        exact ⟨.inr (.inl rfl), (fun q => by cases q), fun _ => ⟨rfl, rfl, rfl⟩, (fun q => by cases q), (fun q => by cases q), (fun q => by cases q), (fun q => by cases q)⟩
    · -- snapshot
      obtain ⟨_, a2, a3⟩ := hS.a1 (.inl hx)
      rw [step1 hd hx]
      have ew : (mtouch c o.m 1 5 i 0 0).ws = o.m.ws := load_ws c o.m 5 i
      refine ⟨?_, moved_same hk ew, fun _ => by simp [muR, rd1, hd, hx]⟩
      show Sr i ((mtouch c o.m 1 5 i 0 0).ws _) ((mtouch c o.m 1 5 i 0 0).ws _) _
      rw [ew, a2]
      exact ⟨.inr (.inr (.inl rfl)), (fun q => by cases q), fun _ => ⟨hd, rfl, a3⟩, (fun q => by cases q), (fun q => by cases q), (fun q => by rw [show (rd1 o (mtouch c o.m 1 5 i 0 0)).dn = o.dn from rfl, hd] at q; cases q), (fun q => by cases q)⟩
    · -- look
      obtain ⟨_, a2, a3⟩ := hS.a1 (.inr (.inl hx))
      rw [step2 hd hx]
      have ew : (mtouch c o.m 1 8 0 0 0).ws = o.m.ws := load_ws c o.m 8 0
      have eo : (mtouch c o.m 1 8 0 0 0).l.old = o.m.ws (c.cl 8 0).toNat := by rw [load_old, if_pos (by omega)]
      unfold rd2
      by_cases hh : hasN (mtouch c o.m 1 8 0 0 0).l.old 0 i = true
      · rw [if_pos hh]
        have em : (rdfd i { o with m := mtouch c o.m 1 8 0 0 0, w := (mtouch c o.m 1 8 0 0 0).l.old, nx := 3 }).m = mtouch c o.m 1 8 0 0 0 := by
          unfold rdfd
          rw [no_others _ (show (mtouch c o.m 1 8 0 0 0).l.old < 4 by rw [eo]; exact hk) i]
          rfl
        rw [em, mu_found (c := c) (i := i) (o := { o with m := mtouch c o.m 1 8 0 0 0, w := (mtouch c o.m 1 8 0 0 0).l.old, nx := 3 }) (show (mtouch c o.m 1 8 0 0 0).l.old < 4 by rw [eo]; exact hk) hd]
        refine ⟨?_, moved_same hk ew, fun _ => by simp [muR, hd, hx]⟩
        rw [ew, a2]
        refine sr_found (by show (mtouch c o.m 1 8 0 0 0).l.old < 4; rw [eo]; exact hk) hd a3 (by rw [← eo]; exact hh)
      · rw [if_neg hh]
        refine ⟨?_, moved_same hk ew, fun _ => by simp [muR, hd, hx, ew, eo]⟩
        show Sr i ((mtouch c o.m 1 8 0 0 0).ws _) ((mtouch c o.m 1 8 0 0 0).ws _) _
        rw [ew, a2]
        exact ⟨.inr (.inr (.inr (.inl rfl))), (fun q => by cases q), fun _ => ⟨hd, rfl, a3⟩, fun _ => ⟨by show (mtouch c o.m 1 8 0 0 0).l.old < 4; rw [eo]; exact hk, by simpa using hh⟩, (fun q => by cases q), (fun q => by rw [show ({ o with m := mtouch c o.m 1 8 0 0 0, w := (mtouch c o.m 1 8 0 0 0).l.old, nx := 3 } : Rd).dn = o.dn from rfl, hd] at q; cases q), (fun q => by cases q)⟩
    · -- mark
      obtain ⟨_, a2, a3⟩ := hS.a1 (.inr (.inr hx))
      obtain ⟨w4, wh⟩ := hS.a3 hx
      rw [step3 hd hx]
      have hdn : (mtouch c o.m 3 8 0 o.w (withN o.w 0 i)).l.done = decide (o.m.ws (c.cl 8 0).toNat = o.w) := by
        rw [swap_done]
        by_cases e : o.m.ws (c.cl 8 0).toNat = o.w
        · rw [decide_eq_true e, decide_eq_true ⟨by omega, e⟩]
        · rw [decide_eq_false e, decide_eq_false (fun q => e q.2)]
      have ew : ∀ q : Nat, (q : Int) ≠ c.cl 8 0 → (mtouch c o.m 3 8 0 o.w (withN o.w 0 i)).ws q = o.m.ws q := fun q hq => by rw [swap_ws, if_neg (fun z => hq z.1)]
      have est : ∀ j : Int, 0 ≤ j → j < c.s → (mtouch c o.m 3 8 0 o.w (withN o.w 0 i)).ws (c.cl 4 j).toNat = o.m.ws (c.cl 4 j).toNat := fun j j0 j1 => ew _ (by rw [cl_nat hr j0 j1]; exact (key_other hr j0 j1 (by decide) (by omega)).1)
      unfold rd3
      rw [hdn]
      by_cases e : o.m.ws (c.cl 8 0).toNat = o.w
      · rw [decide_eq_true e, if_pos rfl]
        obtain ⟨b1, b2, b3⟩ := mark_lt o.w w4 i hi
        have ek : (mtouch c o.m 3 8 0 o.w (withN o.w 0 i)).ws (c.cl 8 0).toNat = withN o.w 0 i := by rw [swap_ws, if_pos ⟨ekn, e⟩]
        have em : (rdfd i { o with m := mtouch c o.m 3 8 0 o.w (withN o.w 0 i), nx := 2 }).m = mtouch c o.m 3 8 0 o.w (withN o.w 0 i) := by
          unfold rdfd
          rw [no_others _ (show o.w < 4 from w4) i]
          rfl
        rw [em, mu_found (c := c) (i := i) (o := { o with m := mtouch c o.m 3 8 0 o.w (withN o.w 0 i), nx := 2 }) (show o.w < 4 from w4) hd]
        refine ⟨?_, ⟨by rw [ek]; exact b1, fun j hj q => by rw [ek]; rw [e] at q; exact b3 j hj q, fun j j0 j1 _ => est j j0 j1⟩, fun _ => by simp [muR, hd, hx, e]⟩
        rw [ek, est i f0 f1, a2]
        exact sr_found w4 hd a3 b2
      · rw [decide_eq_false e, if_neg (by decide)]
        have ek : (mtouch c o.m 3 8 0 o.w (withN o.w 0 i)).ws (c.cl 8 0).toNat = o.m.ws (c.cl 8 0).toNat := by rw [swap_ws, if_neg (fun q => e q.2)]
        refine ⟨?_, ⟨by show (mtouch c o.m 3 8 0 o.w (withN o.w 0 i)).ws _ < 4; rw [ek]; exact hk, fun j hj q => by show hasN ((mtouch c o.m 3 8 0 o.w (withN o.w 0 i)).ws _) 0 j = true; rw [ek]; exact q, fun j j0 j1 _ => est j j0 j1⟩, fun _ => by simp [muR, hd, hx, e]⟩
        show Sr i ((mtouch c o.m 3 8 0 o.w (withN o.w 0 i)).ws _) ((mtouch c o.m 3 8 0 o.w (withN o.w 0 i)).ws _) _
        rw [ek, est i f0 f1, a2]
        exact ⟨.inr (.inr (.inl rfl)), (fun q => by cases q), fun _ => ⟨hd, rfl, a3⟩, (fun q => by cases q), (fun q => by cases q), (fun q => by rw [show ({ o with m := mtouch c o.m 3 8 0 o.w (withN o.w 0 i), nx := 2 } : Rd).dn = o.dn from rfl, hd] at q; cases q), (fun q => by cases q)⟩
    · -- leaving
      obtain ⟨a2, a3, a4, a5, a6⟩ := hS.a6 hx hd
      have hkh := hS.k6 hx
      rw [step6 hd hx, a3]
      cases hl : o.l.lk with
      | false =>
        have el : lstep c i (-1) (setLs o.m o.l) = _ := lstep_look hr (st := -1) (o := setLs o.m o.l) f0 f1 a5 hl
        have hw : (setLs o.m o.l).m.ws (c.cl 4 i).toNat = busW := a2
        rw [hw] at el
        have e : rd6 o (lstep c i (-1) (setLs o.m o.l)) = { o with m := mtouch c o.m 1 4 i 0 0, l := ⟨mtouch c o.m 1 4 i 0 0, true, busW, false⟩ } := by
          rw [el]
          unfold rd6
          rw [if_neg (fun q => by cases q)]
          rfl
        rw [e]
        have ew : (mtouch c o.m 1 4 i 0 0).ws = o.m.ws := load_ws c o.m 4 i
        refine ⟨?_, moved_same hk ew, fun _ => by simp [muR, hd, hx, hl]⟩
        show Sr i ((mtouch c o.m 1 4 i 0 0).ws _) ((mtouch c o.m 1 4 i 0 0).ws _) _
        rw [ew]
        exact ⟨hS.nx, hS.a0, hS.a1, hS.a3, fun _ _ => ⟨a2, a3, a4, rfl, fun _ => rfl⟩, hS.ad, hS.k6⟩
      | true =>
        have hls : o.l.s = busW := a6 hl
        have el : lstep c i (-1) (setLs o.m o.l) = _ := lstep_lay hr (st := -1) (o := setLs o.m o.l) f0 f1 a5 hl
        have hw : (setLs o.m o.l).m.ws (c.cl 4 i).toNat = (setLs o.m o.l).s := by show o.m.ws _ = o.l.s; rw [a2, hls]
        rw [decide_eq_true hw] at el
        have hs2 : (setLs o.m o.l).s = busW := hls
        have hmv : moveN busW (lst (-1) busW) false = actW := by decide +kernel
        rw [hs2, hmv] at el
        have e : rd6 o (lstep c i (-1) (setLs o.m o.l)) = { o with m := mtouch c o.m 3 4 i busW actW, l := ⟨mtouch c o.m 3 4 i busW actW, false, busW, true⟩, dn := true, e := o.td } := by
          rw [el]
          unfold rd6
          rw [if_pos rfl]
          rfl
        rw [e]
        have ew : ∀ q : Nat, (q : Int) ≠ c.cl 4 i → (mtouch c o.m 3 4 i busW actW).ws q = o.m.ws q := fun q hq => by rw [swap_ws, if_neg (fun z => hq z.1)]
        have eo : (mtouch c o.m 3 4 i busW actW).ws (c.cl 4 i).toNat = actW := by rw [swap_ws, if_pos ⟨hcn, a2⟩]
        have ek : (mtouch c o.m 3 4 i busW actW).ws (c.cl 8 0).toNat = o.m.ws (c.cl 8 0).toNat := ew _ (by omega)
        refine ⟨?_, moved_st hr f0 f1 hk ew, fun _ => by simp [muR, hd, hx, hl]⟩
        show Sr i ((mtouch c o.m 3 4 i busW actW).ws (c.cl 8 0).toNat) ((mtouch c o.m 3 4 i busW actW).ws (c.cl 4 i).toNat) _
        rw [eo, ek]
        exact ⟨.inr (.inr (.inr (.inr hx))), (fun q => by rw [show ({ o with m := mtouch c o.m 3 4 i busW actW, l := ⟨mtouch c o.m 3 4 i busW actW, false, busW, true⟩, dn := true, e := o.td } : Rd).nx = o.nx from rfl, hx] at q; cases q), (fun q => by rw [show ({ o with m := mtouch c o.m 3 4 i busW actW, l := ⟨mtouch c o.m 3 4 i busW actW, false, busW, true⟩, dn := true, e := o.td } : Rd).nx = o.nx from rfl, hx] at q; rcases q with q | q | q <;> cases q), (fun q => by rw [show ({ o with m := mtouch c o.m 3 4 i busW actW, l := ⟨mtouch c o.m 3 4 i busW actW, false, busW, true⟩, dn := true, e := o.td } : Rd).nx = o.nx from rfl, hx] at q; cases q), fun _ q => (by cases q), fun _ => ⟨rfl, a4⟩, fun _ => hkh⟩

/-- two reads, over one memory: the other one's side stays -/
theorem sr_other (hr : c.r = true) {j : Int} (hi : i = 0 ∨ i = 1) (hj : j = 0 ∨ j = 1) (hij : j ≠ i) (j1 : j < c.s) {m M : Mm} {b : Rd} (hM : Moved c i m M) (hB : Sr j (m.ws (c.cl 8 0).toNat) (m.ws (c.cl 4 j).toNat) b) : Sr j (M.ws (c.cl 8 0).toNat) (M.ws (c.cl 4 j).toNat) b := by
  rw [hM.st j (by omega) j1 hij]
  exact hB.key (hM.kk j hj)

theorem sr_ends (hr : c.r = true) (hn : ook h c.s = true) (hg : tgN h = 0) (hs : svN h = i) (hi : i = 0 ∨ i = 1) (h2 : inn 2 = true) {o : Rd} (hk : o.m.ws (c.cl 8 0).toNat < 4) (hS : Sr i (o.m.ws (c.cl 8 0).toNat) (o.m.ws (c.cl 4 i).toNat) o) {k : Nat} (hk2 : 12 ≤ k) (A : Rd) (hA : A = rdit c h inn 0 i o k) :
    Sr i (A.m.ws (c.cl 8 0).toNat) (A.m.ws (c.cl 4 i).toNat) A ∧ A.dn = true ∧ Moved c i o.m A.m := by
  have main : ∀ k, Sr i ((rdit c h inn 0 i o k).m.ws (c.cl 8 0).toNat) ((rdit c h inn 0 i o k).m.ws (c.cl 4 i).toNat) (rdit c h inn 0 i o k) ∧ Moved c i o.m (rdit c h inn 0 i o k).m ∧ (muR c (rdit c h inn 0 i o k) + k ≤ muR c o ∨ (rdit c h inn 0 i o k).dn = true) := by
    intro k
    induction k with
    | zero => exact ⟨hS, moved_same hk rfl, .inl (Nat.le_refl _)⟩
    | succ k ih =>
      obtain ⟨i1, i2, i3⟩ := ih
      obtain ⟨s1, s2, s3⟩ := sr_step hr hn hg hs hi h2 i2.k i1
      refine ⟨s1, ⟨s2.k, fun j hj q => s2.kk j hj (i2.kk j hj q), fun j j0 j1 hj => (s2.st j j0 j1 hj).trans (i2.st j j0 j1 hj)⟩, ?_⟩
      cases he : (rdit c h inn 0 i o k).dn with
      | true =>
        right
        show (rdstep c h inn 0 i (rdit c h inn 0 i o k)).dn = true
        rw [rdstep_done he]
        exact he
      | false =>
        rcases i3 with i3 | i3
        · have := s3 he
          left
          show muR c (rdstep c h inn 0 i (rdit c h inn 0 i o k)) + (k + 1) ≤ _
          omega
        · rw [he] at i3; cases i3
  obtain ⟨h1, h3, h4⟩ := main k
  rw [hA]
  refine ⟨h1, ?_, h3⟩
  rcases h4 with h4 | h4
  · cases hd : (rdit c h inn 0 i o k).dn with
    | true => rfl
    | false =>
      exfalso
      have hle : muR c o ≤ 12 := by
        unfold muR
        (repeat' split) <;> omega
      have hpos : 1 ≤ muR c (rdit c h inn 0 i o k) := by
        unfold muR
        rw [if_neg (by rw [hd]; decide)]
        (repeat' split) <;> omega
      omega
  · exact h4

end

end Um

/-
  Plain arithmetic of layer 12: a read's words are words, whoever writes meanwhile; how it begins. No Go in sight.
-/
namespace Um
set_option maxRecDepth 100000

/-- a read is right over whatever words -/
structure RokW (c : Cf) (o : Rd) : Prop where
  g : EokW c o.g
  j : JokW c o.j
  v : LokW c o.o
  l : LokW c o.l
  w : Word o.w
  jp : 0 ≤ o.jp ∧ o.jp ≤ 11
  op : 0 ≤ o.op ∧ o.op ≤ 11
  ot : ∀ x ∈ o.ot, 0 ≤ x ∧ x ≤ 11
  nx : o.nx ≤ 6
  ne : o.nx = 4 ∨ o.nx = 5 → o.ot ≠ []
  hd : o.nx = 4 → o.ot.head? = some o.jp
  he : o.nx = 5 → o.ot.head? = some o.op
  jr : o.nx = 4 → o.dn = false → o.j.r = 0
  e0 : o.dn = false → o.e = 0

structure Rok (c : Cf) (o : Rd) : Prop where
  wd : ∀ i, i < c.n → Word (o.m.ws i)
  k : RokW c o

section
variable {c : Cf} {h : Nat} {inn : Nat → Bool} {key slot : Int}

theorem RokW.at {o : Rd} (k : RokW c o) (m : Mm) : RokW c (setR m o) := ⟨k.g, k.j, k.v, k.l, k.w, k.jp, k.op, k.ot, k.nx, k.ne, k.hd, k.he, k.jr, k.e0⟩

theorem Rok.of {o : Rd} (k : RokW c o) {m : Mm} (hm : ∀ i, i < c.n → Word (m.ws i)) : Rok c (setR m o) := ⟨hm, k.at m⟩

/-- what is left of a read, its next step aside -/
structure RokL (c : Cf) (o : Rd) : Prop where
  g : EokW c o.g
  j : JokW c o.j
  v : LokW c o.o
  l : LokW c o.l
  w : Word o.w
  jp : 0 ≤ o.jp ∧ o.jp ≤ 11
  op : 0 ≤ o.op ∧ o.op ≤ 11
  ot : ∀ x ∈ o.ot, 0 ≤ x ∧ x ≤ 11
  e : o.e = 0

theorem rok_lv {o : Rd} (k : RokL c o) (hm : ∀ i, i < c.n → Word (o.m.ws i)) (st td : Int) : Rok c (rdlv o st td) :=
  ⟨hm, ⟨k.g, k.j, k.v, (lnew_ok hm).okw, k.w, k.jp, k.op, k.ot, (show 6 ≤ 6 by decide), (fun q => by rcases q with q | q <;> cases q), (fun q => by cases q), (fun q => by cases q), (fun q => by cases q), fun _ => k.e⟩⟩

theorem rok_go {o : Rd} (k : RokL c o) (hm : ∀ i, i < c.n → Word (o.m.ws i)) : Rok c (rdgo o) := by
  unfold rdgo
  match ho : o.ot with
  | [] => exact ⟨hm, ⟨k.g, k.j, k.v, (lnew_ok hm).okw, k.w, k.jp, k.op, k.ot, (show 6 ≤ 6 by decide), (fun q => by rcases q with q | q <;> cases q), (fun q => by cases q), (fun q => by cases q), (fun q => by cases q), fun _ => k.e⟩⟩
  | x :: r =>
    have hx := k.ot x (by rw [ho]; exact List.mem_cons_self)
    have hot := k.ot
    exact ⟨hm, ⟨k.g, (jnew_ok hm).okw, k.v, k.l, k.w, hx, k.op, (by rw [ho] at hot; exact hot), (show 4 ≤ 6 by decide), (fun _ => List.cons_ne_nil _ _), (fun _ => rfl), (fun q => by cases q), (fun _ _ => rfl), fun _ => k.e⟩⟩

theorem tail_mem {L : List Int} {P : Int → Prop} (h : ∀ x ∈ L, P x) : ∀ x ∈ L.tail, P x := fun x hx => h x (List.mem_of_mem_tail hx)

theorem rok_step {o : Rd} (ho : Rok c o) : Rok c (rdstep c h inn key slot o) := by
  obtain ⟨hm, k⟩ := ho
  cases hd : o.dn with
  | true => rw [rdstep_done hd]; exact ⟨hm, k⟩
  | false =>
    have e0 := k.e0 hd
    have hn := k.nx
    have kl : RokL c o := ⟨k.g, k.j, k.v, k.l, k.w, k.jp, k.op, k.ot, e0⟩
    rcases (by omega : o.nx = 0 ∨ o.nx = 1 ∨ o.nx = 2 ∨ o.nx = 3 ∨ o.nx = 4 ∨ o.nx = 5 ∨ o.nx = 6) with q | q | q | q | q | q | q
    · rw [step0 hd q]
      have hG := estep_ok (h := h) (inn := inn) (k.g o.m hm)
      generalize estep c h inn (setE o.m o.g) = G at hG
      unfold rd0
      split
      · exact ⟨hG.wd, ⟨hG.okw, k.j, k.v, k.l, k.w, k.jp, k.op, k.ot, (show 1 ≤ 6 by decide), (fun q => by rcases q with q | q <;> cases q), (fun q => by cases q), (fun q => by cases q), (fun q => by cases q), fun q => by simpa using of_decide_eq_false q⟩⟩
      · exact ⟨hG.wd, ⟨hG.okw, k.j, k.v, k.l, k.w, k.jp, k.op, k.ot, k.nx, k.ne, k.hd, k.he, k.jr, k.e0⟩⟩
    · rw [step1 hd q]
      exact ⟨word_touch hm zero_word, ⟨k.g, k.j, k.v, k.l, k.w, k.jp, k.op, k.ot, (show 2 ≤ 6 by decide), (fun q => by rcases q with q | q <;> cases q), (fun q => by cases q), (fun q => by cases q), (fun q => by cases q), k.e0⟩⟩
    · rw [step2 hd q]
      have hM : ∀ i, i < c.n → Word ((mtouch c o.m 1 8 key 0 0).ws i) := word_touch hm zero_word
      have hW : Word (mtouch c o.m 1 8 key 0 0).l.old := old_word hm
      generalize mtouch c o.m 1 8 key 0 0 = M at hM hW
      unfold rd2
      split
      · exact rok_go ⟨k.g, k.j, k.v, k.l, hW, k.jp, k.op, (fun x hx => ⟨(others_mem hx).1, (others_mem hx).2.1⟩), e0⟩ hM
      · exact ⟨hM, ⟨k.g, k.j, k.v, k.l, hW, k.jp, k.op, k.ot, (show 3 ≤ 6 by decide), (fun q => by rcases q with q | q <;> cases q), (fun q => by cases q), (fun q => by cases q), (fun q => by cases q), k.e0⟩⟩
    · rw [step3 hd q]
      have hM : ∀ i, i < c.n → Word ((mtouch c o.m 3 8 key o.w (withN o.w 0 slot)).ws i) := word_touch hm (with_word k.w _ _)
      generalize mtouch c o.m 3 8 key o.w (withN o.w 0 slot) = M at hM
      unfold rd3
      split
      · exact rok_go ⟨k.g, k.j, k.v, k.l, k.w, k.jp, k.op, (fun x hx => ⟨(others_mem hx).1, (others_mem hx).2.1⟩), e0⟩ hM
      · exact ⟨hM, ⟨k.g, k.j, k.v, k.l, k.w, k.jp, k.op, k.ot, (show 2 ≤ 6 by decide), (fun q => by rcases q with q | q <;> cases q), (fun q => by cases q), (fun q => by cases q), (fun q => by cases q), k.e0⟩⟩
    · rw [step4 hd q]
      have hJ := jstep_ok (sl := o.jp) (sd := 1) (b := slot) (sn := o.n) (k.j o.m hm)
      generalize jstep c o.jp 1 slot o.n (setJ o.m o.j) = J at hJ
      unfold rd4
      have hJr := hJ.r
      split
      · exact rok_go ⟨k.g, hJ.okw, k.v, k.l, k.w, k.jp, k.op, tail_mem k.ot, e0⟩ hJ.wd
      · split
        · exact ⟨hJ.wd, ⟨k.g, hJ.okw, (lnew_ok hJ.wd).okw, k.l, k.w, k.jp, k.jp, k.ot, (show 5 ≤ 6 by decide), (fun _ => k.ne (.inl q)), (fun q => by cases q), (fun _ => k.hd q), (fun q => by cases q), k.e0⟩⟩
        · split
          · exact rok_lv (o := { o with m := J.m, j := J }) ⟨k.g, hJ.okw, k.v, k.l, k.w, k.jp, k.op, k.ot, e0⟩ hJ.wd 5 7
          · exact ⟨hJ.wd, ⟨k.g, hJ.okw, k.v, k.l, k.w, k.jp, k.op, k.ot, k.nx, k.ne, k.hd, k.he, (fun _ _ => by show J.r = 0; omega), k.e0⟩⟩
    · rw [step5 hd q]
      have hL := wstep_ok (sl := slot) (sd := 0) (b := o.op) (k.v o.m hm)
      generalize wstep c slot 0 o.op (setLs o.m o.o) = V at hL
      unfold rd5
      split
      · exact rok_go ⟨k.g, k.j, hL.okw, k.l, k.w, k.jp, k.op, tail_mem k.ot, e0⟩ hL.wd
      · exact ⟨hL.wd, ⟨k.g, k.j, hL.okw, k.l, k.w, k.jp, k.op, k.ot, k.nx, k.ne, k.hd, k.he, k.jr, k.e0⟩⟩
    · rw [step6 hd q]
      have hL := lstep_ok (sl := slot) (st := o.lp) (k.l o.m hm)
      generalize lstep c slot o.lp (setLs o.m o.l) = V at hL
      unfold rd6
      split
      · exact ⟨hL.wd, ⟨k.g, k.j, k.v, hL.okw, k.w, k.jp, k.op, k.ot, k.nx, k.ne, k.hd, k.he, (fun _ q => by cases q), fun q => by cases q⟩⟩
      · exact ⟨hL.wd, ⟨k.g, k.j, k.v, hL.okw, k.w, k.jp, k.op, k.ot, k.nx, k.ne, k.hd, k.he, k.jr, k.e0⟩⟩

theorem rok_it {o : Rd} (ho : Rok c o) (k : Nat) : Rok c (rdit c h inn key slot o k) := by
  induction k with
  | zero => exact ho
  | succ k ih => exact rok_step ih

theorem rok_new {m : Mm} (hm : ∀ i, i < c.n → Word (m.ws i)) : Rok c (rdnew m) :=
  ⟨hm, ⟨(enew_ok hm).okw, (jnew_ok hm).okw, (lnew_ok hm).okw, (lnew_ok hm).okw, zero_word, (show (0 : Int) ≤ 0 ∧ (0 : Int) ≤ 11 by decide), (show (0 : Int) ≤ 0 ∧ (0 : Int) ≤ 11 by decide), (fun x hx => by cases hx), (show 0 ≤ 6 by decide), (fun q => by rcases q with q | q <;> cases q), (fun q => by cases q), (fun q => by cases q), (fun q => by cases q), fun _ => rfl⟩⟩

end

/-- how a read of a key, by a ticket, begins -/
def rdbeg (c : Cf) (h : Nat) (key : Int) (m : Mm) : Rd := if key < 0 ∨ c.k ≤ key then { rdnew m with dn := true, e := 5 } else if ook h c.s = true then rdnew m else { rdnew m with dn := true, e := 2 }

theorem rdbeg_m (c : Cf) (h : Nat) (key : Int) (m : Mm) : (rdbeg c h key m).m = m := by
  unfold rdbeg
  split
  · rfl
  · split <;> rfl

theorem rdbeg_key {c : Cf} {h : Nat} {key : Int} {m : Mm} (hk : key < 0 ∨ c.k ≤ key) : rdbeg c h key m = { rdnew m with dn := true, e := 5 } := if_pos hk

theorem rdbeg_no {c : Cf} {h : Nat} {key : Int} {m : Mm} (hk : ¬ (key < 0 ∨ c.k ≤ key)) (hn : ook h c.s = false) : rdbeg c h key m = { rdnew m with dn := true, e := 2 } := by
  unfold rdbeg
  rw [if_neg hk, if_neg (by rw [hn]; decide)]

theorem rdbeg_yes {c : Cf} {h : Nat} {key : Int} {m : Mm} (hk : ¬ (key < 0 ∨ c.k ≤ key)) (hn : ook h c.s = true) : rdbeg c h key m = rdnew m := by
  unfold rdbeg
  rw [if_neg hk, if_pos hn]

theorem rok_beg {c : Cf} {h : Nat} {key : Int} {m : Mm} (hm : ∀ i, i < c.n → Word (m.ws i)) : Rok c (rdbeg c h key m) := by
  have k := (rok_new (c := c) hm).k
  unfold rdbeg
  split
  · exact ⟨hm, ⟨k.g, k.j, k.v, k.l, k.w, k.jp, k.op, k.ot, k.nx, k.ne, k.hd, k.he, (fun q => by cases q), fun q => by cases q⟩⟩
  · split
    · exact ⟨hm, k⟩
    · exact ⟨hm, ⟨k.g, k.j, k.v, k.l, k.w, k.jp, k.op, k.ot, k.nx, k.ne, k.hd, k.he, (fun q => by cases q), fun q => by cases q⟩⟩

end Um
