/-
  Texts that the laws stand on, merged (JoinMath3, Og2, JoinA).
-/
import Derived.Test.YtcpmclidndmgeaaK3
import Derived.Test.YtcpmclidndmgeaaK4
import Derived.Test.YtcpmclidndmgeaaK5
import Derived.Lib.QuietBelow
import Derived.Orders
import Derived.WalkKit

/-
  Plain arithmetic of layer 11: an active status, to which two lay conflicts, and one its own end; laid again. No Go in sight.
-/
namespace Um
set_option maxRecDepth 100000

/-- all three laid -/
def clo (A B : Int) (W : Nat) : Nat := withN (withN (withN W 0 A) 1 B) 0 7

theorem clo_a (A B : Int) (W : Nat) : clo A B (withN W 0 A) = clo A B W := by unfold clo; rw [with_twice]

theorem clo_b (A B : Int) (W : Nat) : clo A B (withN W 1 B) = clo A B W := by
  unfold clo
  rw [with_comm W 1 B 0 A, with_twice]

theorem clo_o (A B : Int) (W : Nat) : clo A B (withN W 0 7) = clo A B W := by
  unfold clo
  rw [with_comm W 0 7 0 A, with_comm (withN W 0 A) 0 7 1 B, with_twice]

/-- one that lays its own end -/
structure Sw (W : Nat) (sd b : Int) (o : Ls) : Prop where
  dn : o.dn = true → withN W sd b = W

theorem Sw.grow {W : Nat} {sd b : Int} {o : Ls} (h : Sw W sd b o) (x y : Int) : Sw (withN W x y) sd b o := ⟨fun q => by rw [with_comm W x y sd b, h.dn q]⟩

theorem Sw.at {W : Nat} {sd b : Int} {o : Ls} (h : Sw W sd b o) (m : Mm) : Sw W sd b (setLs m o) := ⟨h.dn⟩

theorem sw_new (W : Nat) (sd b : Int) (m : Mm) : Sw W sd b (lnew m) := ⟨fun q => by cases q⟩

section
variable {c : Cf} {sl sd b : Int}

theorem wstep_look (hr : c.r = true) (h0 : 0 ≤ sl) (h1 : sl < c.s) {o : Ls} (h2 : o.dn = false) (h3 : o.lk = false) :
    wstep c sl sd b o = ⟨mtouch c o.m 1 4 sl 0 0, true, o.m.ws (c.cl 4 sl).toNat, decide (withN (o.m.ws (c.cl 4 sl).toNat) sd b = o.m.ws (c.cl 4 sl).toNat)⟩ := by
  have hc := (slot_cells hr h0 h1).1
  have hold : (mtouch c o.m 1 4 sl 0 0).l.old = o.m.ws (c.cl 4 sl).toNat := by rw [load_old, if_pos hc]
  unfold wstep
  rw [if_neg (by rw [h2]; decide), if_pos h3, hold]

theorem wstep_lay (hr : c.r = true) (h0 : 0 ≤ sl) (h1 : sl < c.s) {o : Ls} (h2 : o.dn = false) (h3 : o.lk = true) :
    wstep c sl sd b o = ⟨mtouch c o.m 3 4 sl o.s (withN o.s sd b), false, o.s, decide (o.m.ws (c.cl 4 sl).toNat = o.s)⟩ := by
  have hc := (slot_cells hr h0 h1).1
  have hd : (mtouch c o.m 3 4 sl o.s (withN o.s sd b)).l.done = decide (o.m.ws (c.cl 4 sl).toNat = o.s) := by
    rw [swap_done]
    by_cases e : o.m.ws (c.cl 4 sl).toNat = o.s
    · rw [decide_eq_true e, decide_eq_true ⟨hc, e⟩]
    · rw [decide_eq_false e, decide_eq_false (fun q => e q.2)]
  unfold wstep
  rw [if_neg (by rw [h2]; decide), if_neg (by rw [h3]; decide), hd]

theorem sw_step (hr : c.r = true) (h0 : 0 ≤ sl) (h1 : sl < c.s) {o : Ls} {W : Nat} (hW : W = o.m.ws (c.cl 4 sl).toNat) (h : Sw W sd b o) :
    ((wstep c sl sd b o).m.ws (c.cl 4 sl).toNat = W ∨ (wstep c sl sd b o).m.ws (c.cl 4 sl).toNat = withN W sd b) ∧
    Sw ((wstep c sl sd b o).m.ws (c.cl 4 sl).toNat) sd b (wstep c sl sd b o) ∧ (wstep c sl sd b o).m.ws (c.cl 6 sl).toNat = o.m.ws (c.cl 6 sl).toNat := by
  have hc := slot_cells hr h0 h1
  have hne := num_ne hr h0 h1
  cases hdn : o.dn with
  | true =>
    rw [wstep_done hdn, ← hW]
    exact ⟨.inl rfl, h, rfl⟩
  | false =>
    cases hk : o.lk with
    | false =>
      have hws : (mtouch c o.m 1 4 sl 0 0).ws = o.m.ws := load_ws c o.m 4 sl
      rw [wstep_look hr h0 h1 hdn hk]
      refine ⟨.inl (by rw [hW]; exact congrFun hws _), ?_, congrFun hws _⟩
      show Sw ((mtouch c o.m 1 4 sl 0 0).ws _) sd b _
      rw [hws, ← hW]
      exact ⟨fun q => of_decide_eq_true q⟩
    | true =>
      rw [wstep_lay hr h0 h1 hdn hk, ← hW]
      have hnum : (mtouch c o.m 3 4 sl o.s (withN o.s sd b)).ws (c.cl 6 sl).toNat = o.m.ws (c.cl 6 sl).toNat := by
        rw [swap_ws, if_neg (fun q => hne (by have := q.1; omega))]
      by_cases ee : W = o.s
      · have hw' : (mtouch c o.m 3 4 sl o.s (withN o.s sd b)).ws (c.cl 4 sl).toNat = withN W sd b := by
          rw [swap_ws, if_pos ⟨by omega, by rw [← hW]; exact ee⟩, ← ee]
        refine ⟨.inr hw', ?_, hnum⟩
        show Sw ((mtouch c o.m 3 4 sl o.s (withN o.s sd b)).ws _) sd b _
        rw [hw']
        exact ⟨fun _ => with_twice _ _ _⟩
      · have hw' : (mtouch c o.m 3 4 sl o.s (withN o.s sd b)).ws (c.cl 4 sl).toNat = W := by
          rw [swap_ws, if_neg (fun q => ee (by rw [hW]; exact q.2)), hW]
        refine ⟨.inl hw', ?_, hnum⟩
        show Sw ((mtouch c o.m 3 4 sl o.s (withN o.s sd b)).ws _) sd b _
        rw [hw', decide_eq_false ee]
        exact ⟨fun q => by cases q⟩

theorem muW_step (hr : c.r = true) (h0 : 0 ≤ sl) (h1 : sl < c.s) {o : Ls} (hdn : o.dn = false) : muL c sl (wstep c sl sd b o) < muL c sl o := by
  have hm : muL c sl o = if o.lk = true then (if o.m.ws (c.cl 4 sl).toNat = o.s then 1 else 3) else 2 := by
    unfold muL
    rw [if_neg (by rw [hdn]; decide)]
  rw [hm]
  cases hk : o.lk with
  | false =>
    rw [wstep_look hr h0 h1 hdn hk]
    unfold muL
    show (if _ then 0 else if true = true then (if (mtouch c o.m 1 4 sl 0 0).ws (c.cl 4 sl).toNat = o.m.ws (c.cl 4 sl).toNat then 1 else 3) else 2) < _
    have hR : (if false = true then (if o.m.ws (c.cl 4 sl).toNat = o.s then 1 else 3) else 2) = 2 := if_neg (by decide)
    rw [hR, load_ws, if_pos rfl, if_pos rfl]
    split <;> decide
  | true =>
    rw [wstep_lay hr h0 h1 hdn hk]
    unfold muL
    show (if decide (o.m.ws (c.cl 4 sl).toNat = o.s) = true then 0 else 2) < _
    by_cases ee : o.m.ws (c.cl 4 sl).toNat = o.s
    · rw [decide_eq_true ee, if_pos rfl, if_pos rfl, if_pos ee]
      decide
    · rw [decide_eq_false ee, if_neg (by decide), if_pos rfl, if_neg ee]
      decide

end

/-- two joins, and an own end, of one active status; T: it with all three -/
structure Tj (T W : Nat) (A B : Int) (x y : Js) (o : Ls) : Prop where
  st : stN W = 2
  cl : clo A B W = T
  X : Sj W 0 A x
  Y : Sj W 1 B y
  O : Sw W 0 7 o

theorem Tj.at {T W : Nat} {A B : Int} {x y : Js} {o : Ls} (h : Tj T W A B x y o) (m m' m'' : Mm) : Tj T W A B (setJ m x) (setJ m' y) (setLs m'' o) := ⟨h.st, h.cl, h.X.at m, h.Y.at m', h.O.at m''⟩

section
variable {c : Cf} {sl A B : Int} {sn : Nat} {T : Nat} {x y : Js} {o : Ls}

theorem tj_x (hr : c.r = true) (h0 : 0 ≤ sl) (h1 : sl < c.s) (hok : okS 0 A = true) (hp : past (x.m.ws (c.cl 6 sl).toNat) sn = false) (h : Tj T (x.m.ws (c.cl 4 sl).toNat) A B x y o) :
    Tj T ((jstep c sl 0 A sn x).m.ws (c.cl 4 sl).toNat) A B (jstep c sl 0 A sn x) y o ∧ (jstep c sl 0 A sn x).m.ws (c.cl 6 sl).toNat = x.m.ws (c.cl 6 sl).toNat := by
  obtain ⟨g1, g2, g3⟩ := sj_step (sn := sn) hr h0 h1 hok rfl (.inl h.st) hp h.X
  refine ⟨?_, g3⟩
  rcases g1 with e | ⟨e, _⟩
  · rw [e] at g2 ⊢
    exact ⟨h.st, h.cl, g2, h.Y, h.O⟩
  · rw [e] at g2 ⊢
    exact ⟨by rw [st_with]; exact h.st, by rw [clo_a]; exact h.cl, g2, h.Y.grow _ _, h.O.grow _ _⟩

theorem tj_y (hr : c.r = true) (h0 : 0 ≤ sl) (h1 : sl < c.s) (hok : okS 1 B = true) (hp : past (y.m.ws (c.cl 6 sl).toNat) sn = false) (h : Tj T (y.m.ws (c.cl 4 sl).toNat) A B x y o) :
    Tj T ((jstep c sl 1 B sn y).m.ws (c.cl 4 sl).toNat) A B x (jstep c sl 1 B sn y) o ∧ (jstep c sl 1 B sn y).m.ws (c.cl 6 sl).toNat = y.m.ws (c.cl 6 sl).toNat := by
  obtain ⟨g1, g2, g3⟩ := sj_step (sn := sn) hr h0 h1 hok rfl (.inl h.st) hp h.Y
  refine ⟨?_, g3⟩
  rcases g1 with e | ⟨e, _⟩
  · rw [e] at g2 ⊢
    exact ⟨h.st, h.cl, h.X, g2, h.O⟩
  · rw [e] at g2 ⊢
    exact ⟨by rw [st_with]; exact h.st, by rw [clo_b]; exact h.cl, h.X.grow _ _, g2, h.O.grow _ _⟩

theorem tj_o (hr : c.r = true) (h0 : 0 ≤ sl) (h1 : sl < c.s) (h : Tj T (o.m.ws (c.cl 4 sl).toNat) A B x y o) :
    Tj T ((wstep c sl 0 7 o).m.ws (c.cl 4 sl).toNat) A B x y (wstep c sl 0 7 o) ∧ (wstep c sl 0 7 o).m.ws (c.cl 6 sl).toNat = o.m.ws (c.cl 6 sl).toNat := by
  obtain ⟨g1, g2, g3⟩ := sw_step hr h0 h1 rfl h.O
  refine ⟨?_, g3⟩
  rcases g1 with e | e
  · rw [e] at g2 ⊢
    exact ⟨h.st, h.cl, h.X, h.Y, g2⟩
  · rw [e] at g2 ⊢
    exact ⟨by rw [st_with]; exact h.st, by rw [clo_o]; exact h.cl, h.X.grow _ _, h.Y.grow _ _, g2⟩

theorem tj_endx (hr : c.r = true) (h0 : 0 ≤ sl) (h1 : sl < c.s) (hok : okS 0 A = true) (hp : past (x.m.ws (c.cl 6 sl).toNat) sn = false) (h : Tj T (x.m.ws (c.cl 4 sl).toNat) A B x y o) {k : Nat} (hk : 6 ≤ k) (E : Js) (hE : E = jit c sl 0 A sn x k) :
    Tj T (E.m.ws (c.cl 4 sl).toNat) A B E y o ∧ E.m.ws (c.cl 6 sl).toNat = x.m.ws (c.cl 6 sl).toNat ∧ E.r ≠ 0 := by
  have main : ∀ k, Tj T ((jit c sl 0 A sn x k).m.ws (c.cl 4 sl).toNat) A B (jit c sl 0 A sn x k) y o ∧ (jit c sl 0 A sn x k).m.ws (c.cl 6 sl).toNat = x.m.ws (c.cl 6 sl).toNat ∧ (muJ c sl (jit c sl 0 A sn x k) + k ≤ muJ c sl x ∨ (jit c sl 0 A sn x k).r ≠ 0) := by
    intro k
    induction k with
    | zero => exact ⟨h, rfl, .inl (Nat.le_refl _)⟩
    | succ k ih =>
      obtain ⟨i1, i2, i3⟩ := ih
      obtain ⟨s1, s2⟩ := tj_x (sn := sn) hr h0 h1 hok (by rw [i2]; exact hp) i1
      refine ⟨s1, s2.trans i2, ?_⟩
      by_cases hz : (jit c sl 0 A sn x k).r = 0
      · rcases i3 with i3 | i3
        · have := muJ_step (sd := 0) (b := A) (sn := sn) hr h0 h1 (a := jit c sl 0 A sn x k) (.inl i1.st) i1.X.nx hz
          left
          show muJ c sl (jstep c sl 0 A sn (jit c sl 0 A sn x k)) + (k + 1) ≤ _
          omega
        · exact absurd hz i3
      · right
        show (jstep c sl 0 A sn (jit c sl 0 A sn x k)).r ≠ 0
        rw [jstep_end hz]
        exact hz
  obtain ⟨m1, m2, m3⟩ := main k
  rw [hE]
  refine ⟨m1, m2, ?_⟩
  rcases m3 with m3 | m3
  · have := muJ_le c sl x; omega
  · exact m3

theorem tj_endy (hr : c.r = true) (h0 : 0 ≤ sl) (h1 : sl < c.s) (hok : okS 1 B = true) (hp : past (y.m.ws (c.cl 6 sl).toNat) sn = false) (h : Tj T (y.m.ws (c.cl 4 sl).toNat) A B x y o) {k : Nat} (hk : 6 ≤ k) (E : Js) (hE : E = jit c sl 1 B sn y k) :
    Tj T (E.m.ws (c.cl 4 sl).toNat) A B x E o ∧ E.m.ws (c.cl 6 sl).toNat = y.m.ws (c.cl 6 sl).toNat ∧ E.r ≠ 0 := by
  have main : ∀ k, Tj T ((jit c sl 1 B sn y k).m.ws (c.cl 4 sl).toNat) A B x (jit c sl 1 B sn y k) o ∧ (jit c sl 1 B sn y k).m.ws (c.cl 6 sl).toNat = y.m.ws (c.cl 6 sl).toNat ∧ (muJ c sl (jit c sl 1 B sn y k) + k ≤ muJ c sl y ∨ (jit c sl 1 B sn y k).r ≠ 0) := by
    intro k
    induction k with
    | zero => exact ⟨h, rfl, .inl (Nat.le_refl _)⟩
    | succ k ih =>
      obtain ⟨i1, i2, i3⟩ := ih
      obtain ⟨s1, s2⟩ := tj_y (sn := sn) hr h0 h1 hok (by rw [i2]; exact hp) i1
      refine ⟨s1, s2.trans i2, ?_⟩
      by_cases hz : (jit c sl 1 B sn y k).r = 0
      · rcases i3 with i3 | i3
        · have := muJ_step (sd := 1) (b := B) (sn := sn) hr h0 h1 (a := jit c sl 1 B sn y k) (.inl i1.st) i1.Y.nx hz
          left
          show muJ c sl (jstep c sl 1 B sn (jit c sl 1 B sn y k)) + (k + 1) ≤ _
          omega
        · exact absurd hz i3
      · right
        show (jstep c sl 1 B sn (jit c sl 1 B sn y k)).r ≠ 0
        rw [jstep_end hz]
        exact hz
  obtain ⟨m1, m2, m3⟩ := main k
  rw [hE]
  refine ⟨m1, m2, ?_⟩
  rcases m3 with m3 | m3
  · have := muJ_le c sl y; omega
  · exact m3

theorem tj_endo (hr : c.r = true) (h0 : 0 ≤ sl) (h1 : sl < c.s) (h : Tj T (o.m.ws (c.cl 4 sl).toNat) A B x y o) {k : Nat} (hk : 4 ≤ k) (E : Ls) (hE : E = wit c sl 0 7 o k) :
    Tj T (E.m.ws (c.cl 4 sl).toNat) A B x y E ∧ E.dn = true := by
  have main : ∀ k, Tj T ((wit c sl 0 7 o k).m.ws (c.cl 4 sl).toNat) A B x y (wit c sl 0 7 o k) ∧ (muL c sl (wit c sl 0 7 o k) + k ≤ muL c sl o ∨ (wit c sl 0 7 o k).dn = true) := by
    intro k
    induction k with
    | zero => exact ⟨h, .inl (Nat.le_refl _)⟩
    | succ k ih =>
      obtain ⟨i1, i3⟩ := ih
      refine ⟨(tj_o hr h0 h1 i1).1, ?_⟩
      cases hz : (wit c sl 0 7 o k).dn with
      | false =>
        rcases i3 with i3 | i3
        · have := muW_step (sd := 0) (b := 7) hr h0 h1 hz
          left
          show muL c sl (wstep c sl 0 7 (wit c sl 0 7 o k)) + (k + 1) ≤ _
          omega
        · rw [hz] at i3; cases i3
      | true =>
        right
        show (wstep c sl 0 7 (wit c sl 0 7 o k)).dn = true
        rw [wstep_done hz]
        exact hz
  obtain ⟨m1, m3⟩ := main k
  rw [hE]
  refine ⟨m1, ?_⟩
  rcases m3 with m3 | m3
  · have := muL_le c sl o; omega
  · exact m3

theorem tj_tell {W : Nat} (h : Tj T W A B x y o) (hx : x.r ≠ 0) (hy : y.r ≠ 0) (ho : o.dn = true) : x.r = 2 ∧ y.r = 2 ∧ W = T := by
  have one : ∀ {sd b : Int} {a : Js}, Sj W sd b a → a.r ≠ 0 → a.r = 2 := by
    intro sd b a s hr
    rcases s.r with e | e | e
    · exact absurd e hr
    · exact e
    · exact absurd h.st (s.thr e).2
  have e1 := one h.X hx
  have e2 := one h.Y hy
  refine ⟨e1, e2, ?_⟩
  have := h.cl
  unfold clo at this
  rw [with_self (h.X.two e1), with_self (h.Y.two e2), h.O.dn ho] at this
  exact this

end

theorem tj_new (A B : Int) (W : Nat) (hst : stN W = 2) (m m' m'' : Mm) : Tj (clo A B W) W A B (jnew m) (jnew m') (lnew m'') := ⟨hst, rfl, sj_new _ _ _ _, sj_new _ _ _ _, sw_new _ _ _ _⟩

/-- one's own end, where it is laid: a step, nothing is changed -/
theorem own_there {c : Cf} (hr : c.r = true) {sl sd b : Int} (h0 : 0 ≤ sl) (h1 : sl < c.s) (m : Mm) (hh : withN (m.ws (c.cl 4 sl).toNat) sd b = m.ws (c.cl 4 sl).toNat) {k : Nat} (hk : 1 ≤ k) (E : Ls) (hE : E = wit c sl sd b (lnew m) k) :
    E.dn = true ∧ E.m.ws = m.ws ∧ (wit c sl sd b (lnew m) 0).dn = false ∧ (wit c sl sd b (lnew m) 1).dn = true := by
  have e1 : wit c sl sd b (lnew m) 1 = _ := wstep_look (sd := sd) (b := b) hr h0 h1 (o := lnew m) rfl rfl
  have hd : (wit c sl sd b (lnew m) 1).dn = true := by rw [e1]; exact decide_eq_true hh
  rw [hE, wit_done hd hk]
  exact ⟨hd, by rw [e1]; exact load_ws c m 4 sl, rfl, hd⟩

end Um

/-
  A region that draws its order: one obligation an operation; the frame as a list, its own slots written over. No program in sight.
-/
namespace Go.Proofs.Ytcpmclidndmgeaa
set_option maxRecDepth 100000
open Go.RowKit

/-- a block's letter, to be named -/
theorem nameB {bs : List Nat} {w0 w : World} {l e : List (Nat × List Value)} (_ : Sx bs w0 w l e) (k : Nat) {b : Nat} {cs : List Value} (_ : l[k]? = some (b, cs)) : ∃ b', b' = b := ⟨b, rfl⟩

theorem nameW {bs : List Nat} {w0 w : World} {l e : List (Nat × List Value)} (_ : Sx bs w0 w l e) : ∃ u, u = w := ⟨w, rfl⟩

end Go.Proofs.Ytcpmclidndmgeaa

/-
  The walks of the program's join, the small ones: an end's spot, look, swap, what is laid, its state; what is said, judged; a step's ways.
-/
namespace Go.Proofs.Ytcpmclidndmgeaa
set_option maxRecDepth 100000
open Go.RowKit Go.Sort
set_option linter.unusedVariables false
set_option linter.unusedSimpArgs false

theorem field_stat1j (a b c d e f g : Value) (w : World) : (Instr.field 132 (.agg #[a, b, c, d, e, f, g]) 1).run Try.prog w = .ok b w := by simp [Instr.field, go_sem, asAgg]

theorem eqJF (f : Fn) (x y : Array Value) (w : World) : (binOp .neq 87 (.func f x y) .nilFunc).run Try.prog w = .ok (.bool true) w := by kernel_rfl
theorem eqJN (w : World) : (binOp .neq 87 .nilFunc .nilFunc).run Try.prog w = .ok (.bool false) w := by kernel_rfl
theorem eqOF (f : Fn) (x y : Array Value) (w : World) : (binOp .eql 104 (.func f x y) .nilFunc).run Try.prog w = .ok (.bool false) w := by kernel_rfl
theorem eqON (w : World) : (binOp .eql 104 .nilFunc .nilFunc).run Try.prog w = .ok (.bool true) w := by kernel_rfl

theorem drew_below {P : Program} {f : FuncId} {args : Array Value} {w : World} {v : Value} (h : Calls P f args w fun e w' => e = .returned v ∧ ∃ n, w' = w.drewN n) : Calls P f args w fun e w' => e = .returned v ∧ Below w.heap.size w w' :=
  h.mono (by
    rintro e w' ⟨rfl, n, rfl⟩
    exact ⟨rfl, below_drewN (Below.refl _ _) n⟩)

section
variable {bs : List Nat} {w0 w : World} {l e : List (Nat × List Value)} {B C P : Nat} {c : Um.Cf} {m : Um.Mm} {sl sd b rr : Int} {s sn : Nat} {fn : Value} {tl : List Value}

set_option maxHeartbeats 1000000 in
theorem jSpot_b (hB : BlkAt w P (.int .i64 sl :: .int .i64 sd :: .int .i64 b :: .int .u64 (s : Nat) :: tl)) (kd : Int) : Calls Try.prog 75 #[.pointer (some ⟨P, 0, none⟩), .int .i64 kd] w fun r w' => r = .returned (.agg #[.int .i64 kd, .int .i64 sl]) ∧ Below w.heap.size w w' := by
  have hS := Sx.read1 hB
  clear hB
  go_enter Try.func75, Try.ntmps75
  go_wp2_with (first | (first | (refine wpx_box hS rfl _ _ rfl _ rfl _ (by intro _; simp only [Act.put, sx1, sx2, sx3]; first | done | exact rfl) ?_; clear hS; intro _ _ hS; dsimp only [blit, List.set, sx4, sx5, Value.cells, sx6] at hS) | (refine wpx_alloc hS rfl _ rfl _ (zer_any2 rfl) _ (by intro _; simp only [Act.put, sx1, sx2, sx3]; first | done | exact rfl) ?_; clear hS; intro _ _ hS; dsimp only [blit, List.set, sx4, sx5, Value.cells, sx6] at hS) | (refine wpx_ld hS rfl _ _ rfl _ _ rfl ?_; (repeat (first | refine sxh ?_ | refine sxn ?_)); first | refine .inl ⟨_, one_any2 rfl, rfl, _, (by simp only [Act.put, sx1, sx2, sx3]; first | done | exact rfl), ?_⟩ | refine .inr ⟨_, _, row_any2 rfl, rfl, (by dsimp only [cutL, List.drop, List.take]; first | done | exact rfl), _, (by simp only [Act.put, sx1, sx2, sx3]; first | done | exact rfl), ?_⟩) | (refine wpx_st hS rfl _ _ _ rfl rfl _ _ rfl ?_; (repeat (first | refine sxh ?_ | refine sxn ?_)); refine ⟨_, (by first | exact shA rfl | exact shI rfl | exact shB rfl | exact shS rfl | exact shP rfl | exact shF rfl | exact shN rfl), _, siz_any2 rfl, (by exact rfl), (by exact rfl), (by exact rfl), ?_⟩; clear hS; intro _ hS; dsimp only [blit, List.set, sx4, sx5, Value.cells, sx6] at hS)) | (refine wpx_load1e hS 0 rfl _ _ rfl _ _ rfl _ rfl (one_any2 rfl) _ rfl _ (by simp only [Act.put, List.setIfInBounds_toArray, List.set_cons_zero, List.set_cons_succ]; first | done | exact rfl) ?_))
  have hZ := hS.get 0 rfl
  exact bodyPost_ret (v := (.agg #[.int .i64 kd, .int .i64 sl])) (by simp [results, Try.results75, go_sem, hZ.cell 0 _ rfl, hZ.cell 1 _ rfl]) rfl ⟨rfl, hS.bel⟩

set_option maxHeartbeats 1000000 in
theorem jState_b (hB : BlkAt w P (.int .i64 sl :: .int .i64 sd :: .int .i64 b :: .int .u64 (s : Nat) :: tl)) (hs : Um.Word s) : Calls Try.prog 66 #[.pointer (some ⟨P, 0, none⟩)] w fun r w' => r = .returned (.int .i64 ((Um.part s 27 3 : Nat) : Int)) ∧ Below w.heap.size w w' := by
  have hc := hB.cell 3 _ rfl
  have hf := field_stat1j
  have HC := hide (fun w => unpack_any s w hs)
  clear hB hs
  go_enter Try.func66, Try.ntmps66
  go_wp2_with fail
  refine ((unhide HC) _).mono ?_
  rintro r u ⟨rfl, hb⟩
  clear HC
  go_wp2
  go_ret
  exact ⟨rfl, hb⟩

set_option maxHeartbeats 1000000 in
theorem jLaid_b (hB : BlkAt w P (.int .i64 sl :: .int .i64 sd :: .int .i64 b :: .int .u64 (s : Nat) :: tl)) (hs : Um.Word s) : Calls Try.prog 72 #[.pointer (some ⟨P, 0, none⟩)] w fun r w' => r = .returned (.int .u64 (Um.withN s sd b : Nat)) ∧ Below w.heap.size w w' := by
  have hS := Sx.read1 hB
  have HW := hide hs
  clear hB hs
  go_enter Try.func72, Try.ntmps72
  go_wp2_with fail
  obtain ⟨u, rfl⟩ := nameW hS
  have k1 := cell_regrown ((hS.getE 0 rfl).cell 1 _ rfl)
  have k2 := cell_regrown ((hS.getE 0 rfl).cell 2 _ rfl)
  have k3 := cell_regrown ((hS.getE 0 rfl).cell 3 _ rfl)
  have HSQ := hide hS
  clear hS
  refine wp_region_quiet_below (by kernel_rfl) (by kernel_rfl) ?_
  repeat (go_big_quiet_step (first | (go_at_call 83; exact Calls.regrown_of (same_below (with_any s sd b _ (unhide HW))))))
  refine wpQuiet_nil ?_
  intro _ hw'
  obtain ⟨⟨dq, osq⟩, hw''⟩ := hw'
  subst hw''
  have hS := (unhide HSQ).call (below_regrown u dq osq)
  clear HSQ k1 k2 k3
  generalize grow (redrawn u dq) osq = u9 at *
  go_wp2_with fail
  have hB := hS.bel
  clear hS
  try go_wp2
  go_ret
  exact ⟨rfl, hB⟩

set_option maxHeartbeats 4000000 in
theorem jLook_x (hS : Sx bs w0 w l e) (i j k : Nat) (hi : l[i]? = some (B, memL c C m)) (hj : l[j]? = some (C, rowW m.ws c.n)) (hk : l[k]? = some (P, (.int .i64 sl :: .int .i64 sd :: .int .i64 b :: .int .u64 (s : Nat) :: tl))) (hij : i ≠ j) (hik : i ≠ k) (hjk : j ≠ k) (hr : c.r = true) (hw : WordsOk c m) (hb0 : -9223372036854775808 ≤ sl) (hb1 : sl ≤ 9223372036854775807) (M : Um.Mm) (hM : M = Um.mtouch c m 1 4 sl 0 0) :
    Calls Try.prog 65 #[.pointer (some ⟨P, 0, none⟩), .pointer (some ⟨B, 0, none⟩)] w fun r w' => r = .returned (.tuple #[]) ∧ WordsOk c M ∧ Sx bs w0 w' (putL l [(i, B, memL c C M), (j, C, rowW M.ws c.n), (k, P, (.int .i64 sl :: .int .i64 sd :: .int .i64 b :: .int .u64 (M.l.old : Nat) :: tl))]) e := by
  have HS := hide hS
  have HI := hide (And.intro hi (And.intro hj hk))
  have hL := hS.enter3 i j k hi hj hk hij hik hjk
  have HR := hide hr
  have HW := hide hw
  have HM := hide hM
  have HBD := hide (And.intro hb0 hb1)
  clear hS hi hj hk hr hw hM hb0 hb1 
  have hS := hL
  clear hL
  go_enter Try.func65, Try.ntmps65
  go_wp2_with (first | (refine wpx_box hS rfl _ _ rfl _ rfl _ (by intro _; simp only [Act.put, sx1, sx2, sx3]; first | done | exact rfl) ?_; clear hS; intro _ _ hS; dsimp only [blit, List.set, sx4, sx5, Value.cells, sx6] at hS) | (refine wpx_alloc hS rfl _ rfl _ (zer_any2 rfl) _ (by intro _; simp only [Act.put, sx1, sx2, sx3]; first | done | exact rfl) ?_; clear hS; intro _ _ hS; dsimp only [blit, List.set, sx4, sx5, Value.cells, sx6] at hS) | (refine wpx_ld hS rfl _ _ rfl _ _ rfl ?_; (repeat (first | refine sxh ?_ | refine sxn ?_)); first | refine .inl ⟨_, one_any2 rfl, rfl, _, (by simp only [Act.put, sx1, sx2, sx3]; first | done | exact rfl), ?_⟩ | refine .inr ⟨_, _, row_any2 rfl, rfl, (by dsimp only [cutL, List.drop, List.take]; first | done | exact rfl), _, (by simp only [Act.put, sx1, sx2, sx3]; first | done | exact rfl), ?_⟩) | (refine wpx_st hS rfl _ _ _ rfl rfl _ _ rfl ?_; (repeat (first | refine sxh ?_ | refine sxn ?_)); refine ⟨_, (by first | exact shA rfl | exact shI rfl | exact shB rfl | exact shS rfl | exact shP rfl | exact shF rfl | exact shN rfl), _, siz_any2 rfl, (by exact rfl), (by exact rfl), (by exact rfl), ?_⟩; clear hS; intro _ hS; dsimp only [blit, List.set, sx4, sx5, Value.cells, sx6] at hS))
  refine (jSpot_b (hS.get 2 rfl) 4).mono ?_
  rintro r u ⟨rfl, hb⟩
  replace hS := hS.call hb
  clear hb
  go_wp2_with fail
  refine (mLoad_x hS 0 1 rfl rfl (by decide) (unhide HR) (unhide HW) 4 sl (unhide HBD).1 (unhide HBD).2 M (unhide HM)).mono ?_
  rintro r u ⟨rfl, hWn, hSn⟩
  clear hS
  have hS := hSn
  clear hSn
  dsimp only [putL, List.set, List.cons_append, List.nil_append] at hS
  have HW6 := hide hWn
  clear hWn
  go_wp2_with (first | (refine wpx_box hS rfl _ _ rfl _ rfl _ (by intro _; simp only [Act.put, sx1, sx2, sx3]; first | done | exact rfl) ?_; clear hS; intro _ _ hS; dsimp only [blit, List.set, sx4, sx5, Value.cells, sx6] at hS) | (refine wpx_alloc hS rfl _ rfl _ (zer_any2 rfl) _ (by intro _; simp only [Act.put, sx1, sx2, sx3]; first | done | exact rfl) ?_; clear hS; intro _ _ hS; dsimp only [blit, List.set, sx4, sx5, Value.cells, sx6] at hS) | (refine wpx_ld hS rfl _ _ rfl _ _ rfl ?_; (repeat (first | refine sxh ?_ | refine sxn ?_)); first | refine .inl ⟨_, one_any2 rfl, rfl, _, (by simp only [Act.put, sx1, sx2, sx3]; first | done | exact rfl), ?_⟩ | refine .inr ⟨_, _, row_any2 rfl, rfl, (by dsimp only [cutL, List.drop, List.take]; first | done | exact rfl), _, (by simp only [Act.put, sx1, sx2, sx3]; first | done | exact rfl), ?_⟩) | (refine wpx_st hS rfl _ _ _ rfl rfl _ _ rfl ?_; (repeat (first | refine sxh ?_ | refine sxn ?_)); refine ⟨_, (by first | exact shA rfl | exact shI rfl | exact shB rfl | exact shS rfl | exact shP rfl | exact shF rfl | exact shN rfl), _, siz_any2 rfl, (by exact rfl), (by exact rfl), (by exact rfl), ?_⟩; clear hS; intro _ hS; dsimp only [blit, List.set, sx4, sx5, Value.cells, sx6] at hS))
  first | go_end0 | ((try simp only [Exit.inBlock, Exit.then]); refine bodyPost_ret (results_none rfl _ _ _) rfl ?_)
  exact ⟨rfl, unhide HW6, (unhide HS).back3 i j k (unhide HI).1 (unhide HI).2.1 (unhide HI).2.2 hS⟩

set_option maxHeartbeats 8000000 in
theorem jSwap_x (hS : Sx bs w0 w l e) (i j k : Nat) (hi : l[i]? = some (B, memL c C m)) (hj : l[j]? = some (C, rowW m.ws c.n)) (hk : l[k]? = some (P, (.int .i64 sl :: .int .i64 sd :: .int .i64 b :: .int .u64 (s : Nat) :: tl))) (hij : i ≠ j) (hik : i ≠ k) (hjk : j ≠ k) (hr : c.r = true) (hw : WordsOk c m) (hb0 : -9223372036854775808 ≤ sl) (hb1 : sl ≤ 9223372036854775807) (M : Um.Mm) (hM : M = Um.mtouch c m 3 4 sl s (Um.withN s sd b)) (hs : Um.Word s) :
    Calls Try.prog 84 #[.pointer (some ⟨P, 0, none⟩), .pointer (some ⟨B, 0, none⟩)] w fun r w' => r = .returned (.bool M.l.done) ∧ WordsOk c M ∧ Sx bs w0 w' (putL l [(i, B, memL c C M), (j, C, rowW M.ws c.n), (k, P, (.int .i64 sl :: .int .i64 sd :: .int .i64 b :: .int .u64 (s : Nat) :: tl))]) e := by
  have HS := hide hS
  have HI := hide (And.intro hi (And.intro hj hk))
  have hL := hS.enter3 i j k hi hj hk hij hik hjk
  have HR := hide hr
  have HW := hide hw
  have HM := hide hM
  have HBD := hide (And.intro hb0 hb1)
  have HV := hide hs
  clear hS hi hj hk hr hw hM hb0 hb1 hs
  have hS := hL
  clear hL
  have k3 := fun w' (hq : BlkAt w' P (.int .i64 sl :: .int .i64 sd :: .int .i64 b :: .int .u64 (s : Nat) :: tl)) => hq.cell 3 _ rfl
  have HP := hide (hS.get 2 rfl)
  go_enter Try.func84, Try.ntmps84
  go_wp2_with fail
  have HS3 := hide hS
  clear hS
  go_region_held3 (fun w' => BlkAt w' P (.int .i64 sl :: .int .i64 sd :: .int .i64 b :: .int .u64 (s : Nat) :: tl)) (first | exact (unhide HP).drew | exact BlkAt.below (by assumption) (by assumption) | assumption) (first | (go_at_call 75; refine (jSpot_b (by assumption) 4).mono ?_; rintro e u5 ⟨rfl, hb5⟩) | (go_at_call 72; refine (jLaid_b (by assumption) (unhide HV)).mono ?_; rintro e u6 ⟨rfl, hb6⟩) | (go_at_call 91; refine (mSwap_x (by first | exact ((unhide HS3).undrew hb5).call hb6 | exact ((unhide HS3).undrew hb6).call hb5) 0 1 rfl rfl (by decide) (unhide HR) (unhide HW) 4 sl s (Um.withN s sd b) (Um.with_word (unhide HV) _ _) (unhide HBD).1 (unhide HBD).2 M (unhide HM)).mono ?_; rintro e u7 ⟨rfl, hW6, hS6⟩; have hP6 := hS6.get 2 rfl))
  all_goals
    have hS := hS6
    have HW6 := hide hW6
    clear hS6 hP6 hW6 k3 HS3 HP
    dsimp only [putL, List.set] at hS
    go_wp2_with fail
    go_ret
    exact ⟨rfl, unhide HW6, (unhide HS).back3 i j k (unhide HI).1 (unhide HI).2.1 (unhide HI).2.2 hS⟩

set_option maxHeartbeats 1000000 in
theorem jOpp_b (hB : BlkAt w P [.int .i64 sl, .int .i64 sd, .int .i64 b, .int .u64 (s : Nat), .int .u64 (sn : Nat), fn, .int .i64 rr]) (hd0 : -1 ≤ sd) (hd1 : sd ≤ 2) : Calls Try.prog 80 #[.pointer (some ⟨P, 0, none⟩)] w fun r w' => r = .returned (.int .i64 (1 - sd)) ∧ w' = w := by
  have h1 := hB.cell 1 _ rfl
  clear hB
  go_enter Try.func80, Try.ntmps80
  go_wp2
  go_ret
  refine ⟨?_, rfl⟩
  rcases (by omega : sd = -1 ∨ sd = 0 ∨ sd = 1 ∨ sd = 2) with rfl | rfl | rfl | rfl <;> rfl

set_option maxHeartbeats 1000000 in
theorem jSay_x (hS : Sx bs w0 w l e) (k : Nat) (hk : l[k]? = some (P, [.int .i64 sl, .int .i64 sd, .int .i64 b, .int .u64 (s : Nat), .int .u64 (sn : Nat), fn, .int .i64 rr])) (v : Int) :
    Calls Try.prog 69 #[.pointer (some ⟨P, 0, none⟩), .int .i64 v] w fun r w' => r = .returned (.tuple #[]) ∧ Sx bs w0 w' (putL l [(k, P, [.int .i64 sl, .int .i64 sd, .int .i64 b, .int .u64 (s : Nat), .int .u64 (sn : Nat), .nilFunc, .int .i64 v])]) e := by
  have HS := hide hS
  have HI := hide hk
  have hL := hS.enter1 k hk
  clear hS hk
  have hS := hL
  clear hL
  go_enter Try.func69, Try.ntmps69
  go_wp2_with (first | (refine wpx_box hS rfl _ _ rfl _ rfl _ (by intro _; simp only [Act.put, sx1, sx2, sx3]; first | done | exact rfl) ?_; clear hS; intro _ _ hS; dsimp only [blit, List.set, sx4, sx5, Value.cells, sx6] at hS) | (refine wpx_alloc hS rfl _ rfl _ (zer_any2 rfl) _ (by intro _; simp only [Act.put, sx1, sx2, sx3]; first | done | exact rfl) ?_; clear hS; intro _ _ hS; dsimp only [blit, List.set, sx4, sx5, Value.cells, sx6] at hS) | (refine wpx_ld hS rfl _ _ rfl _ _ rfl ?_; (repeat (first | refine sxh ?_ | refine sxn ?_)); first | refine .inl ⟨_, one_any2 rfl, rfl, _, (by simp only [Act.put, sx1, sx2, sx3]; first | done | exact rfl), ?_⟩ | refine .inr ⟨_, _, row_any2 rfl, rfl, (by dsimp only [cutL, List.drop, List.take]; first | done | exact rfl), _, (by simp only [Act.put, sx1, sx2, sx3]; first | done | exact rfl), ?_⟩) | (refine wpx_st hS rfl _ _ _ rfl rfl _ _ rfl ?_; (repeat (first | refine sxh ?_ | refine sxn ?_)); refine ⟨_, (by first | exact shA rfl | exact shI rfl | exact shB rfl | exact shS rfl | exact shP rfl | exact shF rfl | exact shN rfl), _, siz_any2 rfl, (by exact rfl), (by exact rfl), (by exact rfl), ?_⟩; clear hS; intro _ hS; dsimp only [blit, List.set, sx4, sx5, Value.cells, sx6] at hS))
  first | go_end0 | ((try simp only [Exit.inBlock, Exit.then]); refine bodyPost_ret (results_none rfl _ _ _) rfl ?_)
  exact ⟨rfl, (unhide HS).back1 k (unhide HI) hS⟩

set_option maxHeartbeats 4000000 in
theorem jJudge_l (hS : Sx bs w0 w l e) (k : Nat) (hk : l[k]? = some (P, [.int .i64 sl, .int .i64 sd, .int .i64 b, .int .u64 (s : Nat), .int .u64 (sn : Nat), fn, .int .i64 rr])) (hs : Um.Word s) (hd0 : -1 ≤ sd) (hd1 : sd ≤ 2) (hh : Um.hasN s sd b = true) :
    Calls Try.prog 68 #[.pointer (some ⟨P, 0, none⟩)] w fun r w' => r = .returned (.tuple #[]) ∧ Sx bs w0 w' (putL l [(k, P, [.int .i64 sl, .int .i64 sd, .int .i64 b, .int .u64 (s : Nat), .int .u64 (sn : Nat), .nilFunc, .int .i64 2])]) e := by
  have HDD := hide (And.intro hd0 hd1)
  have HHS := hide hh
  have HW := hide hs
  clear hs hd0 hd1 hh
  have HS := hide hS
  have HI := hide hk
  have hL := hS.enter1 k hk
  clear hS hk
  have hS := hL
  clear hL
  go_enter Try.func68, Try.ntmps68
  go_wp2_with fail
  obtain ⟨u, rfl⟩ := nameW hS
  have k1 := cell_regrown ((hS.get 0 rfl).cell 1 _ rfl)
  have k2 := cell_regrown ((hS.get 0 rfl).cell 2 _ rfl)
  have k3 := cell_regrown ((hS.get 0 rfl).cell 3 _ rfl)
  have HH := hide (fun w => same_below (has_any s sd b w (unhide HW)))
  rw [unhide HHS] at HH
  have HSQ := hide hS
  clear hS
  refine wp_region_quiet_below (by kernel_rfl) (by kernel_rfl) ?_
  repeat (go_big_quiet_step (first | (go_at_call 78; exact Calls.regrown_of ((unhide HH) _))))
  refine wpQuiet_nil ?_
  intro _ hw'
  obtain ⟨⟨dq, osq⟩, hw''⟩ := hw'
  subst hw''
  have hS := (unhide HSQ).call (below_regrown u dq osq)
  clear HH HSQ k1 k2 k3
  generalize grow (redrawn u dq) osq = u9 at *
  go_wp2_with (first | (refine wpx_box hS rfl _ _ rfl _ rfl _ (by intro _; simp only [Act.put, sx1, sx2, sx3]; first | done | exact rfl) ?_; clear hS; intro _ _ hS; dsimp only [blit, List.set, sx4, sx5, Value.cells, sx6] at hS) | (refine wpx_alloc hS rfl _ rfl _ (zer_any2 rfl) _ (by intro _; simp only [Act.put, sx1, sx2, sx3]; first | done | exact rfl) ?_; clear hS; intro _ _ hS; dsimp only [blit, List.set, sx4, sx5, Value.cells, sx6] at hS) | (refine wpx_ld hS rfl _ _ rfl _ _ rfl ?_; (repeat (first | refine sxh ?_ | refine sxn ?_)); first | refine .inl ⟨_, one_any2 rfl, rfl, _, (by simp only [Act.put, sx1, sx2, sx3]; first | done | exact rfl), ?_⟩ | refine .inr ⟨_, _, row_any2 rfl, rfl, (by dsimp only [cutL, List.drop, List.take]; first | done | exact rfl), _, (by simp only [Act.put, sx1, sx2, sx3]; first | done | exact rfl), ?_⟩) | (refine wpx_st hS rfl _ _ _ rfl rfl _ _ rfl ?_; (repeat (first | refine sxh ?_ | refine sxn ?_)); refine ⟨_, (by first | exact shA rfl | exact shI rfl | exact shB rfl | exact shS rfl | exact shP rfl | exact shF rfl | exact shN rfl), _, siz_any2 rfl, (by exact rfl), (by exact rfl), (by exact rfl), ?_⟩; clear hS; intro _ hS; dsimp only [blit, List.set, sx4, sx5, Value.cells, sx6] at hS))
  refine (jSay_x hS 0 rfl 2).mono ?_
  rintro r u ⟨rfl, hSn⟩
  clear hS
  have hS := hSn
  clear hSn
  dsimp only [putL, List.set, List.cons_append, List.nil_append] at hS
  go_wp2_with (first | (refine wpx_box hS rfl _ _ rfl _ rfl _ (by intro _; simp only [Act.put, sx1, sx2, sx3]; first | done | exact rfl) ?_; clear hS; intro _ _ hS; dsimp only [blit, List.set, sx4, sx5, Value.cells, sx6] at hS) | (refine wpx_alloc hS rfl _ rfl _ (zer_any2 rfl) _ (by intro _; simp only [Act.put, sx1, sx2, sx3]; first | done | exact rfl) ?_; clear hS; intro _ _ hS; dsimp only [blit, List.set, sx4, sx5, Value.cells, sx6] at hS) | (refine wpx_ld hS rfl _ _ rfl _ _ rfl ?_; (repeat (first | refine sxh ?_ | refine sxn ?_)); first | refine .inl ⟨_, one_any2 rfl, rfl, _, (by simp only [Act.put, sx1, sx2, sx3]; first | done | exact rfl), ?_⟩ | refine .inr ⟨_, _, row_any2 rfl, rfl, (by dsimp only [cutL, List.drop, List.take]; first | done | exact rfl), _, (by simp only [Act.put, sx1, sx2, sx3]; first | done | exact rfl), ?_⟩) | (refine wpx_st hS rfl _ _ _ rfl rfl _ _ rfl ?_; (repeat (first | refine sxh ?_ | refine sxn ?_)); refine ⟨_, (by first | exact shA rfl | exact shI rfl | exact shB rfl | exact shS rfl | exact shP rfl | exact shF rfl | exact shN rfl), _, siz_any2 rfl, (by exact rfl), (by exact rfl), (by exact rfl), ?_⟩; clear hS; intro _ hS; dsimp only [blit, List.set, sx4, sx5, Value.cells, sx6] at hS))
  first | go_end0 | ((try simp only [Exit.inBlock, Exit.then]); refine bodyPost_ret (results_none rfl _ _ _) rfl ?_)
  exact ⟨rfl, (unhide HS).back1 k (unhide HI) hS⟩

set_option maxHeartbeats 4000000 in
theorem jJudge_2 (hS : Sx bs w0 w l e) (k : Nat) (hk : l[k]? = some (P, [.int .i64 sl, .int .i64 sd, .int .i64 b, .int .u64 (s : Nat), .int .u64 (sn : Nat), fn, .int .i64 rr])) (hs : Um.Word s) (hd0 : -1 ≤ sd) (hd1 : sd ≤ 2) (hh : Um.hasN s sd b = false) (h2 : Um.stN s = 2) :
    Calls Try.prog 68 #[.pointer (some ⟨P, 0, none⟩)] w fun r w' => r = .returned (.tuple #[]) ∧ Sx bs w0 w' (putL l [(k, P, [.int .i64 sl, .int .i64 sd, .int .i64 b, .int .u64 (s : Nat), .int .u64 (sn : Nat), .func (.func 81) #[] #[], .int .i64 rr])]) e := by
  have hq : Um.part s 27 3 = 2 := h2
  have g1 : ((Um.part s 27 3 : Nat) : Int) = 2 := by omega
  have g2 : (((Um.part s 27 3 : Nat) : Int) != 2) = false := by simpa using g1
  clear h2 hq
  have HDD := hide (And.intro hd0 hd1)
  have HHS := hide hh
  have HW := hide hs
  clear hs hd0 hd1 hh
  have HS := hide hS
  have HI := hide hk
  have hL := hS.enter1 k hk
  clear hS hk
  have hS := hL
  clear hL
  go_enter Try.func68, Try.ntmps68
  go_wp2_with fail
  obtain ⟨u, rfl⟩ := nameW hS
  have k1 := cell_regrown ((hS.get 0 rfl).cell 1 _ rfl)
  have k2 := cell_regrown ((hS.get 0 rfl).cell 2 _ rfl)
  have k3 := cell_regrown ((hS.get 0 rfl).cell 3 _ rfl)
  have HH := hide (fun w => same_below (has_any s sd b w (unhide HW)))
  rw [unhide HHS] at HH
  have HSQ := hide hS
  clear hS
  refine wp_region_quiet_below (by kernel_rfl) (by kernel_rfl) ?_
  repeat (go_big_quiet_step (first | (go_at_call 78; exact Calls.regrown_of ((unhide HH) _))))
  refine wpQuiet_nil ?_
  intro _ hw'
  obtain ⟨⟨dq, osq⟩, hw''⟩ := hw'
  subst hw''
  have hS := (unhide HSQ).call (below_regrown u dq osq)
  clear HH HSQ k1 k2 k3
  generalize grow (redrawn u dq) osq = u9 at *
  go_wp2_with (first | (refine wpx_box hS rfl _ _ rfl _ rfl _ (by intro _; simp only [Act.put, sx1, sx2, sx3]; first | done | exact rfl) ?_; clear hS; intro _ _ hS; dsimp only [blit, List.set, sx4, sx5, Value.cells, sx6] at hS) | (refine wpx_alloc hS rfl _ rfl _ (zer_any2 rfl) _ (by intro _; simp only [Act.put, sx1, sx2, sx3]; first | done | exact rfl) ?_; clear hS; intro _ _ hS; dsimp only [blit, List.set, sx4, sx5, Value.cells, sx6] at hS) | (refine wpx_ld hS rfl _ _ rfl _ _ rfl ?_; (repeat (first | refine sxh ?_ | refine sxn ?_)); first | refine .inl ⟨_, one_any2 rfl, rfl, _, (by simp only [Act.put, sx1, sx2, sx3]; first | done | exact rfl), ?_⟩ | refine .inr ⟨_, _, row_any2 rfl, rfl, (by dsimp only [cutL, List.drop, List.take]; first | done | exact rfl), _, (by simp only [Act.put, sx1, sx2, sx3]; first | done | exact rfl), ?_⟩) | (refine wpx_st hS rfl _ _ _ rfl rfl _ _ rfl ?_; (repeat (first | refine sxh ?_ | refine sxn ?_)); refine ⟨_, (by first | exact shA rfl | exact shI rfl | exact shB rfl | exact shS rfl | exact shP rfl | exact shF rfl | exact shN rfl), _, siz_any2 rfl, (by exact rfl), (by exact rfl), (by exact rfl), ?_⟩; clear hS; intro _ hS; dsimp only [blit, List.set, sx4, sx5, Value.cells, sx6] at hS))
  obtain ⟨u, rfl⟩ := nameW hS
  have k3 := cell_regrown ((hS.get 0 rfl).cell 3 _ rfl)
  have HT := hide (fun d os => Calls.regrown_of (jState_b ((hS.call (below_regrown u d os)).get 0 rfl) (unhide HW)))
  have HSQ := hide hS
  clear hS
  refine wp_region_quiet_below (by kernel_rfl) (by kernel_rfl) ?_
  repeat (go_big_quiet_step (first | (go_at_call 66; exact (unhide HT) _ _)))
  refine wpQuiet_nil ?_
  intro _ hw'
  obtain ⟨⟨dq, osq⟩, hw''⟩ := hw'
  subst hw''
  have hS := (unhide HSQ).call (below_regrown u dq osq)
  clear HT HSQ k3
  generalize grow (redrawn u dq) osq = u8 at *
  go_wp2_with (first | (refine wpx_box hS rfl _ _ rfl _ rfl _ (by intro _; simp only [Act.put, sx1, sx2, sx3]; first | done | exact rfl) ?_; clear hS; intro _ _ hS; dsimp only [blit, List.set, sx4, sx5, Value.cells, sx6] at hS) | (refine wpx_alloc hS rfl _ rfl _ (zer_any2 rfl) _ (by intro _; simp only [Act.put, sx1, sx2, sx3]; first | done | exact rfl) ?_; clear hS; intro _ _ hS; dsimp only [blit, List.set, sx4, sx5, Value.cells, sx6] at hS) | (refine wpx_ld hS rfl _ _ rfl _ _ rfl ?_; (repeat (first | refine sxh ?_ | refine sxn ?_)); first | refine .inl ⟨_, one_any2 rfl, rfl, _, (by simp only [Act.put, sx1, sx2, sx3]; first | done | exact rfl), ?_⟩ | refine .inr ⟨_, _, row_any2 rfl, rfl, (by dsimp only [cutL, List.drop, List.take]; first | done | exact rfl), _, (by simp only [Act.put, sx1, sx2, sx3]; first | done | exact rfl), ?_⟩) | (refine wpx_st hS rfl _ _ _ rfl rfl _ _ rfl ?_; (repeat (first | refine sxh ?_ | refine sxn ?_)); refine ⟨_, (by first | exact shA rfl | exact shI rfl | exact shB rfl | exact shS rfl | exact shP rfl | exact shF rfl | exact shN rfl), _, siz_any2 rfl, (by exact rfl), (by exact rfl), (by exact rfl), ?_⟩; clear hS; intro _ hS; dsimp only [blit, List.set, sx4, sx5, Value.cells, sx6] at hS))
  first | go_end0 | ((try simp only [Exit.inBlock, Exit.then]); refine bodyPost_ret (results_none rfl _ _ _) rfl ?_)
  exact ⟨rfl, (unhide HS).back1 k (unhide HI) hS⟩

set_option maxHeartbeats 4000000 in
theorem jJudge_n (hS : Sx bs w0 w l e) (k : Nat) (hk : l[k]? = some (P, [.int .i64 sl, .int .i64 sd, .int .i64 b, .int .u64 (s : Nat), .int .u64 (sn : Nat), fn, .int .i64 rr])) (hs : Um.Word s) (hd0 : -1 ≤ sd) (hd1 : sd ≤ 2) (hh : Um.hasN s sd b = false) (h2 : Um.stN s ≠ 2) (ha : Um.anyN s (1 - sd) = false) :
    Calls Try.prog 68 #[.pointer (some ⟨P, 0, none⟩)] w fun r w' => r = .returned (.tuple #[]) ∧ Sx bs w0 w' (putL l [(k, P, [.int .i64 sl, .int .i64 sd, .int .i64 b, .int .u64 (s : Nat), .int .u64 (sn : Nat), .func (.func 81) #[] #[], .int .i64 rr])]) e := by
  have hq : Um.stN s = Um.part s 27 3 := rfl
  have g1 : ¬ ((Um.part s 27 3 : Nat) : Int) = 2 := by omega
  have g2 : (((Um.part s 27 3 : Nat) : Int) != 2) = true := by simpa using g1
  have HAN := hide ha
  clear h2 hq ha
  have HDD := hide (And.intro hd0 hd1)
  have HHS := hide hh
  have HW := hide hs
  clear hs hd0 hd1 hh
  have HS := hide hS
  have HI := hide hk
  have hL := hS.enter1 k hk
  clear hS hk
  have hS := hL
  clear hL
  go_enter Try.func68, Try.ntmps68
  go_wp2_with fail
  obtain ⟨u, rfl⟩ := nameW hS
  have k1 := cell_regrown ((hS.get 0 rfl).cell 1 _ rfl)
  have k2 := cell_regrown ((hS.get 0 rfl).cell 2 _ rfl)
  have k3 := cell_regrown ((hS.get 0 rfl).cell 3 _ rfl)
  have HH := hide (fun w => same_below (has_any s sd b w (unhide HW)))
  rw [unhide HHS] at HH
  have HSQ := hide hS
  clear hS
  refine wp_region_quiet_below (by kernel_rfl) (by kernel_rfl) ?_
  repeat (go_big_quiet_step (first | (go_at_call 78; exact Calls.regrown_of ((unhide HH) _))))
  refine wpQuiet_nil ?_
  intro _ hw'
  obtain ⟨⟨dq, osq⟩, hw''⟩ := hw'
  subst hw''
  have hS := (unhide HSQ).call (below_regrown u dq osq)
  clear HH HSQ k1 k2 k3
  generalize grow (redrawn u dq) osq = u9 at *
  go_wp2_with (first | (refine wpx_box hS rfl _ _ rfl _ rfl _ (by intro _; simp only [Act.put, sx1, sx2, sx3]; first | done | exact rfl) ?_; clear hS; intro _ _ hS; dsimp only [blit, List.set, sx4, sx5, Value.cells, sx6] at hS) | (refine wpx_alloc hS rfl _ rfl _ (zer_any2 rfl) _ (by intro _; simp only [Act.put, sx1, sx2, sx3]; first | done | exact rfl) ?_; clear hS; intro _ _ hS; dsimp only [blit, List.set, sx4, sx5, Value.cells, sx6] at hS) | (refine wpx_ld hS rfl _ _ rfl _ _ rfl ?_; (repeat (first | refine sxh ?_ | refine sxn ?_)); first | refine .inl ⟨_, one_any2 rfl, rfl, _, (by simp only [Act.put, sx1, sx2, sx3]; first | done | exact rfl), ?_⟩ | refine .inr ⟨_, _, row_any2 rfl, rfl, (by dsimp only [cutL, List.drop, List.take]; first | done | exact rfl), _, (by simp only [Act.put, sx1, sx2, sx3]; first | done | exact rfl), ?_⟩) | (refine wpx_st hS rfl _ _ _ rfl rfl _ _ rfl ?_; (repeat (first | refine sxh ?_ | refine sxn ?_)); refine ⟨_, (by first | exact shA rfl | exact shI rfl | exact shB rfl | exact shS rfl | exact shP rfl | exact shF rfl | exact shN rfl), _, siz_any2 rfl, (by exact rfl), (by exact rfl), (by exact rfl), ?_⟩; clear hS; intro _ hS; dsimp only [blit, List.set, sx4, sx5, Value.cells, sx6] at hS))
  obtain ⟨u, rfl⟩ := nameW hS
  have k3 := cell_regrown ((hS.get 0 rfl).cell 3 _ rfl)
  have HT := hide (fun d os => Calls.regrown_of (jState_b ((hS.call (below_regrown u d os)).get 0 rfl) (unhide HW)))
  have HP := hide (fun d os => Calls.regrown_of (same_below (jOpp_b ((hS.call (below_regrown u d os)).get 0 rfl) (unhide HDD).1 (unhide HDD).2)))
  have HY := hide (fun w => drew_below (any_any s (1 - sd) w (unhide HW)))
  rw [unhide HAN] at HY
  have HSQ := hide hS
  clear hS
  refine wp_region_quiet_below (by kernel_rfl) (by kernel_rfl) ?_
  repeat (go_big_quiet_step (first | (go_at_call 66; exact (unhide HT) _ _) | (go_at_call 80; exact (unhide HP) _ _) | (go_at_call 79; exact Calls.regrown_of ((unhide HY) _))))
  refine wpQuiet_nil ?_
  intro _ hw'
  obtain ⟨⟨dq, osq⟩, hw''⟩ := hw'
  subst hw''
  have hS := (unhide HSQ).call (below_regrown u dq osq)
  clear HT HP HY HSQ k3
  generalize grow (redrawn u dq) osq = u8 at *
  go_wp2_with (first | (refine wpx_box hS rfl _ _ rfl _ rfl _ (by intro _; simp only [Act.put, sx1, sx2, sx3]; first | done | exact rfl) ?_; clear hS; intro _ _ hS; dsimp only [blit, List.set, sx4, sx5, Value.cells, sx6] at hS) | (refine wpx_alloc hS rfl _ rfl _ (zer_any2 rfl) _ (by intro _; simp only [Act.put, sx1, sx2, sx3]; first | done | exact rfl) ?_; clear hS; intro _ _ hS; dsimp only [blit, List.set, sx4, sx5, Value.cells, sx6] at hS) | (refine wpx_ld hS rfl _ _ rfl _ _ rfl ?_; (repeat (first | refine sxh ?_ | refine sxn ?_)); first | refine .inl ⟨_, one_any2 rfl, rfl, _, (by simp only [Act.put, sx1, sx2, sx3]; first | done | exact rfl), ?_⟩ | refine .inr ⟨_, _, row_any2 rfl, rfl, (by dsimp only [cutL, List.drop, List.take]; first | done | exact rfl), _, (by simp only [Act.put, sx1, sx2, sx3]; first | done | exact rfl), ?_⟩) | (refine wpx_st hS rfl _ _ _ rfl rfl _ _ rfl ?_; (repeat (first | refine sxh ?_ | refine sxn ?_)); refine ⟨_, (by first | exact shA rfl | exact shI rfl | exact shB rfl | exact shS rfl | exact shP rfl | exact shF rfl | exact shN rfl), _, siz_any2 rfl, (by exact rfl), (by exact rfl), (by exact rfl), ?_⟩; clear hS; intro _ hS; dsimp only [blit, List.set, sx4, sx5, Value.cells, sx6] at hS))
  first | go_end0 | ((try simp only [Exit.inBlock, Exit.then]); refine bodyPost_ret (results_none rfl _ _ _) rfl ?_)
  exact ⟨rfl, (unhide HS).back1 k (unhide HI) hS⟩

set_option maxHeartbeats 4000000 in
theorem jJudge_f (hS : Sx bs w0 w l e) (k : Nat) (hk : l[k]? = some (P, [.int .i64 sl, .int .i64 sd, .int .i64 b, .int .u64 (s : Nat), .int .u64 (sn : Nat), fn, .int .i64 rr])) (hs : Um.Word s) (hd0 : -1 ≤ sd) (hd1 : sd ≤ 2) (hh : Um.hasN s sd b = false) (h2 : Um.stN s ≠ 2) (ha : Um.anyN s (1 - sd) = true) :
    Calls Try.prog 68 #[.pointer (some ⟨P, 0, none⟩)] w fun r w' => r = .returned (.tuple #[]) ∧ Sx bs w0 w' (putL l [(k, P, [.int .i64 sl, .int .i64 sd, .int .i64 b, .int .u64 (s : Nat), .int .u64 (sn : Nat), .nilFunc, .int .i64 3])]) e := by
  have hq : Um.stN s = Um.part s 27 3 := rfl
  have g1 : ¬ ((Um.part s 27 3 : Nat) : Int) = 2 := by omega
  have g2 : (((Um.part s 27 3 : Nat) : Int) != 2) = true := by simpa using g1
  have HAN := hide ha
  clear h2 hq ha
  have HDD := hide (And.intro hd0 hd1)
  have HHS := hide hh
  have HW := hide hs
  clear hs hd0 hd1 hh
  have HS := hide hS
  have HI := hide hk
  have hL := hS.enter1 k hk
  clear hS hk
  have hS := hL
  clear hL
  go_enter Try.func68, Try.ntmps68
  go_wp2_with fail
  obtain ⟨u, rfl⟩ := nameW hS
  have k1 := cell_regrown ((hS.get 0 rfl).cell 1 _ rfl)
  have k2 := cell_regrown ((hS.get 0 rfl).cell 2 _ rfl)
  have k3 := cell_regrown ((hS.get 0 rfl).cell 3 _ rfl)
  have HH := hide (fun w => same_below (has_any s sd b w (unhide HW)))
  rw [unhide HHS] at HH
  have HSQ := hide hS
  clear hS
  refine wp_region_quiet_below (by kernel_rfl) (by kernel_rfl) ?_
  repeat (go_big_quiet_step (first | (go_at_call 78; exact Calls.regrown_of ((unhide HH) _))))
  refine wpQuiet_nil ?_
  intro _ hw'
  obtain ⟨⟨dq, osq⟩, hw''⟩ := hw'
  subst hw''
  have hS := (unhide HSQ).call (below_regrown u dq osq)
  clear HH HSQ k1 k2 k3
  generalize grow (redrawn u dq) osq = u9 at *
  go_wp2_with (first | (refine wpx_box hS rfl _ _ rfl _ rfl _ (by intro _; simp only [Act.put, sx1, sx2, sx3]; first | done | exact rfl) ?_; clear hS; intro _ _ hS; dsimp only [blit, List.set, sx4, sx5, Value.cells, sx6] at hS) | (refine wpx_alloc hS rfl _ rfl _ (zer_any2 rfl) _ (by intro _; simp only [Act.put, sx1, sx2, sx3]; first | done | exact rfl) ?_; clear hS; intro _ _ hS; dsimp only [blit, List.set, sx4, sx5, Value.cells, sx6] at hS) | (refine wpx_ld hS rfl _ _ rfl _ _ rfl ?_; (repeat (first | refine sxh ?_ | refine sxn ?_)); first | refine .inl ⟨_, one_any2 rfl, rfl, _, (by simp only [Act.put, sx1, sx2, sx3]; first | done | exact rfl), ?_⟩ | refine .inr ⟨_, _, row_any2 rfl, rfl, (by dsimp only [cutL, List.drop, List.take]; first | done | exact rfl), _, (by simp only [Act.put, sx1, sx2, sx3]; first | done | exact rfl), ?_⟩) | (refine wpx_st hS rfl _ _ _ rfl rfl _ _ rfl ?_; (repeat (first | refine sxh ?_ | refine sxn ?_)); refine ⟨_, (by first | exact shA rfl | exact shI rfl | exact shB rfl | exact shS rfl | exact shP rfl | exact shF rfl | exact shN rfl), _, siz_any2 rfl, (by exact rfl), (by exact rfl), (by exact rfl), ?_⟩; clear hS; intro _ hS; dsimp only [blit, List.set, sx4, sx5, Value.cells, sx6] at hS))
  obtain ⟨u, rfl⟩ := nameW hS
  have k3 := cell_regrown ((hS.get 0 rfl).cell 3 _ rfl)
  have HT := hide (fun d os => Calls.regrown_of (jState_b ((hS.call (below_regrown u d os)).get 0 rfl) (unhide HW)))
  have HP := hide (fun d os => Calls.regrown_of (same_below (jOpp_b ((hS.call (below_regrown u d os)).get 0 rfl) (unhide HDD).1 (unhide HDD).2)))
  have HY := hide (fun w => drew_below (any_any s (1 - sd) w (unhide HW)))
  rw [unhide HAN] at HY
  have HSQ := hide hS
  clear hS
  refine wp_region_quiet_below (by kernel_rfl) (by kernel_rfl) ?_
  repeat (go_big_quiet_step (first | (go_at_call 66; exact (unhide HT) _ _) | (go_at_call 80; exact (unhide HP) _ _) | (go_at_call 79; exact Calls.regrown_of ((unhide HY) _))))
  refine wpQuiet_nil ?_
  intro _ hw'
  obtain ⟨⟨dq, osq⟩, hw''⟩ := hw'
  subst hw''
  have hS := (unhide HSQ).call (below_regrown u dq osq)
  clear HT HP HY HSQ k3
  generalize grow (redrawn u dq) osq = u8 at *
  go_wp2_with (first | (refine wpx_box hS rfl _ _ rfl _ rfl _ (by intro _; simp only [Act.put, sx1, sx2, sx3]; first | done | exact rfl) ?_; clear hS; intro _ _ hS; dsimp only [blit, List.set, sx4, sx5, Value.cells, sx6] at hS) | (refine wpx_alloc hS rfl _ rfl _ (zer_any2 rfl) _ (by intro _; simp only [Act.put, sx1, sx2, sx3]; first | done | exact rfl) ?_; clear hS; intro _ _ hS; dsimp only [blit, List.set, sx4, sx5, Value.cells, sx6] at hS) | (refine wpx_ld hS rfl _ _ rfl _ _ rfl ?_; (repeat (first | refine sxh ?_ | refine sxn ?_)); first | refine .inl ⟨_, one_any2 rfl, rfl, _, (by simp only [Act.put, sx1, sx2, sx3]; first | done | exact rfl), ?_⟩ | refine .inr ⟨_, _, row_any2 rfl, rfl, (by dsimp only [cutL, List.drop, List.take]; first | done | exact rfl), _, (by simp only [Act.put, sx1, sx2, sx3]; first | done | exact rfl), ?_⟩) | (refine wpx_st hS rfl _ _ _ rfl rfl _ _ rfl ?_; (repeat (first | refine sxh ?_ | refine sxn ?_)); refine ⟨_, (by first | exact shA rfl | exact shI rfl | exact shB rfl | exact shS rfl | exact shP rfl | exact shF rfl | exact shN rfl), _, siz_any2 rfl, (by exact rfl), (by exact rfl), (by exact rfl), ?_⟩; clear hS; intro _ hS; dsimp only [blit, List.set, sx4, sx5, Value.cells, sx6] at hS))
  refine (jSay_x hS 0 rfl 3).mono ?_
  rintro r u ⟨rfl, hSn⟩
  clear hS
  have hS := hSn
  clear hSn
  dsimp only [putL, List.set, List.cons_append, List.nil_append] at hS
  go_wp2_with (first | (refine wpx_box hS rfl _ _ rfl _ rfl _ (by intro _; simp only [Act.put, sx1, sx2, sx3]; first | done | exact rfl) ?_; clear hS; intro _ _ hS; dsimp only [blit, List.set, sx4, sx5, Value.cells, sx6] at hS) | (refine wpx_alloc hS rfl _ rfl _ (zer_any2 rfl) _ (by intro _; simp only [Act.put, sx1, sx2, sx3]; first | done | exact rfl) ?_; clear hS; intro _ _ hS; dsimp only [blit, List.set, sx4, sx5, Value.cells, sx6] at hS) | (refine wpx_ld hS rfl _ _ rfl _ _ rfl ?_; (repeat (first | refine sxh ?_ | refine sxn ?_)); first | refine .inl ⟨_, one_any2 rfl, rfl, _, (by simp only [Act.put, sx1, sx2, sx3]; first | done | exact rfl), ?_⟩ | refine .inr ⟨_, _, row_any2 rfl, rfl, (by dsimp only [cutL, List.drop, List.take]; first | done | exact rfl), _, (by simp only [Act.put, sx1, sx2, sx3]; first | done | exact rfl), ?_⟩) | (refine wpx_st hS rfl _ _ _ rfl rfl _ _ rfl ?_; (repeat (first | refine sxh ?_ | refine sxn ?_)); refine ⟨_, (by first | exact shA rfl | exact shI rfl | exact shB rfl | exact shS rfl | exact shP rfl | exact shF rfl | exact shN rfl), _, siz_any2 rfl, (by exact rfl), (by exact rfl), (by exact rfl), ?_⟩; clear hS; intro _ hS; dsimp only [blit, List.set, sx4, sx5, Value.cells, sx6] at hS))
  first | go_end0 | ((try simp only [Exit.inBlock, Exit.then]); refine bodyPost_ret (results_none rfl _ _ _) rfl ?_)
  exact ⟨rfl, (unhide HS).back1 k (unhide HI) hS⟩

end

end Go.Proofs.Ytcpmclidndmgeaa
