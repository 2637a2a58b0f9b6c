/-
  Texts that the laws stand on, merged (StoreZ2, BlkR, TicketA, TicketB, GateW, GateS).
-/
import Derived.Test.YtapgghciieloaaaGreatQ1
import Derived.Test.YtapgghciieloaaaGreatQ10
import Derived.Test.YtapgghciieloaaaGreatQ2
import Derived.Test.YtapgghciieloaaaGreatQ9
import Derived.BigQuiet
import Derived.Deep.QuietTactic
import Derived.Deep.RegionLawGrows
import Derived.Deep.RegionWith
import Derived.Laws.AppendOwnNone
import Derived.Laws.EntriesVeiled
import Derived.Lib.QuietBelow
import Derived.LoopN
import Derived.LoopTactic

namespace Go.Proofs.YtapgghciieloaaaGreat
section
set_option maxRecDepth 100000
open Go.RowKit Go.Sort
theorem set_same {α : Type} {l : List α} {k : Nat} {x : α} (h : l[k]? = some x) : l.set k x = l := by
  obtain ⟨h1, h2⟩ := List.getElem?_eq_some_iff.1 h
  subst h2
  exact List.set_getElem_self h1
section
variable {bs : List Nat} {w0 w : World} {l e : List (Nat × List Value)} {B C P : Nat} {c : Um.Cf} {m : Um.Mm}
theorem new_x (hS : Sx bs w0 w l e) (c : Um.Cf) (hr : c.r = true) : Calls Tryz.prog 32 #[(.agg #[.int .i64 (c.t), .int .i64 (c.s), .int .i64 (c.k), .int .i64 (c.g), .int .u64 (c.q : Int)])] w fun r w' => ∃ B C, r = .returned (.tuple #[.pointer (some ⟨B, 0, none⟩), .int .i64 0]) ∧ WordsOk c ⟨fun _ => 0, 0, Um.noT⟩ ∧ Sx bs w0 w' (l ++ [(B, memL c C ⟨fun _ => 0, 0, Um.noT⟩), (C, rowW (fun _ => 0) c.n)]) e := by
  refine (sNew_right c w hr).mono ?_
  rintro r w' ⟨B, C, rfl, h1, h2, hM, hb⟩
  refine ⟨B, C, rfl, hM.wd, hS.adds hb _ (fun p hp => ?_) (fun p hp => ?_) ?_⟩
  · rcases (by simpa using hp : p = (B, memL c C ⟨fun _ => 0, 0, Um.noT⟩) ∨ p = (C, rowW (fun _ => 0) c.n)) with rfl | rfl
    · exact hM.blkB
    · exact hM.blkC
  · rcases (by simpa using hp : p = (B, memL c C ⟨fun _ => 0, 0, Um.noT⟩) ∨ p = (C, rowW (fun _ => 0) c.n)) with rfl | rfl
    · exact h1
    · exact h2
  · simpa using hM.ne
end
end
section
set_option maxRecDepth 100000
open Go.RowKit Go.Sort
section
variable {P : Program} {ops : Array Oper} {rest : List Oper} {op : Oper} {a : Act} {bs : List Nat} {w w0 : World} {Q : Exit → Act → World → Prop} {l e : List (Nat × List Value)}
theorem wpx_load1e (hS : Sx bs w0 w l e) (k : Nat) (hw : Region.wanted op (yielded ops a.tmps) = true) (ty : TypeId) (x : Operand) (ho : op.op = .load ty x) (b o : Nat) (hx : a.eval x = .pointer (some ⟨b, o, none⟩)) (cs : List Value) (hk : e[k]? = some (b, cs)) (hr : One P ty) (v : Value) (hv : cs[o]? = some v)
    (a' : Act) (ha : a.put op.dst v = a') (h : wpList P ops Q rest a' w) : wpList P ops Q (op :: rest) a w := by
  refine BigFrame.wpList_want hw fun K hK => ?_
  obtain ⟨d, hu, hd⟩ := hr
  subst ha
  have e : (execOp a.eval op).run P w = .ok (.value v) w := by
    unfold execOp
    rw [ho]
    simp [hx, run_load1_st (P := P) (hS.getE k hk) o ty v hv d hu hd]
  unfold Oper.wp
  rw [e]
  exact hK _ _ h
end
theorem Sx.read1 {w : World} {g : Nat} {cs : List Value} (hB : BlkAt w g cs) : Sx [] w w [] [(g, cs)] :=
  Sx.read w [(g, cs)] (fun p hp => by
    obtain rfl : p = _ := by simpa using hp
    exact hB)
section
variable {bs : List Nat} {w0 w w' : World} {l e : List (Nat × List Value)} {b1 b2 b3 b4 : Nat} {c1 c2 c3 c4 d1 d2 d3 d4 : List Value}
end
theorem field_cfgS (a b c d e : Value) (w : World) : (Instr.field 24 (.agg #[a, b, c, d, e]) 1).run Tryz.prog w = .ok b w := by simp [Instr.field, go_sem, asAgg]
section
variable {bs : List Nat} {w0 w : World} {l e : List (Nat × List Value)} {B C : Nat} {c : Um.Cf} {m : Um.Mm}
theorem config9_x (hS : Sx bs w0 w l e) (i j : Nat) (hi : l[i]? = some (B, memL c C m)) (hj : l[j]? = some (C, rowW m.ws c.n)) (hij : i ≠ j) (hr : c.r = true) (hw : WordsOk c m) : Calls Tryz.prog 123 #[.pointer (some ⟨B, 0, none⟩)] w fun r w' => r = .returned (.agg #[.int .i64 (c.t), .int .i64 (c.s), .int .i64 (c.k), .int .i64 (c.g), .int .u64 (c.q : Int)]) ∧ Below w.heap.size w w' :=
  mConfig_any (hS.mem i j hi hj hij hr hw)
end
set_option maxHeartbeats 1000000 in
theorem rGen_x {bs : List Nat} {w0 w : World} {l e : List (Nat × List Value)} (hS : Sx bs w0 w l e) (x : Nat) (hx : Um.Word x) :
    Calls Tryz.prog 37 #[.int .u64 (x : Nat)] w fun r w' => r = .returned (.int .i64 (Um.gnN x : Int)) ∧ Sx bs w0 w' l e := by
  have HC := hide (number_any x 30 32 w hx (by decide) (by decide) (by decide) (by decide))
  have HS := hide hS
  clear hS hx
  go_enter Tryz.func37, Tryz.ntmps37
  go_wp2_with fail
  refine (unhide HC).mono ?_
  rintro r u ⟨rfl, n, rfl⟩
  go_wp2
  go_ret
  exact ⟨rfl, (unhide HS).drewN n⟩
theorem rGen_b (x : Nat) (w : World) (hx : Um.Word x) : Calls Tryz.prog 37 #[.int .u64 (x : Nat)] w fun r w' => r = .returned (.int .i64 (Um.gnN x : Int)) ∧ Below w.heap.size w w' :=
  (rGen_x (Sx.new w) x hx).mono fun _ _ ⟨h1, h2⟩ => ⟨h1, h2.bel⟩
theorem rState_b (x : Nat) (w : World) (hx : Um.Word x) : Calls Tryz.prog 58 #[.int .u64 (x : Nat)] w fun r w' => r = .returned (.int .i64 (Um.stN x : Int)) ∧ Below w.heap.size w w' :=
  (rState_x (Sx.new w) x hx).mono fun _ _ ⟨h1, h2⟩ => ⟨h1, h2.bel⟩
theorem state_lit10 {x v : Nat} (hx : Um.Word x) (h : Um.stN x = v) (W : World) : Calls Tryz.prog 58 #[.int .u64 (x : Nat)] W fun r w' => r = .returned (.int .i64 (v : Int)) ∧ Below W.heap.size W w' :=
  (rState_b x W hx).mono (fun r w' q => ⟨q.1.trans (by rw [h]), q.2⟩)
theorem lst1_eq {a a' : Value} (h : a = a') : [a] = [a'] := by rw [h]
theorem lst3_eq {a a' b b' d d' : Value} (h1 : a = a') (h2 : b = b') (h3 : d = d') : [a, b, d] = [a', b', d'] := by rw [h1, h2, h3]
theorem lst5_eq {a a' b b' d d' f f' k k' : Value} (h1 : a = a') (h2 : b = b') (h3 : d = d') (h4 : f = f') (h5 : k = k') : [a, b, d, f, k] = [a', b', d', f', k'] := by rw [h1, h2, h3, h4, h5]
theorem egLd10 (args : Array Value) (w : World) : (callFunc 48 args).run Tryz.prog w = .ok (.enter 48 args) w := by go_simp
theorem egSw10 (args : Array Value) (w : World) : (callFunc 51 args).run Tryz.prog w = .ok (.enter 51 args) w := by go_simp
end
section
set_option maxRecDepth 100000
open Go.RowKit Go.Sort
set_option maxHeartbeats 400000 in
theorem row2_any (x : Nat) (w : World) (hx : Um.Word x) :
    Calls Tryz.prog 112 #[.int .u64 x] w fun e w' => e = .returned (.int .i64 (Um.tsN x)) ∧ w' = w := by
  have hb : bits .and .u64 (x : Int) 15 = ((x % 16 : Nat) : Int) := by
    rw [show (15 : Int) = ((15 : Nat) : Int) from rfl, u64_and_nat _ _ hx (by decide)]
    have := Um.and_mask x 4
    rw [show (2 : Nat) ^ 4 - 1 = 15 by decide, show (2 : Nat) ^ 4 = 16 by decide] at this
    rw [this]
  go_enter Tryz.func112, Tryz.ntmps112
  go_wp2
  go_ret
  refine ⟨ret_i64 ?_, rfl⟩
  unfold Um.tsN
  omega
set_option maxHeartbeats 400000 in
theorem row3_any (n : Int) (w : World) :
    Calls Tryz.prog 113 #[.int .i64 n] w fun e w' => e = .returned (.int .i64 (Um.nearS n)) ∧ w' = w := by
  go_enter Tryz.func113, Tryz.ntmps113
  go_wp2
  all_goals go_ret
  all_goals refine ⟨ret_i64 ?_, rfl⟩
  all_goals unfold Um.nearS
  all_goals omega
set_option maxHeartbeats 400000 in
theorem row5_any (x : Nat) (w : World) (hx : Um.Word x) :
    Calls Tryz.prog 115 #[.int .u64 x] w fun e w' => e = .returned (.int .i64 (Um.tgN x)) ∧ w' = w := by
  unfold Um.Word at hx
  go_enter Tryz.func115, Tryz.ntmps115
  go_wp2
  all_goals go_ret
  all_goals refine ⟨ret_i64 ?_, rfl⟩
  all_goals unfold Um.tgN
  all_goals omega
set_option maxHeartbeats 400000 in
theorem row6_any (n : Int) (w : World) :
    Calls Tryz.prog 116 #[.int .i64 n] w fun e w' => e = .returned (.int .i64 (Um.nearG n)) ∧ w' = w := by
  go_enter Tryz.func116, Tryz.ntmps116
  go_wp2
  all_goals go_ret
  all_goals refine ⟨ret_i64 ?_, rfl⟩
  all_goals unfold Um.nearG
  all_goals omega
set_option maxHeartbeats 400000 in
theorem trow_any (w : World) :
    Calls Tryz.prog 100 #[] w fun e w' => e = .returned (.agg #[.func (.func 111) #[] #[], .func (.func 112) #[] #[], .func (.func 113) #[] #[], .func (.func 114) #[] #[], .func (.func 115) #[] #[], .func (.func 116) #[] #[]]) ∧ Below w.heap.size w w' := by
  go_enter Tryz.func100, Tryz.ntmps100
  go_wp2
  refine bodyPost_ret (v := .agg #[.func (.func 111) #[] #[], .func (.func 112) #[] #[], .func (.func 113) #[] #[], .func (.func 114) #[] #[], .func (.func 115) #[] #[], .func (.func 116) #[] #[]]) (by simp [results, Tryz.results100, go_sem]) rfl ⟨rfl, ?_⟩
  exact (Below.refl _ _).alloc (Nat.le_refl _) _
theorem index_row0 (a0 a1 a2 a3 a4 a5 : Value) (w : World) : Sem.run Tryz.prog (Instr.index 167 (.agg #[a0, a1, a2, a3, a4, a5]) (.int .i64 0)) w = .ok (.agg #[a0, a1, a2]) w := by
  simp [Instr.index, go_sem]
theorem index_row1 (a0 a1 a2 a3 a4 a5 : Value) (w : World) : Sem.run Tryz.prog (Instr.index 167 (.agg #[a0, a1, a2, a3, a4, a5]) (.int .i64 1)) w = .ok (.agg #[a3, a4, a5]) w := by
  simp [Instr.index, go_sem]
attribute [local go_sem] index_row0 index_row1
set_option maxHeartbeats 2000000 in
theorem apart_any (x : Nat) (w : World) (hx : Um.Word x) :
    Calls Tryz.prog 81 #[.int .u64 x] w fun e w' => e = .returned (.agg #[.int .i64 (Um.tsN x), .int .i64 (Um.tgN x)]) ∧ Below w.heap.size w w' := by
  go_enter Tryz.func81, Tryz.ntmps81
  go_wp2_with fail
  refine (trow_any _).mono ?_
  rintro e w1 ⟨rfl, hb1⟩
  obtain ⟨hc1, hf1⟩ := bcell hb1
  have hz1 : w.heap.size + 1 < w1.heap.size := by have := hb1.size; simp at this; omega
  have hz0 : w.heap.size < w1.heap.size := by omega
  have hB1 : Below w.heap.size w w1 := (((Below.refl w.heap.size w).alloc (Nat.le_refl _) _).alloc (by simp) _).trans (hb1.mono (by simp; omega))
  have hz : w.heap.size < w.heap.size + 2 := by omega
  have c00 : w1.cell? ⟨w.heap.size, 0, none⟩ = some (.int .i64 0) := by go_simp
  have f00 : w1.frozen? ⟨w.heap.size, 0, none⟩ = false := by go_simp
  have c01 : w1.cell? ⟨w.heap.size, 1, none⟩ = some (.int .i64 0) := by go_simp
  have f01 : w1.frozen? ⟨w.heap.size, 1, none⟩ = false := by go_simp
  have c10 : w1.cell? ⟨w.heap.size + 1, 0, none⟩ = some (.int .i64 0) := by go_simp
  have f10 : w1.frozen? ⟨w.heap.size + 1, 0, none⟩ = false := by go_simp
  have c11 : w1.cell? ⟨w.heap.size + 1, 1, none⟩ = some (.int .i64 0) := by go_simp
  have f11 : w1.frozen? ⟨w.heap.size + 1, 1, none⟩ = false := by go_simp
  clear hc1 hf1 hb1 hz
  go_wp2_with fail
  refine wp_loop_rounds 3 ?_
  rw [rounds_succ]
  go_wp2_with fail
  refine (row2_any _ _ hx).mono ?_
  rintro e w2 ⟨rfl, rfl⟩
  go_wp2_with fail
  rw [rounds_succ]
  go_wp2_with fail
  refine (row5_any _ _ hx).mono ?_
  rintro e w3 ⟨rfl, rfl⟩
  go_wp2_with fail
  rw [rounds_succ]
  go_wp2
  generalize hW : World.alloc _ _ = W
  have hk0 : W.cell? ⟨w.heap.size, 0, none⟩ = some (.int .i64 (Um.tsN x)) := by subst hW; go_simp
  have hk1 : W.cell? ⟨w.heap.size, 1, none⟩ = some (.int .i64 (Um.tgN x)) := by subst hW; go_simp
  refine bodyPost_ret (v := .agg #[.int .i64 (Um.tsN x), .int .i64 (Um.tgN x)]) (by simp [results, Tryz.results81, go_sem, hk0, hk1]) rfl ⟨rfl, ?_⟩
  subst hW
  repeat first | exact hB1 | refine Below.alloc ?_ (by simp; omega) _ | refine Below.setCell ?_ (by simp) _ | refine Below.drew ?_
set_option maxHeartbeats 2000000 in
theorem near_any (a b : Int) (w : World) :
    Calls Tryz.prog 82 #[.agg #[.int .i64 a, .int .i64 b]] w fun e w' => e = .returned (.agg #[.int .i64 (Um.nearS a), .int .i64 (Um.nearG b)]) ∧ Below w.heap.size w w' := by
  go_enter Tryz.func82, Tryz.ntmps82
  go_wp2_with fail
  refine (trow_any _).mono ?_
  rintro e w1 ⟨rfl, hb1⟩
  obtain ⟨hc1, hf1⟩ := bcell hb1
  have hz1 : w.heap.size + 1 < w1.heap.size := by have := hb1.size; simp at this; omega
  have hz0 : w.heap.size < w1.heap.size := by omega
  have hB1 : Below w.heap.size w w1 := (((Below.refl w.heap.size w).alloc (Nat.le_refl _) _).alloc (by simp) _).trans (hb1.mono (by simp; omega))
  have hz : w.heap.size < w.heap.size + 2 := by omega
  have c00 : w1.cell? ⟨w.heap.size, 0, none⟩ = some (.int .i64 a) := by go_simp
  have f00 : w1.frozen? ⟨w.heap.size, 0, none⟩ = false := by go_simp
  have c01 : w1.cell? ⟨w.heap.size, 1, none⟩ = some (.int .i64 b) := by go_simp
  have f01 : w1.frozen? ⟨w.heap.size, 1, none⟩ = false := by go_simp
  have c10 : w1.cell? ⟨w.heap.size + 1, 0, none⟩ = some (.int .i64 0) := by go_simp
  have f10 : w1.frozen? ⟨w.heap.size + 1, 0, none⟩ = false := by go_simp
  have c11 : w1.cell? ⟨w.heap.size + 1, 1, none⟩ = some (.int .i64 0) := by go_simp
  have f11 : w1.frozen? ⟨w.heap.size + 1, 1, none⟩ = false := by go_simp
  clear hc1 hf1 hb1 hz
  go_wp2_with fail
  go_loopw [6] (fun i wr => ∃ (k : Nat) (a' b' : Int), ((k = 0 ∧ a' = a ∧ b' = b) ∨ (k = 1 ∧ a' = Um.nearS a ∧ b' = b) ∨ (k = 2 ∧ a' = Um.nearS a ∧ b' = Um.nearG b)) ∧ i = .int .i64 k ∧ Below w.heap.size w wr ∧ w.heap.size + 1 < wr.heap.size ∧
    wr.cell? ⟨w.heap.size, 0, none⟩ = some (.int .i64 a') ∧ wr.cell? ⟨w.heap.size, 1, none⟩ = some (.int .i64 b') ∧ wr.cell? ⟨w.heap.size + 1, 0, none⟩ = some (.int .i64 0) ∧ wr.cell? ⟨w.heap.size + 1, 1, none⟩ = some (.int .i64 0) ∧
    wr.frozen? ⟨w.heap.size, 0, none⟩ = false ∧ wr.frozen? ⟨w.heap.size, 1, none⟩ = false ∧ wr.frozen? ⟨w.heap.size + 1, 0, none⟩ = false ∧ wr.frozen? ⟨w.heap.size + 1, 1, none⟩ = false) (fun i _ => 2 - (intOf i).toNat)
  case atStart => exact ⟨0, a, b, .inl ⟨rfl, rfl, rfl⟩, rfl, hB1, hz1, c00, c01, c10, c11, f00, f01, f10, f11⟩
  case round =>
    rename_i wr
    clear c00 c01 c10 c11 f00 f01 f10 f11 hB1 hz1 hz0
    obtain ⟨k, a', b', hcase, rfl, hB, hz1, c00, c01, c10, c11, f00, f01, f10, f11⟩ := hrel
    have hz0 : w.heap.size < wr.heap.size := by omega
    rcases hcase with ⟨rfl, rfl, rfl⟩ | ⟨rfl, rfl, rfl⟩ | ⟨rfl, rfl, rfl⟩
    · go_wp2_with fail
      go_region_with (go_at_call 113; refine (row3_any _ _).mono ?_; rintro e w' ⟨rfl, rfl⟩)
      all_goals
        go_wp2_with fail
        refine ⟨⟨1, _, _, .inr (.inl ⟨rfl, rfl, rfl⟩), rfl, ((hB.setCell (by simp) _).alloc (by simp; omega) _).drew, by simp; omega, by go_simp, by go_simp, by go_simp, by go_simp, by go_simp, by go_simp, by go_simp, by go_simp⟩, by simp [intOf]⟩
    · go_wp2_with fail
      go_region_with (go_at_call 116; refine (row6_any _ _).mono ?_; rintro e w' ⟨rfl, rfl⟩)
      all_goals
        go_wp2_with fail
        refine ⟨⟨2, _, _, .inr (.inr ⟨rfl, rfl, rfl⟩), rfl, ((hB.setCell (by simp) _).alloc (by simp; omega) _).drew, by simp; omega, by go_simp, by go_simp, by go_simp, by go_simp, by go_simp, by go_simp, by go_simp, by go_simp⟩, by simp [intOf]⟩
    · go_wp2
      generalize hW : World.setCell _ _ _ = W
      have hk0 : W.cell? ⟨w.heap.size + 1, 0, none⟩ = some (.int .i64 (Um.nearS a)) := by subst hW; go_simp
      have hk1 : W.cell? ⟨w.heap.size + 1, 1, none⟩ = some (.int .i64 (Um.nearG b)) := by subst hW; go_simp
      refine bodyPost_ret (v := .agg #[.int .i64 (Um.nearS a), .int .i64 (Um.nearG b)]) (by simp [results, Tryz.results82, go_sem, hk0, hk1]) rfl ⟨rfl, ?_⟩
      subst hW
      exact (hB.setCell (by simp) _).setCell (by simp) _
end
section
set_option maxRecDepth 100000
open Go.RowKit Go.Sort
theorem index_parts0 (a0 a1 : Value) (w : World) : Sem.run Tryz.prog (Instr.index 143 (.agg #[a0, a1]) (.int .i64 0)) w = .ok a0 w := by
  simp [Instr.index, go_sem]
theorem index_parts1 (a0 a1 : Value) (w : World) : Sem.run Tryz.prog (Instr.index 143 (.agg #[a0, a1]) (.int .i64 1)) w = .ok a1 w := by
  simp [Instr.index, go_sem]
attribute [local go_sem] index_row0 index_row1 index_parts0 index_parts1
theorem ret_twoI {a b : Int} {c : Bool} (h : a = b) : Ending.returned (.tuple #[.int .i64 a, .bool c]) = .returned (.tuple #[.int .i64 b, .bool c]) := by rw [h]
set_option maxHeartbeats 400000 in
theorem kGen_any (x : Nat) (w : World) (hx : Um.Word x) :
    Calls Tryz.prog 117 #[.int .u64 x] w fun e w' => e = .returned (.int .i64 (Um.tgN x)) ∧ Below w.heap.size w w' := by
  go_enter Tryz.func117, Tryz.ntmps117
  go_wp2_with fail
  refine (apart_any _ _ hx).mono ?_
  rintro e w1 ⟨rfl, hb1⟩
  go_wp2
  go_ret
  exact ⟨rfl, hb1⟩
set_option maxHeartbeats 1000000 in
theorem kSlot_any (x : Nat) (w : World) (hx : Um.Word x) :
    Calls Tryz.prog 83 #[.int .u64 x] w fun e w' => e = .returned (.tuple #[.int .i64 (Um.svN x), .bool (Um.sok x)]) ∧ Below w.heap.size w w' := by
  have hneq := neqParts (Um.near_sok (x := x))
  cases hok : Um.sok x
  · rw [Um.sv_no hok]
    rw [hok] at hneq
    clear hok
    go_enter Tryz.func83, Tryz.ntmps83
    go_wp2_with fail
    refine (apart_any _ _ hx).mono ?_
    rintro e w1 ⟨rfl, hb1⟩
    go_wp2_with fail
    generalize hW : w1.alloc _ = W
    have hk0 : ∀ d os, (grow (redrawn W d) os).cell? ⟨w1.heap.size, 0, none⟩ = some (.int .i64 (Um.tsN x)) := fun d os => cell_regrown (by subst hW; go_simp) d os
    have hk1 : ∀ d os, (grow (redrawn W d) os).cell? ⟨w1.heap.size, 1, none⟩ = some (.int .i64 0) := fun d os => cell_regrown (by subst hW; go_simp) d os
    have hB : Below w.heap.size w W := by rw [← hW]; exact hb1.alloc hb1.size _
    clear hW
    refine wp_region_quiet_below (by kernel_rfl) (by kernel_rfl) ?_
    repeat (go_big_quiet_step (first | (go_at_call 82; exact Calls.regrown_of (near_any _ _ _))))
    refine wpQuiet_nil ?_
    intro _ hw'
    obtain ⟨⟨dq, osq⟩, hw''⟩ := hw'
    subst hw''
    go_wp2
    go_ret2
    exact ⟨rfl, hB.trans ((below_regrown W dq osq).mono hB.size)⟩
  · rw [Um.sv_yes hok]
    rw [hok] at hneq
    clear hok
    go_enter Tryz.func83, Tryz.ntmps83
    go_wp2_with fail
    refine (apart_any _ _ hx).mono ?_
    rintro e w1 ⟨rfl, hb1⟩
    go_wp2_with fail
    generalize hW : w1.alloc _ = W
    have hk0 : ∀ d os, (grow (redrawn W d) os).cell? ⟨w1.heap.size, 0, none⟩ = some (.int .i64 (Um.tsN x)) := fun d os => cell_regrown (by subst hW; go_simp) d os
    have hk1 : ∀ d os, (grow (redrawn W d) os).cell? ⟨w1.heap.size, 1, none⟩ = some (.int .i64 0) := fun d os => cell_regrown (by subst hW; go_simp) d os
    have hB : Below w.heap.size w W := by rw [← hW]; exact hb1.alloc hb1.size _
    clear hW
    refine wp_region_quiet_below (by kernel_rfl) (by kernel_rfl) ?_
    repeat (go_big_quiet_step (first | (go_at_call 82; exact Calls.regrown_of (near_any _ _ _))))
    refine wpQuiet_nil ?_
    intro _ hw'
    obtain ⟨⟨dq, osq⟩, hw''⟩ := hw'
    subst hw''
    go_wp2
    go_ret2
    exact ⟨rfl, hB.trans ((below_regrown W dq osq).mono hB.size)⟩
set_option maxHeartbeats 1000000 in
theorem kOf_any (x : Nat) (n : Int) (w : World) (hx : Um.Word x) :
    Calls Tryz.prog 43 #[.int .u64 x, .int .i64 n] w fun e w' => e = .returned (.tuple #[.int .i64 (Um.osN x n), .int .i64 (Um.ogN x n), .bool (Um.ook x n)]) ∧ Below w.heap.size w w' := by
  have hneq := neqParts (Um.near_ook (x := x))
  by_cases h1 : 0 ≤ Um.tsN x ∧ Um.tsN x ≤ 11 ∧ Um.tgN x ≤ 1073741823
  · rw [decide_eq_true h1] at hneq
    by_cases h2 : Um.tsN x < n
    · have hok : Um.ook x n = true := Um.ook_iff.2 ⟨h1.1, h1.2.1, h1.2.2, h2⟩
      rw [Um.os_yes hok, Um.og_yes hok, hok]
      clear hok h1
      go_enter Tryz.func43, Tryz.ntmps43
      go_wp2_with fail
      refine (apart_any _ _ hx).mono ?_
      rintro e w1 ⟨rfl, hb1⟩
      go_wp2_with fail
      generalize hW : w1.alloc _ = W
      have hk0 : ∀ d os, (grow (redrawn W d) os).cell? ⟨w1.heap.size, 0, none⟩ = some (.int .i64 (Um.tsN x)) := fun d os => cell_regrown (by subst hW; go_simp) d os
      have hk1 : ∀ d os, (grow (redrawn W d) os).cell? ⟨w1.heap.size, 1, none⟩ = some (.int .i64 (Um.tgN x)) := fun d os => cell_regrown (by subst hW; go_simp) d os
      have hB : Below w.heap.size w W := by rw [← hW]; exact hb1.alloc hb1.size _
      clear hW
      refine wp_region_quiet_below (by kernel_rfl) (by kernel_rfl) ?_
      repeat (go_big_quiet_step (first | (go_at_call 82; exact Calls.regrown_of (near_any _ _ _))))
      refine wpQuiet_nil ?_
      intro _ hw'
      obtain ⟨⟨dq, osq⟩, hw''⟩ := hw'
      subst hw''
      have hB2 := hB.trans ((below_regrown W dq osq).mono hB.size)
      have hk0' := hk0 dq osq
      have hk1' := hk1 dq osq
      clear hk0 hk1
      generalize grow (redrawn W dq) osq = W2 at *
      go_wp2_with fail
      go_quiet (fail)
      go_wp2
      refine bodyPost_ret (v := .tuple #[.int .i64 (Um.tsN x), .int .i64 (Um.tgN x), .bool true]) (by simp [results, Tryz.results43, go_sem]) rfl ⟨rfl, ?_⟩
      exact below_drewN hB2 _
    · have hok : Um.ook x n = false := Um.ook_no.2 (by omega)
      rw [Um.os_no hok, Um.og_no hok, hok]
      have h3 : n ≤ Um.tsN x := by omega
      clear hok h1 h2
      go_enter Tryz.func43, Tryz.ntmps43
      go_wp2_with fail
      refine (apart_any _ _ hx).mono ?_
      rintro e w1 ⟨rfl, hb1⟩
      go_wp2_with fail
      generalize hW : w1.alloc _ = W
      have hk0 : ∀ d os, (grow (redrawn W d) os).cell? ⟨w1.heap.size, 0, none⟩ = some (.int .i64 (Um.tsN x)) := fun d os => cell_regrown (by subst hW; go_simp) d os
      have hk1 : ∀ d os, (grow (redrawn W d) os).cell? ⟨w1.heap.size, 1, none⟩ = some (.int .i64 (Um.tgN x)) := fun d os => cell_regrown (by subst hW; go_simp) d os
      have hB : Below w.heap.size w W := by rw [← hW]; exact hb1.alloc hb1.size _
      clear hW
      refine wp_region_quiet_below (by kernel_rfl) (by kernel_rfl) ?_
      repeat (go_big_quiet_step (first | (go_at_call 82; exact Calls.regrown_of (near_any _ _ _))))
      refine wpQuiet_nil ?_
      intro _ hw'
      obtain ⟨⟨dq, osq⟩, hw''⟩ := hw'
      subst hw''
      have hB2 := hB.trans ((below_regrown W dq osq).mono hB.size)
      have hk0' := hk0 dq osq
      have hk1' := hk1 dq osq
      clear hk0 hk1
      generalize grow (redrawn W dq) osq = W2 at *
      go_wp2
      refine bodyPost_ret (v := .tuple #[.int .i64 0, .int .i64 0, .bool false]) (by simp [results, Tryz.results43, go_sem]) rfl ⟨rfl, ?_⟩
      exact hB2
  · have hok : Um.ook x n = false := Um.ook_no.2 (by omega)
    rw [Um.os_no hok, Um.og_no hok, hok]
    rw [decide_eq_false h1] at hneq
    clear hok h1
    go_enter Tryz.func43, Tryz.ntmps43
    go_wp2_with fail
    refine (apart_any _ _ hx).mono ?_
    rintro e w1 ⟨rfl, hb1⟩
    go_wp2_with fail
    generalize hW : w1.alloc _ = W
    have hk0 : ∀ d os, (grow (redrawn W d) os).cell? ⟨w1.heap.size, 0, none⟩ = some (.int .i64 (Um.tsN x)) := fun d os => cell_regrown (by subst hW; go_simp) d os
    have hk1 : ∀ d os, (grow (redrawn W d) os).cell? ⟨w1.heap.size, 1, none⟩ = some (.int .i64 (Um.tgN x)) := fun d os => cell_regrown (by subst hW; go_simp) d os
    have hB : Below w.heap.size w W := by rw [← hW]; exact hb1.alloc hb1.size _
    clear hW
    refine wp_region_quiet_below (by kernel_rfl) (by kernel_rfl) ?_
    repeat (go_big_quiet_step (first | (go_at_call 82; exact Calls.regrown_of (near_any _ _ _))))
    refine wpQuiet_nil ?_
    intro _ hw'
    obtain ⟨⟨dq, osq⟩, hw''⟩ := hw'
    subst hw''
    have hB2 := hB.trans ((below_regrown W dq osq).mono hB.size)
    have hk0' := hk0 dq osq
    have hk1' := hk1 dq osq
    clear hk0 hk1
    generalize grow (redrawn W dq) osq = W2 at *
    go_wp2
    refine bodyPost_ret (v := .tuple #[.int .i64 0, .int .i64 0, .bool false]) (by simp [results, Tryz.results43, go_sem]) rfl ⟨rfl, ?_⟩
    exact hB2
set_option maxHeartbeats 400000 in
theorem krSlot_any (x : Nat) (w : World) (hx : Um.Word x) :
    Calls Tryz.prog 60 #[.int .u64 x] w fun e w' => e = .returned (.tuple #[.int .i64 (Um.svN x), .bool (Um.sok x)]) ∧ w' = w := by
  unfold Um.Word at hx
  cases hok : Um.sok x
  · rw [Um.sv_no hok]
    have hno := Um.sok_no.1 hok
    unfold Um.tsN at hno
    have HN := hide hno
    clear hok hno
    go_enter Tryz.func60, Tryz.ntmps60
    go_wp2
    all_goals first
      | (go_ret2; exact ⟨rfl, rfl⟩)
      | (exfalso; have h := unhide HN; omega)
  · rw [Um.sv_yes hok]
    have hyes := Um.sok_iff.1 hok
    unfold Um.tsN at hyes
    have HN := hide hyes
    clear hok hyes
    go_enter Tryz.func60, Tryz.ntmps60
    go_wp2
    all_goals first
      | (exfalso; have h := unhide HN; omega)
      | (go_ret2; exact ⟨ret_twoI (by unfold Um.tsN; omega), rfl⟩)
set_option maxHeartbeats 400000 in
theorem krGen_any (x : Nat) (w : World) (hx : Um.Word x) :
    Calls Tryz.prog 61 #[.int .u64 x] w fun e w' => e = .returned (.int .i64 (Um.tgN x)) ∧ w' = w := by
  unfold Um.Word at hx
  go_enter Tryz.func61, Tryz.ntmps61
  go_wp2
  all_goals go_ret
  all_goals refine ⟨ret_i64 ?_, rfl⟩
  all_goals unfold Um.tgN
  all_goals omega
set_option maxHeartbeats 1000000 in
theorem krOf_any (x : Nat) (n : Int) (w : World) (hx : Um.Word x) :
    Calls Tryz.prog 22 #[.int .u64 x, .int .i64 n] w fun e w' => e = .returned (.tuple #[.int .i64 (Um.osN x n), .int .i64 (Um.ogN x n), .bool (Um.ook x n)]) ∧ w' = w := by
  have hb := Um.tg_bd x
  cases hs : Um.sok x
  · have hok : Um.ook x n = false := Um.ook_no.2 (by have := Um.sok_no.1 hs; omega)
    rw [Um.os_no hok, Um.og_no hok, hok]
    have hc := krSlot_any x w hx
    rw [hs] at hc
    clear hok hs
    go_enter Tryz.func22, Tryz.ntmps22
    go_wp2_with fail
    refine hc.mono ?_
    rintro e w1 ⟨rfl, rfl⟩
    go_wp2
    refine bodyPost_ret (v := .tuple #[.int .i64 0, .int .i64 0, .bool false]) (by simp [results, Tryz.results22, go_sem]) rfl ⟨rfl, rfl⟩
  · have hc := krSlot_any x w hx
    rw [hs, Um.sv_yes hs] at hc
    have h1 := Um.sok_iff.1 hs
    clear hs
    by_cases h2 : Um.tsN x < n
    · by_cases h3 : Um.tgN x ≤ 1073741823
      · have hok : Um.ook x n = true := Um.ook_iff.2 ⟨h1.1, h1.2, h3, h2⟩
        rw [Um.os_yes hok, Um.og_yes hok, hok]
        clear hok h1
        go_enter Tryz.func22, Tryz.ntmps22
        go_wp2_with fail
        refine hc.mono ?_
        rintro e w1 ⟨rfl, rfl⟩
        go_wp2_with fail
        refine (krGen_any _ _ hx).mono ?_
        rintro e w1 ⟨rfl, rfl⟩
        go_wp2_with fail
        refine (krGen_any _ _ hx).mono ?_
        rintro e w1 ⟨rfl, rfl⟩
        go_wp2
        refine bodyPost_ret (v := .tuple #[.int .i64 (Um.tsN x), .int .i64 (Um.tgN x), .bool true]) (by simp [results, Tryz.results22, go_sem]) rfl ⟨rfl, rfl⟩
      · have hok : Um.ook x n = false := Um.ook_no.2 (by omega)
        rw [Um.os_no hok, Um.og_no hok, hok]
        have h4 : 1073741823 < Um.tgN x := by omega
        clear hok h1 h3
        go_enter Tryz.func22, Tryz.ntmps22
        go_wp2_with fail
        refine hc.mono ?_
        rintro e w1 ⟨rfl, rfl⟩
        go_wp2_with fail
        refine (krGen_any _ _ hx).mono ?_
        rintro e w1 ⟨rfl, rfl⟩
        go_wp2
        refine bodyPost_ret (v := .tuple #[.int .i64 0, .int .i64 0, .bool false]) (by simp [results, Tryz.results22, go_sem]) rfl ⟨rfl, rfl⟩
    · have hok : Um.ook x n = false := Um.ook_no.2 (by omega)
      rw [Um.os_no hok, Um.og_no hok, hok]
      have h4 : n ≤ Um.tsN x := by omega
      clear hok h1 h2
      go_enter Tryz.func22, Tryz.ntmps22
      go_wp2_with fail
      refine hc.mono ?_
      rintro e w1 ⟨rfl, rfl⟩
      go_wp2
      refine bodyPost_ret (v := .tuple #[.int .i64 0, .int .i64 0, .bool false]) (by simp [results, Tryz.results22, go_sem]) rfl ⟨rfl, rfl⟩
end
section
set_option maxRecDepth 100000
open Go.RowKit Go.Sort
theorem RowOf.below {w w' : World} {la : Option Addr} {nl : Nat} {Z : Nat → Value} (h : RowOf w la nl Z) (b : Below w.heap.size w w') : RowOf w' la nl Z := by
  rcases h with h | ⟨lb, off, e, h1, h2⟩
  · exact .inl h
  · exact .inr ⟨lb, off, e, Nat.lt_of_lt_of_le h1 b.size, fun i hi => (b.cell (p := ⟨lb, off + i, none⟩) h1).trans (h2 i hi)⟩
def inZ (Z : Nat → Int) : Nat → Int → Bool
  | 0, _ => false
  | n + 1, x => inZ Z n x || decide (Z n = x)
theorem inZ_true {Z : Nat → Int} {n : Nat} {x : Int} {j : Nat} (hj : j < n) (h : Z j = x) : inZ Z n x = true := by
  induction n with
  | zero => omega
  | succ n ih =>
    show (inZ Z n x || decide (Z n = x)) = true
    by_cases e : j = n
    · rw [← e, decide_eq_true h, Bool.or_true]
    · rw [ih (by omega), Bool.true_or]
set_option maxHeartbeats 1000000 in
theorem rSlot10_any (h s wd : Nat) (la : Option Addr) (nl cl : Nat) (tk en : Bool) (er : Int) (w : World) (hh : Um.Word h) : Calls Tryz.prog 93 #[.agg #[.int .u64 (h : Nat), .slice la nl cl, .bool tk, .int .u64 (s : Nat), .int .u64 (wd : Nat), .int .i64 er, .bool en]] w fun r w' => r = .returned (.int .i64 (Um.svN h)) ∧ Below w.heap.size w w' := by
  have hS := Sx.new w
  have HH := hide hh
  clear hh
  go_enter Tryz.func93, Tryz.ntmps93
  go_wp2_with (first | (refine ybox hS (h := ?_); clear hS; intro _ _ hS) | (refine yall hS (h := ?_); clear hS; intro _ _ hS) | refine yld hS (h := ?_) | (refine yst hS (h := ?_); clear hS; intro _ hS))
  refine (krSlot_any h _ (unhide HH)).mono ?_
  rintro r u ⟨rfl, rfl⟩
  have hB := hS.bel
  clear hS
  go_wp2
  go_ret
  exact ⟨rfl, hB⟩
set_option maxHeartbeats 1000000 in
theorem rNamed10_any (h s wd : Nat) (la : Option Addr) (nl cl : Nat) (tk en : Bool) (er : Int) (n : Int) (w : World) (hh : Um.Word h) : Calls Tryz.prog 106 #[.agg #[.int .u64 (h : Nat), .slice la nl cl, .bool tk, .int .u64 (s : Nat), .int .u64 (wd : Nat), .int .i64 er, .bool en], .int .i64 n] w fun r w' => r = .returned (.bool (Um.ook h n)) ∧ Below w.heap.size w w' := by
  have hS := Sx.new w
  have HH := hide hh
  clear hh
  go_enter Tryz.func106, Tryz.ntmps106
  go_wp2_with (first | (refine ybox hS (h := ?_); clear hS; intro _ _ hS) | (refine yall hS (h := ?_); clear hS; intro _ _ hS) | refine yld hS (h := ?_) | (refine yst hS (h := ?_); clear hS; intro _ hS))
  refine (krOf_any h n _ (unhide HH)).mono ?_
  rintro r u ⟨rfl, rfl⟩
  have hB := hS.bel
  clear hS
  go_wp2
  go_ret
  exact ⟨rfl, hB⟩
theorem rDone10_any (h s wd : Nat) (la : Option Addr) (nl cl : Nat) (tk en : Bool) (er : Int) (n : Int) (w : World) (hh : Um.Word h) : Calls Tryz.prog 92 #[.agg #[.int .u64 (h : Nat), .slice la nl cl, .bool tk, .int .u64 (s : Nat), .int .u64 (wd : Nat), .int .i64 er, .bool en], .int .i64 n] w fun r w' => r = .returned (.bool (en || !Um.ook h n)) ∧ Below w.heap.size w w' := by
  cases en with
  | true =>
    have hS := Sx.new w
    clear hh
    go_enter Tryz.func92, Tryz.ntmps92
    go_wp2_with (first | (refine ybox hS (h := ?_); clear hS; intro _ _ hS) | (refine yall hS (h := ?_); clear hS; intro _ _ hS) | refine yld hS (h := ?_) | (refine yst hS (h := ?_); clear hS; intro _ hS))
    have hB := hS.bel
    clear hS
    go_wp2
    go_ret
    exact ⟨rfl, hB⟩
  | false =>
    have hS := Sx.new w
    have HH := hide hh
    clear hh
    go_enter Tryz.func92, Tryz.ntmps92
    go_wp2_with (first | (refine ybox hS (h := ?_); clear hS; intro _ _ hS) | (refine yall hS (h := ?_); clear hS; intro _ _ hS) | refine yld hS (h := ?_) | (refine yst hS (h := ?_); clear hS; intro _ hS))
    refine (rNamed10_any h s wd la nl cl tk false er n _ (unhide HH)).mono ?_
    rintro r u ⟨rfl, hb⟩
    replace hS := hS.call hb
    have hB := hS.bel
    clear hS hb
    go_wp2
    go_ret
    exact ⟨rfl, hB⟩
set_option maxHeartbeats 2000000 in
theorem rIn10_any (la : Option Addr) (nl cl : Nat) (Z : Nat → Int) (x : Int) (w : World) (hb : nl ≤ 50) (hZ : RowOf w la nl (fun i => .int .i64 (Z i))) : Calls Tryz.prog 107 #[.slice la nl cl, .int .i64 x] w fun r w' => r = .returned (.bool (inZ Z nl x)) ∧ w' = w := by
  have HZ := hide hZ
  have HR := hide (rfl : w = w)
  clear hZ
  go_enter Tryz.func107, Tryz.ntmps107
  go_wp2
  go_loopw [5] (fun i wr => ∃ j : Nat, j ≤ nl ∧ i = .int .i64 j ∧ wr = w ∧ Hid (inZ Z j x = false)) (fun i _ => nl - (intOf i).toNat)
  case atStart => exact ⟨0, Nat.zero_le _, rfl, (by first | rfl | trivial), hide rfl⟩
  case round =>
    obtain ⟨j, hj, rfl, hwr, HJ⟩ := hrel
    have hwr2 := hwr.symm
    clear hwr
    subst hwr2
    by_cases hlt : j < nl
    · have hlti : (j : Int) < (nl : Int) := by omega
      obtain ⟨lb, lo, hla, hlb, hlc⟩ := (unhide HZ).resolve_left (by omega)
      subst hla
      have q9 : w.cell? ⟨lb, lo + j, none⟩ = some (.int .i64 (Z j)) := hlc j hlt
      clear hlc
      by_cases hx : Z j = x
      · have HT := hide (inZ_true hlt hx)
        rw [hx] at q9
        clear hx
        go_wp2
        go_ret
        exact ⟨by rw [unhide HT]; rfl, rfl⟩
      · have hx2 : (Z j == x) = false := by simpa using hx
        have HF := hide (show inZ Z (j + 1) x = false by
          show (inZ Z j x || decide (Z j = x)) = false
          rw [unhide HJ, decide_eq_false hx]
          rfl)
        go_wp2
        exact ⟨⟨j + 1, by omega, by go_num, (by first | rfl | trivial), HF⟩, by simp [intOf]; omega⟩
    · have hge : ¬ (j : Int) < (nl : Int) := by omega
      obtain rfl : j = nl := by omega
      go_wp2
      go_ret
      exact ⟨by rw [unhide HJ]; rfl, rfl⟩
theorem krGen_b (x : Nat) (w : World) (hx : Um.Word x) : Calls Tryz.prog 61 #[.int .u64 x] w fun e w' => e = .returned (.int .i64 (Um.tgN x)) ∧ Below w.heap.size w w' := (krGen_any x w hx).mono fun _ _ h => ⟨h.1, h.2 ▸ Below.refl _ _⟩
set_option maxHeartbeats 2000000 in
theorem rFault10_g (h s wd : Nat) (la : Option Addr) (nl cl : Nat) (tk en : Bool) (er : Int) (x : Nat) (w : World) (hh : Um.Word h) (hx : Um.Word x) (hg : ((Um.gnN x : Nat) : Int) ≠ Um.tgN h) : Calls Tryz.prog 94 #[.agg #[.int .u64 (h : Nat), .slice la nl cl, .bool tk, .int .u64 (s : Nat), .int .u64 (wd : Nat), .int .i64 er, .bool en], .int .u64 (x : Nat)] w fun r w' => r = .returned (.int .i64 2) ∧ Below w.heap.size w w' := by
  have hS := Sx.new w
  have HH := hide hh
  have HX := hide hx
  have g1 : ¬ ((Um.gnN x : Nat) : Int) = Um.tgN h := hg
  have g2 : (((Um.gnN x : Nat) : Int) != Um.tgN h) = true := by simpa using g1
  clear hg
  clear hh hx
  go_enter Tryz.func94, Tryz.ntmps94
  go_wp2_with (first | (refine ybox hS (h := ?_); clear hS; intro _ _ hS) | (refine yall hS (h := ?_); clear hS; intro _ _ hS) | refine yld hS (h := ?_) | (refine yst hS (h := ?_); clear hS; intro _ hS))
  refine (rState_b x _ (unhide HX)).mono ?_
  rintro r u ⟨rfl, hb⟩
  replace hS := hS.call hb
  clear hb
  go_wp2_with fail
  obtain ⟨u5, rfl⟩ := nameW hS
  have kA := cell_regrown ((hS.get 0 rfl).cell 0 _ rfl)
  have HSQ := hide hS
  clear hS
  refine wp_region_quiet_below (by kernel_rfl) (by kernel_rfl) ?_
  repeat (go_big_quiet_step (first | (go_at_call 37; exact Calls.regrown_of (rGen_b _ _ (unhide HX))) | (go_at_call 61; exact Calls.regrown_of (krGen_b _ _ (unhide HH)))))
  refine wpQuiet_nil ?_
  intro _ hw'
  obtain ⟨⟨dq, osq⟩, hw''⟩ := hw'
  subst hw''
  have hS := (unhide HSQ).call (below_regrown u5 dq osq)
  clear HSQ kA
  generalize grow (redrawn u5 dq) osq = u6 at *
  have hB := hS.bel
  clear hS
  go_wp2
  go_ret
  exact ⟨rfl, hB⟩
set_option maxHeartbeats 2000000 in
theorem rFault10_0 (h s wd : Nat) (la : Option Addr) (nl cl : Nat) (tk en : Bool) (er : Int) (x : Nat) (w : World) (hh : Um.Word h) (hx : Um.Word x) (hg : ((Um.gnN x : Nat) : Int) = Um.tgN h) (h3 : Um.stN x = 0) : Calls Tryz.prog 94 #[.agg #[.int .u64 (h : Nat), .slice la nl cl, .bool tk, .int .u64 (s : Nat), .int .u64 (wd : Nat), .int .i64 er, .bool en], .int .u64 (x : Nat)] w fun r w' => r = .returned (.int .i64 2) ∧ Below w.heap.size w w' := by
  have hS := Sx.new w
  have HH := hide hh
  have HX := hide hx
  have g1 : ((Um.gnN x : Nat) : Int) = Um.tgN h := hg
  have g2 : (((Um.gnN x : Nat) : Int) != Um.tgN h) = false := by simpa using g1
  clear hg
  have HST := hide h3
  clear h3
  clear hh hx
  go_enter Tryz.func94, Tryz.ntmps94
  go_wp2_with (first | (refine ybox hS (h := ?_); clear hS; intro _ _ hS) | (refine yall hS (h := ?_); clear hS; intro _ _ hS) | refine yld hS (h := ?_) | (refine yst hS (h := ?_); clear hS; intro _ hS))
  refine (state_lit10 (unhide HX) (unhide HST) _).mono ?_
  rintro r u ⟨rfl, hb⟩
  replace hS := hS.call hb
  clear hb
  go_wp2_with fail
  obtain ⟨u5, rfl⟩ := nameW hS
  have kA := cell_regrown ((hS.get 0 rfl).cell 0 _ rfl)
  have HSQ := hide hS
  clear hS
  refine wp_region_quiet_below (by kernel_rfl) (by kernel_rfl) ?_
  repeat (go_big_quiet_step (first | (go_at_call 37; exact Calls.regrown_of (rGen_b _ _ (unhide HX))) | (go_at_call 61; exact Calls.regrown_of (krGen_b _ _ (unhide HH)))))
  refine wpQuiet_nil ?_
  intro _ hw'
  obtain ⟨⟨dq, osq⟩, hw''⟩ := hw'
  subst hw''
  have hS := (unhide HSQ).call (below_regrown u5 dq osq)
  clear HSQ kA
  generalize grow (redrawn u5 dq) osq = u6 at *
  have hB := hS.bel
  clear hS
  go_wp2
  go_ret
  exact ⟨rfl, hB⟩
set_option maxHeartbeats 2000000 in
theorem rFault10_1 (h s wd : Nat) (la : Option Addr) (nl cl : Nat) (tk en : Bool) (er : Int) (x : Nat) (w : World) (hh : Um.Word h) (hx : Um.Word x) (hg : ((Um.gnN x : Nat) : Int) = Um.tgN h) (h3 : Um.stN x = 1) : Calls Tryz.prog 94 #[.agg #[.int .u64 (h : Nat), .slice la nl cl, .bool tk, .int .u64 (s : Nat), .int .u64 (wd : Nat), .int .i64 er, .bool en], .int .u64 (x : Nat)] w fun r w' => r = .returned (.int .i64 2) ∧ Below w.heap.size w w' := by
  have hS := Sx.new w
  have HH := hide hh
  have HX := hide hx
  have g1 : ((Um.gnN x : Nat) : Int) = Um.tgN h := hg
  have g2 : (((Um.gnN x : Nat) : Int) != Um.tgN h) = false := by simpa using g1
  clear hg
  have HST := hide h3
  clear h3
  clear hh hx
  go_enter Tryz.func94, Tryz.ntmps94
  go_wp2_with (first | (refine ybox hS (h := ?_); clear hS; intro _ _ hS) | (refine yall hS (h := ?_); clear hS; intro _ _ hS) | refine yld hS (h := ?_) | (refine yst hS (h := ?_); clear hS; intro _ hS))
  refine (state_lit10 (unhide HX) (unhide HST) _).mono ?_
  rintro r u ⟨rfl, hb⟩
  replace hS := hS.call hb
  clear hb
  go_wp2_with fail
  obtain ⟨u5, rfl⟩ := nameW hS
  have kA := cell_regrown ((hS.get 0 rfl).cell 0 _ rfl)
  have HSQ := hide hS
  clear hS
  refine wp_region_quiet_below (by kernel_rfl) (by kernel_rfl) ?_
  repeat (go_big_quiet_step (first | (go_at_call 37; exact Calls.regrown_of (rGen_b _ _ (unhide HX))) | (go_at_call 61; exact Calls.regrown_of (krGen_b _ _ (unhide HH)))))
  refine wpQuiet_nil ?_
  intro _ hw'
  obtain ⟨⟨dq, osq⟩, hw''⟩ := hw'
  subst hw''
  have hS := (unhide HSQ).call (below_regrown u5 dq osq)
  clear HSQ kA
  generalize grow (redrawn u5 dq) osq = u6 at *
  have hB := hS.bel
  clear hS
  go_wp2
  go_ret
  exact ⟨rfl, hB⟩
set_option maxHeartbeats 2000000 in
theorem rFault10_b (h s wd : Nat) (la : Option Addr) (nl cl : Nat) (tk en : Bool) (er : Int) (x : Nat) (w : World) (hh : Um.Word h) (hx : Um.Word x) (hg : ((Um.gnN x : Nat) : Int) = Um.tgN h) (h0 : Um.stN x ≠ 0) (h1 : Um.stN x ≠ 1) (hz : x.testBit 26 = true) : Calls Tryz.prog 94 #[.agg #[.int .u64 (h : Nat), .slice la nl cl, .bool tk, .int .u64 (s : Nat), .int .u64 (wd : Nat), .int .i64 er, .bool en], .int .u64 (x : Nat)] w fun r w' => r = .returned (.int .i64 3) ∧ Below w.heap.size w w' := by
  have hS := Sx.new w
  have HH := hide hh
  have HX := hide hx
  have g1 : ((Um.gnN x : Nat) : Int) = Um.tgN h := hg
  have g2 : (((Um.gnN x : Nat) : Int) != Um.tgN h) = false := by simpa using g1
  clear hg
  have s1 : ¬ ((Um.stN x : Nat) : Int) = 0 := by omega
  have s2 : (((Um.stN x : Nat) : Int) == 0) = false := by simpa using s1
  have s3 : ¬ ((Um.stN x : Nat) : Int) = 1 := by omega
  have s4 : (((Um.stN x : Nat) : Int) == 1) = false := by simpa using s3
  clear h0 h1
  have HBZ := hide hz
  clear hz
  clear hh hx
  go_enter Tryz.func94, Tryz.ntmps94
  go_wp2_with (first | (refine ybox hS (h := ?_); clear hS; intro _ _ hS) | (refine yall hS (h := ?_); clear hS; intro _ _ hS) | refine yld hS (h := ?_) | (refine yst hS (h := ?_); clear hS; intro _ hS))
  refine (rState_b x _ (unhide HX)).mono ?_
  rintro r u ⟨rfl, hb⟩
  replace hS := hS.call hb
  clear hb
  go_wp2_with fail
  obtain ⟨u5, rfl⟩ := nameW hS
  have kA := cell_regrown ((hS.get 0 rfl).cell 0 _ rfl)
  have HSQ := hide hS
  clear hS
  refine wp_region_quiet_below (by kernel_rfl) (by kernel_rfl) ?_
  repeat (go_big_quiet_step (first | (go_at_call 37; exact Calls.regrown_of (rGen_b _ _ (unhide HX))) | (go_at_call 61; exact Calls.regrown_of (krGen_b _ _ (unhide HH)))))
  refine wpQuiet_nil ?_
  intro _ hw'
  obtain ⟨⟨dq, osq⟩, hw''⟩ := hw'
  subst hw''
  have hS := (unhide HSQ).call (below_regrown u5 dq osq)
  clear HSQ kA
  generalize grow (redrawn u5 dq) osq = u6 at *
  go_wp2_with fail
  refine (rBusy_x hS x (unhide HX)).mono ?_
  rintro r u ⟨rfl, hSn⟩
  clear hS
  have hS := hSn
  clear hSn
  rw [unhide HBZ]
  have hB := hS.bel
  clear hS
  go_wp2
  go_ret
  exact ⟨rfl, hB⟩
set_option maxHeartbeats 2000000 in
theorem rFault10_y (h s wd : Nat) (la : Option Addr) (nl cl : Nat) (tk en : Bool) (er : Int) (x : Nat) (w : World) (hh : Um.Word h) (hx : Um.Word x) (Z : Nat → Int) (hg : ((Um.gnN x : Nat) : Int) = Um.tgN h) (h0 : Um.stN x ≠ 0) (h1 : Um.stN x ≠ 1) (hz : x.testBit 26 = false) (hb : nl ≤ 50) (hZ : RowOf w la nl (fun i => .int .i64 (Z i))) (hi : inZ Z nl ((Um.stN x : Nat) : Int) = true) : Calls Tryz.prog 94 #[.agg #[.int .u64 (h : Nat), .slice la nl cl, .bool tk, .int .u64 (s : Nat), .int .u64 (wd : Nat), .int .i64 er, .bool en], .int .u64 (x : Nat)] w fun r w' => r = .returned (.int .i64 0) ∧ Below w.heap.size w w' := by
  have hS := Sx.new w
  have HH := hide hh
  have HX := hide hx
  have g1 : ((Um.gnN x : Nat) : Int) = Um.tgN h := hg
  have g2 : (((Um.gnN x : Nat) : Int) != Um.tgN h) = false := by simpa using g1
  clear hg
  have s1 : ¬ ((Um.stN x : Nat) : Int) = 0 := by omega
  have s2 : (((Um.stN x : Nat) : Int) == 0) = false := by simpa using s1
  have s3 : ¬ ((Um.stN x : Nat) : Int) = 1 := by omega
  have s4 : (((Um.stN x : Nat) : Int) == 1) = false := by simpa using s3
  clear h0 h1
  have HBZ := hide hz
  have HIN := hide (And.intro hZ hi)
  clear hz hZ hi
  clear hh hx
  go_enter Tryz.func94, Tryz.ntmps94
  go_wp2_with (first | (refine ybox hS (h := ?_); clear hS; intro _ _ hS) | (refine yall hS (h := ?_); clear hS; intro _ _ hS) | refine yld hS (h := ?_) | (refine yst hS (h := ?_); clear hS; intro _ hS))
  refine (rState_b x _ (unhide HX)).mono ?_
  rintro r u ⟨rfl, hb⟩
  replace hS := hS.call hb
  clear hb
  go_wp2_with fail
  obtain ⟨u5, rfl⟩ := nameW hS
  have kA := cell_regrown ((hS.get 0 rfl).cell 0 _ rfl)
  have HSQ := hide hS
  clear hS
  refine wp_region_quiet_below (by kernel_rfl) (by kernel_rfl) ?_
  repeat (go_big_quiet_step (first | (go_at_call 37; exact Calls.regrown_of (rGen_b _ _ (unhide HX))) | (go_at_call 61; exact Calls.regrown_of (krGen_b _ _ (unhide HH)))))
  refine wpQuiet_nil ?_
  intro _ hw'
  obtain ⟨⟨dq, osq⟩, hw''⟩ := hw'
  subst hw''
  have hS := (unhide HSQ).call (below_regrown u5 dq osq)
  clear HSQ kA
  generalize grow (redrawn u5 dq) osq = u6 at *
  go_wp2_with fail
  refine (rBusy_x hS x (unhide HX)).mono ?_
  rintro r u ⟨rfl, hSn⟩
  clear hS
  have hS := hSn
  clear hSn
  rw [unhide HBZ]
  go_wp2_with (first | (refine ybox hS (h := ?_); clear hS; intro _ _ hS) | (refine yall hS (h := ?_); clear hS; intro _ _ hS) | refine yld hS (h := ?_) | (refine yst hS (h := ?_); clear hS; intro _ hS))
  refine (rIn10_any la nl cl Z ((Um.stN x : Nat) : Int) _ hb ((unhide HIN).1.below hS.bel)).mono ?_
  rintro r u ⟨rfl, rfl⟩
  rw [(unhide HIN).2]
  have hB := hS.bel
  clear hS
  go_wp2
  go_ret
  exact ⟨rfl, hB⟩
set_option maxHeartbeats 2000000 in
theorem rFault10_n (h s wd : Nat) (la : Option Addr) (nl cl : Nat) (tk en : Bool) (er : Int) (x : Nat) (w : World) (hh : Um.Word h) (hx : Um.Word x) (Z : Nat → Int) (hg : ((Um.gnN x : Nat) : Int) = Um.tgN h) (h0 : Um.stN x ≠ 0) (h1 : Um.stN x ≠ 1) (hz : x.testBit 26 = false) (hb : nl ≤ 50) (hZ : RowOf w la nl (fun i => .int .i64 (Z i))) (hi : inZ Z nl ((Um.stN x : Nat) : Int) = false) : Calls Tryz.prog 94 #[.agg #[.int .u64 (h : Nat), .slice la nl cl, .bool tk, .int .u64 (s : Nat), .int .u64 (wd : Nat), .int .i64 er, .bool en], .int .u64 (x : Nat)] w fun r w' => r = .returned (.int .i64 4) ∧ Below w.heap.size w w' := by
  have hS := Sx.new w
  have HH := hide hh
  have HX := hide hx
  have g1 : ((Um.gnN x : Nat) : Int) = Um.tgN h := hg
  have g2 : (((Um.gnN x : Nat) : Int) != Um.tgN h) = false := by simpa using g1
  clear hg
  have s1 : ¬ ((Um.stN x : Nat) : Int) = 0 := by omega
  have s2 : (((Um.stN x : Nat) : Int) == 0) = false := by simpa using s1
  have s3 : ¬ ((Um.stN x : Nat) : Int) = 1 := by omega
  have s4 : (((Um.stN x : Nat) : Int) == 1) = false := by simpa using s3
  clear h0 h1
  have HBZ := hide hz
  have HIN := hide (And.intro hZ hi)
  clear hz hZ hi
  clear hh hx
  go_enter Tryz.func94, Tryz.ntmps94
  go_wp2_with (first | (refine ybox hS (h := ?_); clear hS; intro _ _ hS) | (refine yall hS (h := ?_); clear hS; intro _ _ hS) | refine yld hS (h := ?_) | (refine yst hS (h := ?_); clear hS; intro _ hS))
  refine (rState_b x _ (unhide HX)).mono ?_
  rintro r u ⟨rfl, hb⟩
  replace hS := hS.call hb
  clear hb
  go_wp2_with fail
  obtain ⟨u5, rfl⟩ := nameW hS
  have kA := cell_regrown ((hS.get 0 rfl).cell 0 _ rfl)
  have HSQ := hide hS
  clear hS
  refine wp_region_quiet_below (by kernel_rfl) (by kernel_rfl) ?_
  repeat (go_big_quiet_step (first | (go_at_call 37; exact Calls.regrown_of (rGen_b _ _ (unhide HX))) | (go_at_call 61; exact Calls.regrown_of (krGen_b _ _ (unhide HH)))))
  refine wpQuiet_nil ?_
  intro _ hw'
  obtain ⟨⟨dq, osq⟩, hw''⟩ := hw'
  subst hw''
  have hS := (unhide HSQ).call (below_regrown u5 dq osq)
  clear HSQ kA
  generalize grow (redrawn u5 dq) osq = u6 at *
  go_wp2_with fail
  refine (rBusy_x hS x (unhide HX)).mono ?_
  rintro r u ⟨rfl, hSn⟩
  clear hS
  have hS := hSn
  clear hSn
  rw [unhide HBZ]
  go_wp2_with (first | (refine ybox hS (h := ?_); clear hS; intro _ _ hS) | (refine yall hS (h := ?_); clear hS; intro _ _ hS) | refine yld hS (h := ?_) | (refine yst hS (h := ?_); clear hS; intro _ hS))
  refine (rIn10_any la nl cl Z ((Um.stN x : Nat) : Int) _ hb ((unhide HIN).1.below hS.bel)).mono ?_
  rintro r u ⟨rfl, rfl⟩
  rw [(unhide HIN).2]
  have hB := hS.bel
  clear hS
  go_wp2
  go_ret
  exact ⟨rfl, hB⟩
theorem rFault10_any (h s wd : Nat) (la : Option Addr) (nl cl : Nat) (tk en : Bool) (er : Int) (Z : Nat → Int) (x : Nat) (w : World) (hh : Um.Word h) (hx : Um.Word x) (hb : nl ≤ 50) (hZ : RowOf w la nl (fun i => .int .i64 (Z i))) : Calls Tryz.prog 94 #[.agg #[.int .u64 (h : Nat), .slice la nl cl, .bool tk, .int .u64 (s : Nat), .int .u64 (wd : Nat), .int .i64 er, .bool en], .int .u64 (x : Nat)] w fun r w' => r = .returned (.int .i64 (Um.flN h (fun k => inZ Z nl ((k : Nat) : Int)) x)) ∧ Below w.heap.size w w' := by
  unfold Um.flN
  by_cases hg : ((Um.gnN x : Nat) : Int) = Um.tgN h
  · by_cases h0 : Um.stN x = 0
    · rw [if_pos (.inr (.inl h0))]
      exact rFault10_0 h s wd la nl cl tk en er x w hh hx hg h0
    by_cases h1 : Um.stN x = 1
    · rw [if_pos (.inr (.inr h1))]
      exact rFault10_1 h s wd la nl cl tk en er x w hh hx hg h1
    have hno : ¬ (((Um.gnN x : Nat) : Int) ≠ Um.tgN h ∨ Um.stN x = 0 ∨ Um.stN x = 1) := fun q => q.elim (fun q => q hg) (fun q => q.elim h0 h1)
    rw [if_neg hno]
    cases hz : x.testBit 26 with
    | true =>
      rw [if_pos rfl]
      exact rFault10_b h s wd la nl cl tk en er x w hh hx hg h0 h1 hz
    | false =>
      rw [if_neg (by decide)]
      cases hi : inZ Z nl ((Um.stN x : Nat) : Int) with
      | true =>
        rw [if_pos (show (fun k : Nat => inZ Z nl ((k : Nat) : Int)) (Um.stN x) = true from hi)]
        exact rFault10_y h s wd la nl cl tk en er x w hh hx Z hg h0 h1 hz hb hZ hi
      | false =>
        rw [if_neg (show ¬ (fun k : Nat => inZ Z nl ((k : Nat) : Int)) (Um.stN x) = true from by show ¬ inZ Z nl ((Um.stN x : Nat) : Int) = true; rw [hi]; decide)]
        exact rFault10_n h s wd la nl cl tk en er x w hh hx Z hg h0 h1 hz hb hZ hi
  · rw [if_pos (.inl hg)]
    exact rFault10_g h s wd la nl cl tk en er x w hh hx hg
end
section
set_option maxRecDepth 100000
open Go.RowKit Go.Sort
def rowI (Z : Nat → Int) : Nat → List Value
  | 0 => []
  | n + 1 => rowI Z n ++ [.int .i64 (Z n)]
theorem rowI_len (Z : Nat → Int) (n : Nat) : (rowI Z n).length = n := by
  induction n with
  | zero => rfl
  | succ n ih => simp [rowI, ih]
theorem rowI_get (Z : Nat → Int) (n j : Nat) (h : j < n) : (rowI Z n)[j]? = some (.int .i64 (Z j)) := by
  induction n with
  | zero => omega
  | succ n ih =>
    rw [rowI]
    by_cases e : j = n
    · subst e
      rw [List.getElem?_append_right (by rw [rowI_len]; exact Nat.le_refl _), rowI_len]
      simp
    · rw [List.getElem?_append_left (by rw [rowI_len]; omega)]
      exact ih (by omega)
theorem rowI_mem {Z : Nat → Int} {n : Nat} : ∀ v ∈ rowI Z n, v.oneCell' = true := by
  induction n with
  | zero => simp [rowI]
  | succ n ih =>
    intro v hv
    rw [rowI] at hv
    rcases List.mem_append.1 hv with h | h
    · exact ih v h
    · obtain rfl : v = _ := by simpa using h
      rfl
theorem infoI : (Tryz.prog.info? 3).map (fun i => (i.zero, i.size, i.bytes)) = some (some (.int .i64 0), 1, 8) := by kernel_rfl
theorem blkI_of_own {W : World} {base n : Nat} {e : TypeId} {g cap : Nat} {Z : Nat → Int} (h : W.ownsRow base e 1 (.slice (some ⟨g, 0, none⟩) n cap) n (rowI Z n)) : BlkAt W g (rowI Z n) := by
  rcases h.2 with ⟨h, _⟩ | ⟨g', cap', cur, hv, _, hg, _, _, hsz, hcur⟩
  · cases h
  · simp only [Value.slice.injEq, Option.some.injEq, Addr.mk.injEq] at hv
    obtain ⟨⟨rfl, _, _⟩, _, rfl⟩ := hv
    have hb := blkAt_new hg
    refine ⟨hb.lt, fun j v hj => hb.cell j v ?_, hb.fz⟩
    rw [← hcur] at hj
    exact (List.getElem?_take_of_lt (by have := (List.getElem?_eq_some_iff.1 hj).1; simp at this; omega)).symm.trans hj
theorem BlkAt.rowOf {W : World} {g n : Nat} {Z : Nat → Int} (h : BlkAt W g (rowI Z n)) : RowOf W (some ⟨g, 0, none⟩) n (fun i => .int .i64 (Z i)) :=
  .inr ⟨g, 0, rfl, h.lt, fun i hi => by rw [Nat.zero_add]; exact h.cell i _ (rowI_get Z n i hi)⟩
theorem wpx_cloneI {ops : Array Oper} {rest : List Oper} {op : Oper} {a : Act} {bs : List Nat} {w w0 : World} {Q : Exit → Act → World → Prop} {l e : List (Nat × List Value)} (hS : Sx bs w0 w l e) (hgd : op.guard = none) (s x : Operand)
    (ho : op.op = .call { callee := .builtin .append, args := #[s, x], argTypes := #[41, 41] }) (z : Addr) (hs : a.eval s = .slice (some z) 0 0)
    (b off m c : Nat) (hx : a.eval x = .slice (some ⟨b, off, none⟩) m c) (Z : Nat → Int) (hI : ∀ j, j < m → w.cell? ⟨b, off + j, none⟩ = some (.int .i64 (Z j))) (hm : 0 < m) (hb : m * 8 ≤ 140737488355328)
    (h : ∀ g cap w', Sx bs w0 w' (l ++ [(g, rowI Z m)]) e → wpList Tryz.prog ops Q rest (a.put op.dst (.slice (some ⟨g, 0, none⟩) m cap)) w') : wpList Tryz.prog ops Q (op :: rest) a w := by
  obtain ⟨i0, hi, hz0, hz1, hz2⟩ := info_parts infoI
  refine wpList_step fun K hK => ?_
  refine step_append_grows hgd s x 41 ho 3 i0 (.int .i64 0) 1 8 Tryz.underlying41 hi hz0 hz1 hz2 rfl (by decide) (some z) 0 0 [] hs (fun e => by cases e) rfl (fun _ _ j u e => by cases e) ⟨b, off, none⟩ m c (rowI Z m) hx (by rw [rowI_len, Nat.mul_one]) ?_ rowI_mem (by omega) (by unfold maxLen; omega) (by omega) ?_
  · intro j u hu
    have hj : j < m := by have := (List.getElem?_eq_some_iff.1 hu).1; rwa [rowI_len] at this
    rw [rowI_get Z m j hj] at hu
    rw [← hu, Addr.add_lit]
    exact hI j hj
  · intro v' w' hown hgrow
    simp only [Nat.zero_add, List.nil_append] at hown
    obtain ⟨g, cap, rfl, hg1, hg2⟩ := hown.form (by omega)
    exact hK _ _ (h g cap w' (hS.add ((Below.refl _ _).grown hgrow (Nat.le_refl _) (fun k e => by cases e)) (blkI_of_own hown) hg1))
theorem wpx_emptyI {ops : Array Oper} {rest : List Oper} {op : Oper} {a : Act} {bs : List Nat} {w w0 : World} {Q : Exit → Act → World → Prop} {l e : List (Nat × List Value)} (hS : Sx bs w0 w l e) (hw : Region.wanted op (yielded ops a.tmps) = true)
    (ho : op.op = .buildSlice 41 0 #[]) (h : ∀ b w', Sx bs w0 w' l e → wpList Tryz.prog ops Q rest (a.put op.dst (.slice (some ⟨b, 0, none⟩) 0 0)) w') : wpList Tryz.prog ops Q (op :: rest) a w := by
  refine BigFrame.wpList_want hw fun K hK => ?_
  have e : (execOp a.eval op).run Tryz.prog w = .ok (.value (.slice (some ⟨w.heap.size, 0, none⟩) 0 0)) (w.alloc (.cells #[] 3)) := by
    unfold execOp
    rw [ho]
    go_simp
  unfold Oper.wp
  rw [e]
  exact hK _ _ (h _ _ (hS.call ((Below.refl _ _).alloc (Nat.le_refl _) _)))
theorem wpx_clone0 {ops : Array Oper} {rest : List Oper} {op : Oper} {a : Act} {bs : List Nat} {w w0 : World} {Q : Exit → Act → World → Prop} {l e : List (Nat × List Value)} (hS : Sx bs w0 w l e) (hgd : op.guard = none) (s x : Operand)
    (ho : op.op = .call { callee := .builtin .append, args := #[s, x], argTypes := #[41, 41] }) (hs : a.eval s = .slice (some ⟨w.heap.size, 0, none⟩) 0 0)
    (ad : Addr) (c : Nat) (hx : a.eval x = .slice (some ad) 0 c)
    (h : ∀ la cl w', Sx bs w0 w' l e → wpList Tryz.prog ops Q rest (a.put op.dst (.slice la 0 cl)) w') : wpList Tryz.prog ops Q (op :: rest) a (w.alloc (.cells #[] 3)) := by
  obtain ⟨i0, hi, hz0, hz1, hz2⟩ := info_parts infoI
  have hown : (w.alloc (.cells #[] 3)).ownsRow w.heap.size 3 1 (.slice (some ⟨w.heap.size, 0, none⟩) 0 0) 0 [] :=
    ⟨rfl, .inr ⟨w.heap.size, 0, #[], rfl, Nat.le_refl _, heap_alloc_new _ _, Nat.le_refl _, by unfold maxLen; omega, rfl, rfl⟩⟩
  refine wpList_append_own _ hgd s x 41 ho w.heap.size 3 i0 (.int .i64 0) 1 8 Tryz.underlying41 hi hz0 hz1 hz2 rfl (by decide) _ 0 [] hs hown ad 0 c [] hx rfl (fun j u e => by cases e) (fun u e => by cases e) (by unfold maxLen; omega) (by omega) (by simp) ?_
  intro v' w' hown' hgrow _
  have hS' : Sx bs w0 w' l e := hS.call (((Below.refl w.heap.size w).alloc (Nat.le_refl _) (.cells #[] 3)).grown hgrow (by simp) (fun k e => by
    simp [Value.ownBlock] at e
    omega))
  simp only [Nat.add_zero, List.nil_append] at hown'
  rcases hown'.2 with ⟨hv, _⟩ | ⟨g', cap', cur, hv, _⟩
  · subst hv
    exact h _ _ w' hS'
  · subst hv
    exact h _ _ w' hS'
theorem eqSlN (w : World) : (binOp .eql 41 (.slice none 0 0) (.slice none 0 0)).run Tryz.prog w = .ok (.bool true) w := by kernel_rfl
theorem eqSlS (ad : Addr) (n c : Nat) (w : World) : (binOp .eql 41 (.slice (some ad) n c) (.slice none 0 0)).run Tryz.prog w = .ok (.bool false) w := by kernel_rfl
set_option maxHeartbeats 1000000 in
theorem gClone_pos (w : World) (b off nl cl : Nat) (Z : Nat → Int) (hI : ∀ j, j < nl → w.cell? ⟨b, off + j, none⟩ = some (.int .i64 (Z j))) (hm : 0 < nl) (hb : nl * 8 ≤ 140737488355328) (hlt : b < w.heap.size) :
    Calls Tryz.prog 84 #[.slice (some ⟨b, off, none⟩) nl cl] w fun r w' => ∃ G cg, r = .returned (.slice (some ⟨G, 0, none⟩) nl cg) ∧ Sx [] w w' [(G, rowI Z nl)] [] := by
  have hS := Sx.new w
  have hE := eqSlS ⟨b, off, none⟩ nl cl
  have HI := hide hI
  clear hI
  go_enter Tryz.func84, Tryz.ntmps84
  go_wp2_with (first | (refine wpx_emptyI hS rfl rfl ?_; clear hS; intro _ _ hS) | (refine wpx_cloneI hS rfl _ _ rfl _ rfl _ _ _ _ rfl Z (fun j hj => (hS.bel.cell (p := ⟨b, off + j, none⟩) hlt).trans ((unhide HI) j hj)) hm hb ?_; clear hS; intro _ _ _ hS))
  go_ret
  exact ⟨_, _, rfl, hS⟩
set_option maxHeartbeats 1000000 in
theorem gClone_zero (w : World) (ad : Addr) (cl : Nat) :
    Calls Tryz.prog 84 #[.slice (some ad) 0 cl] w fun r w' => ∃ la cg, r = .returned (.slice la 0 cg) ∧ Below w.heap.size w w' := by
  have hS := Sx.new w
  have hE := eqSlS ad 0 cl
  go_enter Tryz.func84, Tryz.ntmps84
  go_wp2_with (first | (refine wpx_clone0 hS rfl _ _ rfl rfl _ _ rfl ?_; clear hS; intro _ _ _ hS))
  go_ret
  exact ⟨_, _, rfl, hS.bel⟩
set_option maxHeartbeats 1000000 in
theorem gClone_nil (w : World) :
    Calls Tryz.prog 84 #[.slice none 0 0] w fun r w' => r = .returned (.slice none 0 0) ∧ w' = w := by
  have hE := eqSlN
  go_enter Tryz.func84, Tryz.ntmps84
  go_wp2
  go_ret
  exact ⟨rfl, rfl⟩
def StB (la : Option Addr) (nl : Nat) (Z : Nat → Int) (e : List (Nat × List Value)) : Prop := nl = 0 ∨ ∃ G, la = some ⟨G, 0, none⟩ ∧ (G, rowI Z nl) ∈ e
theorem StB.row {bs : List Nat} {w0 w : World} {l e : List (Nat × List Value)} {la : Option Addr} {nl : Nat} {Z : Nat → Int} (h : StB la nl Z e) (hS : Sx bs w0 w l e) : RowOf w la nl (fun i => .int .i64 (Z i)) := by
  rcases h with h | ⟨G, rfl, hG⟩
  · exact .inl h
  · exact (hS.eb _ hG).rowOf
theorem StB.mono {e e' : List (Nat × List Value)} {la : Option Addr} {nl : Nat} {Z : Nat → Int} (h : StB la nl Z e) (hs : ∀ p ∈ e, p ∈ e') : StB la nl Z e' := by
  rcases h with h | ⟨G, rfl, hG⟩
  · exact .inl h
  · exact .inr ⟨G, rfl, hs _ hG⟩
structure Told (w : World) (la : Option Addr) (nl cl : Nat) (Z : Nat → Int) : Prop where
  row : RowOf w la nl (fun i => .int .i64 (Z i))
  no : la = none → nl = 0 ∧ cl = 0
  sz : nl * 8 ≤ 140737488355328
theorem Told.below {w w' : World} {la : Option Addr} {nl cl : Nat} {Z : Nat → Int} (h : Told w la nl cl Z) (b : Below w.heap.size w w') : Told w' la nl cl Z := ⟨h.row.below b, h.no, h.sz⟩
theorem gClone_x {bs : List Nat} {w0 w : World} {l e : List (Nat × List Value)} (hS : Sx bs w0 w l e) {la : Option Addr} {nl cl : Nat} {Z : Nat → Int} (hT : Told w la nl cl Z) :
    Calls Tryz.prog 84 #[.slice la nl cl] w fun r w' => ∃ la' cg sb, r = .returned (.slice la' nl cg) ∧ StB la' nl Z sb ∧ (∀ p ∈ sb, w.heap.size ≤ p.1) ∧ Sx bs w0 w' l (e ++ sb) := by
  obtain ⟨hZ, hno, hb⟩ := hT
  by_cases h0 : nl = 0
  · subst h0
    cases la with
    | none =>
      obtain ⟨_, rfl⟩ := hno rfl
      refine (gClone_nil w).mono ?_
      rintro r w' ⟨rfl, rfl⟩
      exact ⟨_, _, [], rfl, .inl rfl, by simp, by rw [List.append_nil]; exact hS⟩
    | some ad =>
      refine (gClone_zero w ad cl).mono ?_
      rintro r w' ⟨la', cg, rfl, hb'⟩
      exact ⟨_, _, [], rfl, .inl rfl, by simp, by rw [List.append_nil]; exact hS.call hb'⟩
  · obtain ⟨lb, lo, rfl, hlb, hc⟩ := hZ.resolve_left h0
    refine (gClone_pos w lb lo nl cl Z hc (by omega) hb hlb).mono ?_
    rintro r w' ⟨G, cg, rfl, hS2⟩
    have hG := (hS2.low _ (List.mem_of_getElem? (i := 0) rfl)).resolve_left (by simp)
    refine ⟨_, _, [(G, rowI Z nl)], rfl, .inr ⟨G, rfl, by simp⟩, fun p hp => ?_, hS.addE hS2.bel (hS2.get 0 rfl) hG⟩
    obtain rfl : p = _ := by simpa using hp
    exact hG
set_option maxHeartbeats 2000000 in
theorem gIndex_any (la : Option Addr) (nl cl : Nat) (Z : Nat → Int) (x : Int) (w : World) (hb : nl ≤ 50) (hZ : RowOf w la nl (fun i => .int .i64 (Z i))) : Calls Tryz.prog 128 #[.slice la nl cl, .int .i64 x] w fun r w' => ∃ v : Int, r = .returned (.int .i64 v) ∧ ((inZ Z nl x = true ∧ 0 ≤ v) ∨ (inZ Z nl x = false ∧ v = -1)) ∧ w' = w := by
  have HZ := hide hZ
  clear hZ
  go_enter Tryz.func128, Tryz.ntmps128
  go_wp2
  go_loopw [8] (fun i wr => ∃ j : Nat, j ≤ nl ∧ i = .int .i64 j ∧ wr = w ∧ Hid (inZ Z j x = false)) (fun i _ => nl - (intOf i).toNat)
  case atStart => exact ⟨0, Nat.zero_le _, rfl, (by first | rfl | trivial), hide rfl⟩
  case round =>
    obtain ⟨j, hj, rfl, hwr, HJ⟩ := hrel
    have hwr2 := hwr.symm
    clear hwr
    subst hwr2
    by_cases hlt : j < nl
    · have hlti : (j : Int) < (nl : Int) := by omega
      obtain ⟨lb, lo, hla, hlb, hlc⟩ := (unhide HZ).resolve_left (by omega)
      subst hla
      have q9 : w.cell? ⟨lb, lo + j, none⟩ = some (.int .i64 (Z j)) := hlc j hlt
      clear hlc
      by_cases hx : Z j = x
      · have HT := hide (inZ_true hlt hx)
        rw [hx] at q9
        clear hx
        go_wp2
        go_ret
        exact ⟨_, rfl, .inl ⟨unhide HT, by omega⟩, rfl⟩
      · have hx2 : (x == Z j) = false := by simpa using fun q : x = Z j => hx q.symm
        have hx3 : ¬ x = Z j := fun q => hx q.symm
        have HF := hide (show inZ Z (j + 1) x = false by
          show (inZ Z j x || decide (Z j = x)) = false
          rw [unhide HJ, decide_eq_false hx]
          rfl)
        clear hx
        go_wp2
        exact ⟨⟨j + 1, by omega, by go_num, (by first | rfl | trivial), HF⟩, by simp [intOf]; omega⟩
    · have hge : ¬ (j : Int) < (nl : Int) := by omega
      obtain rfl : j = nl := by omega
      go_wp2
      go_ret
      exact ⟨_, rfl, .inr ⟨unhide HJ, rfl⟩, rfl⟩
set_option maxHeartbeats 1000000 in
theorem gContains_any (la : Option Addr) (nl cl : Nat) (Z : Nat → Int) (x : Int) (w : World) (hb : nl ≤ 50) (hZ : RowOf w la nl (fun i => .int .i64 (Z i))) : Calls Tryz.prog 118 #[.slice la nl cl, .int .i64 x] w fun r w' => r = .returned (.bool (inZ Z nl x)) ∧ w' = w := by
  have HC := hide (gIndex_any la nl cl Z x w hb hZ)
  clear hZ
  go_enter Tryz.func118, Tryz.ntmps118
  go_wp2_with fail
  refine (unhide HC).mono ?_
  rintro r u ⟨v, rfl, hv, rfl⟩
  clear HC
  rcases hv with ⟨h1, h2⟩ | ⟨h1, h2⟩
  · have H1 := hide h1
    clear h1
    have hd : decide (0 ≤ v) = true := decide_eq_true h2
    go_wp2
    go_ret
    exact ⟨by rw [unhide H1]; rfl, rfl⟩
  · have H1 := hide h1
    subst h2
    clear h1
    go_wp2
    go_ret
    exact ⟨by rw [unhide H1]; rfl, rfl⟩
end
end Go.Proofs.YtapgghciieloaaaGreat
