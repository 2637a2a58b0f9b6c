/-
  The walks of layer 6's functions that make memory: copies of words, a memory of words, a new one.
-/
import Derived.Test.YtjicfonpldobdaaStoreB
namespace Go.Proofs.Ytjicfonpldobdaa
set_option maxRecDepth 100000
open Go.RowKit Go.Sort

theorem splice_all {ws zs : Nat → Nat} (n : Nat) : splice (rowW zs n) 0 (rowW ws n) = rowW ws n := by
  simp [splice, rowW_len]

set_option maxHeartbeats 1000000 in
theorem copied_any {W : World} {v : Value} {n : Nat} {ws : Nat → Nat} (h : IsWords W v n ws) (hp : 0 < n) (hn : n ≤ 1000) :
    Calls Try.prog 60 #[v] W fun e W' => e = .returned (.slice (some ⟨W.heap.size, 0, none⟩) n n) ∧ W'.heap[W.heap.size]? = some (.cells (rowW ws n).toArray 22 (0, 0)) ∧ Below W.heap.size W W' := by
  obtain ⟨i0, hi, hz0, hz1, hz2⟩ := info_parts infoU
  have hm : i0.bytes * n ≤ 281474976710656 := by rw [hz2]; omega
  have hm2 : n ≤ maxLen := by unfold maxLen; omega
  have key : ∀ w1 : World, w1.ownsRow W.heap.size 22 1 (.slice (some ⟨W.heap.size, 0, none⟩) n n) n (madeCells (Value.int .u64 0).cells (n * 1)).toList → w1.heap[W.heap.size]? = some (.cells (rowW (fun _ => 0) n).toArray 22 (0, 0)) := by
    intro w1 h1
    rcases h1.2 with ⟨h, _⟩ | ⟨g, cap, cur, hv, _, hg, _, _, hsz, hcur⟩
    · cases h
    · have e1 := hv
      simp only [Value.slice.injEq, Option.some.injEq, Addr.mk.injEq] at e1
      obtain ⟨⟨rfl, _, _⟩, _, rfl⟩ := e1
      rw [made_zero] at hcur
      rw [hg]
      have : cur.toList = rowW (fun _ => 0) n := by rw [← hcur, List.take_of_length_le (by simp [hsz])]
      rw [← this]
  rcases h with ⟨a, cap, rfl, rfl⟩ | ⟨b, off, cap, rfl, h0, h1, h2, h3, h4⟩
  · omega
  · have HK := hide key
    have H4 := hide h4
    clear key h4
    go_enter Try.func60, Try.ntmps60
    go_wp2_with (first | (at_make; refine wpList_make_full _ rfl _ _ 25 rfl W.heap.size 22 i0 (.int .u64 0) 1 Try.underlying25 hi hz0 hz1 .i64 .i64 _ _ n rfl rfl rfl rfl hm hm2 (Nat.le_refl _) ?_; intro w1 hown hgrow))
    have HR := hide ((unhide HK) w1 hown)
    have hB : Below W.heap.size W w1 := (Below.refl _ _).grown hgrow (Nat.le_refl _) (fun k e => by cases e)
    have HC : Hid (∀ j v, (rowW ws n)[j]? = some v → w1.cell? ((⟨b, off, none⟩ : Addr).add j) = some v) := by
      intro j v hv
      have hj : j < n := by have := (List.getElem?_eq_some_iff.1 hv).1; rwa [rowW_len] at this
      rw [rowW_get ws n j hj] at hv
      rw [← hv, Addr.add_lit, hB.cell (p := ⟨b, off + j, none⟩) h3]
      exact ((unhide H4) j hj).1
    clear hown hgrow HK H4
    obtain ⟨w2, hrun, hg2, hB2⟩ : ∃ w2, (Builtin.copy_ #[25, 25] 3 #[.slice (some ⟨W.heap.size, 0, none⟩) n n, .slice (some ⟨b, off, none⟩) n cap]).run Try.prog w1 = .ok (.int .i64 n) w2 ∧ Hid (w2.heap[W.heap.size]? = some (.cells (rowW ws n).toArray 22 (0, 0))) ∧ Below W.heap.size W w2 := by
      have hr := run_copy_row (P := Try.prog) w1 25 25 3 22 W.heap.size 0 n n ⟨b, off, none⟩ n cap (rowW (fun _ => 0) n).toArray 22 (rowW ws n) Try.underlying25 (by rw [hi]; simp [hz1]) (unhide HR) (by rw [rowW_len]; exact (Nat.min_self n).symm) (unhide HC) (by simp [rowW_len]) rowW_mem
      have e : ((rowW (fun _ => 0) n).toArray.toList.take 0 ++ rowW ws n ++ (rowW (fun _ => 0) n).toArray.toList.drop (0 + (rowW ws n).length)) = rowW ws n := by simp [rowW_len]
      rw [e, rowW_len] at hr
      exact ⟨_, hr, setRow_heap w1 W.heap.size _ _ 22 _ (unhide HR), below_setRow hB (Nat.le_refl _) _⟩
    clear HC HR hB
    rw [hrun]
    clear hrun
    go_wp2
    go_ret
    exact ⟨rfl, unhide hg2, hB2⟩

theorem LowWords.of_row {W : World} {g n : Nat} {ws : Nat → Nat} (hp : 0 < n) (hn : n ≤ 1000) (h : W.heap[g]? = some (.cells (rowW ws n).toArray 22 (0, 0))) (hw : ∀ j, j < n → Um.Word (ws j)) : LowWords (g + 1) W (.slice (some ⟨g, 0, none⟩) n n) n ws :=
  .inr ⟨g, 0, n, rfl, hp, Nat.le_refl _, by unfold maxLen; omega, Nat.lt_succ_self _, fun j hj => ⟨by rw [Nat.zero_add]; exact row_cell h j hj, hw j hj⟩⟩

theorem MemAt.words {W : World} {B C : Nat} {c : Um.Cf} {m : Um.Mm} (h : MemAt W B C c m) : IsWords W (.slice (some ⟨C, 0, none⟩) c.n c.n) c.n m.ws :=
  .inr ⟨C, 0, c.n, rfl, by have := Um.Cf.n_pos h.rt; omega, Nat.le_refl _, by have := c.n_le; unfold maxLen; omega, h.hC, fun j hj => ⟨by rw [Nat.zero_add]; exact h.ws j hj, h.wd j hj⟩⟩

set_option maxHeartbeats 1000000 in
theorem mCells_any {W : World} {B C : Nat} {c : Um.Cf} {m : Um.Mm} (h : MemAt W B C c m) :
    Calls Try.prog 37 #[.pointer (some ⟨B, 0, none⟩)] W fun e W' => e = .returned (.slice (some ⟨W.heap.size, 0, none⟩) c.n c.n) ∧ W'.heap[W.heap.size]? = some (.cells (rowW m.ws c.n).toArray 22 (0, 0)) ∧ Below W.heap.size W W' := by
  have hC := copied_any h.words (by have := Um.Cf.n_pos h.rt; omega) (by have := c.n_le; omega)
  have h5 := h.sl
  have hB := h.hB
  clear h
  go_enter Try.func37, Try.ntmps37
  go_wp2_with fail
  refine hC.mono ?_
  rintro e w1 ⟨rfl, hg, hb⟩
  have HG := hide hg
  clear hg hC
  go_wp2
  go_ret
  exact ⟨rfl, unhide HG, hb⟩

end Go.Proofs.Ytjicfonpldobdaa
