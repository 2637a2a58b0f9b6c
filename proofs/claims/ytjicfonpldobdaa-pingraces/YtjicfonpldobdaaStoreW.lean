/-
  The document's own access of a memory: whatever it is.
-/
import Derived.Test.YtjicfonpldobdaaStoreU2
import Derived.Test.YtjicfonpldobdaaStoreU3
import Derived.Test.YtjicfonpldobdaaStoreU4
import Derived.Test.YtjicfonpldobdaaStoreV
import Derived.Test.YtjicfonpldobdaaStoreV3
import Derived.Test.YtjicfonpldobdaaStoreV4
namespace Go.Proofs.Ytjicfonpldobdaa
set_option maxRecDepth 100000
open Go.RowKit Go.Sort

theorem rTouch_any (c : Um.Cf) (v : Value) (m M : Um.Mm) (kind a b : Int) (o x : Nat) (w : World) (hr : c.r = true) (hv : IsWords w v c.n m.ws) (hx : Um.Word x) (hk : kind = 1 ∨ kind = 2 ∨ kind = 3 ∨ kind = 4) (hM : M = Um.mtouch c m kind a b o x) :
    Calls Try.prog 47 #[(.agg #[.int .i64 (c.t), .int .i64 (c.s), .int .i64 (c.k), .int .i64 (c.g), .int .u64 (c.q : Int), v, .int .i64 (m.cnt), .int .i64 (m.l.kind), .int .i64 (m.l.a), .int .i64 (m.l.b), .int .u64 (m.l.old : Nat), .int .u64 (m.l.new : Nat), .bool (m.l.done)]), .int .i64 kind, (.agg #[.int .i64 a, .int .i64 b]), .int .u64 (o : Nat), .int .u64 (x : Nat)] w fun e W' =>
      ∃ v', e = .returned (.tuple #[(.agg #[.int .i64 (c.t), .int .i64 (c.s), .int .i64 (c.k), .int .i64 (c.g), .int .u64 (c.q : Int), v', .int .i64 (M.cnt), .int .i64 (M.l.kind), .int .i64 (M.l.a), .int .i64 (M.l.b), .int .u64 (M.l.old : Nat), .int .u64 (M.l.new : Nat), .bool (M.l.done)]), (.agg #[.int .i64 (M.l.kind), .int .i64 (M.l.a), .int .i64 (M.l.b), .int .u64 (M.l.old : Nat), .int .u64 (M.l.new : Nat), .bool (M.l.done)])]) ∧ IsWords W' v' c.n M.ws ∧ (v' = v ∨ RFresh w W' v' c.n M.ws) ∧ Below w.heap.size w W' := by
  have hn := Um.Cf.n_pos hr
  obtain ⟨g, off, cap, rfl⟩ : ∃ g off cap, v = .slice (some ⟨g, off, none⟩) c.n cap := by
    rcases hv with ⟨_, _, _, h0⟩ | ⟨g, off, cap, rfl, _⟩
    · omega
    · exact ⟨g, off, cap, rfl⟩
  by_cases hp : 0 ≤ c.cl a b
  · have hpe : c.cl a b = ((c.cl a b).toNat : Nat) := (Int.toNat_of_nonneg hp).symm
    have hpn : (c.cl a b).toNat < c.n := Um.Cf.cl_lt hp
    have hM2 : M = Um.mhit m (c.cl a b).toNat kind a b o x := by rw [hM]; unfold Um.mtouch; rw [if_pos hp]
    clear hM
    generalize (c.cl a b).toNat = p at *
    rcases hk with rfl | rfl | rfl | rfl
    · obtain rfl : M = ⟨Um.putW m.ws p (m.ws p), Um.nextI m.cnt, ⟨1, a, b, m.ws p, m.ws p, true⟩⟩ := by rw [hM2]; simp [Um.mhit, Um.trn, Um.trd]
      exact rTouch_1 c g off cap m.cnt m.l a b o x p (m.ws p) m.ws w hpe hpn hv rfl hx
    · obtain rfl : M = ⟨Um.putW m.ws p x, Um.nextI m.cnt, ⟨2, a, b, m.ws p, x, true⟩⟩ := by rw [hM2]; simp [Um.mhit, Um.trn, Um.trd]
      by_cases e : x = m.ws p
      · have := rTouch_2a c g off cap m.cnt m.l a b o x p (m.ws p) m.ws w hpe hpn hv rfl hx e.symm
        rw [← e] at this
        rw [← e]
        exact this
      · exact rTouch_2b c g off cap m.cnt m.l a b o x p (m.ws p) m.ws w hpe hpn hv rfl hx e
    · by_cases e : m.ws p = o
      · obtain rfl : M = ⟨Um.putW m.ws p x, Um.nextI m.cnt, ⟨3, a, b, m.ws p, x, true⟩⟩ := by rw [hM2]; simp [Um.mhit, Um.trn, Um.trd, e]
        by_cases e2 : x = m.ws p
        · have := rTouch_3b c g off cap m.cnt m.l a b o x p (m.ws p) m.ws w hpe hpn hv rfl hx e e2.symm
          rw [← e2] at this
          rw [← e2]
          exact this
        · exact rTouch_3c c g off cap m.cnt m.l a b o x p (m.ws p) m.ws w hpe hpn hv rfl hx e2 e.symm
      · obtain rfl : M = ⟨Um.putW m.ws p (m.ws p), Um.nextI m.cnt, ⟨3, a, b, m.ws p, m.ws p, false⟩⟩ := by rw [hM2]; simp [Um.mhit, Um.trn, Um.trd, e]
        exact rTouch_3a c g off cap m.cnt m.l a b o x p (m.ws p) m.ws w hpe hpn hv rfl hx (by simp; omega)
    · obtain rfl : M = ⟨Um.putW m.ws p (Um.addW (m.ws p) x), Um.nextI m.cnt, ⟨4, a, b, m.ws p, Um.addW (m.ws p) x, true⟩⟩ := by rw [hM2]; simp [Um.mhit, Um.trn, Um.trd]
      by_cases e : Um.addW (m.ws p) x = m.ws p
      · have := rTouch_4a c g off cap m.cnt m.l a b o x p (m.ws p) m.ws w hpe hpn hv rfl hx e
        rw [e]
        exact this
      · exact rTouch_4b c g off cap m.cnt m.l a b o x p (m.ws p) m.ws w hpe hpn hv rfl _ rfl (Um.word_addW _ _) e
  · obtain rfl : M = Um.mmiss m kind a b := by rw [hM]; unfold Um.mtouch; rw [if_neg hp]
    refine (rTouch_miss c (some ⟨g, off, none⟩) c.n cap m.cnt m.l kind a b o x w (by have := c.cl_ge a b; omega)).mono ?_
    rintro e W' ⟨rfl, hb⟩
    exact ⟨_, rfl, (hv.low.below hb).is hb.size, .inl rfl, hb⟩

end Go.Proofs.Ytjicfonpldobdaa
