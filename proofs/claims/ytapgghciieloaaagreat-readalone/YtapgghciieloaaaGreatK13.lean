/-
  Texts that the laws stand on, merged (ReadC, ReadMath11).
-/
import Derived.Test.YtapgghciieloaaaGreatK12
import Derived.Test.YtapgghciieloaaaGreatK2
import Derived.LoopTactic

/-
  The walk of what words become when a transaction has conflicts with others, as layer 12's laws reckon it.
-/
namespace Go.Proofs.YtapgghciieloaaaGreat
set_option maxRecDepth 100000
open Go.RowKit Go.Sort
set_option linter.unusedVariables false
set_option linter.unusedSimpArgs false

theorem isWords_drew {W : World} {v : Value} {n : Nat} {ws : Nat → Nat} (h : IsWords W v n ws) : IsWords W.drew v n ws := by
  rcases h with h | ⟨b, off, cap, e, h0, h1, h2, h3, h4⟩
  · exact .inl h
  · exact .inr ⟨b, off, cap, e, h0, h1, h2, h3, h4⟩

theorem oth_put {c : Um.Cf} {x : Int} (hp : 0 ≤ c.cl 4 x) (slot : Int) (ws : Nat → Nat) : Um.putW ws (c.cl 4 x).toNat (Um.withN (ws (c.cl 4 x).toNat) 1 slot) = Um.othw c 1 slot x ws := by
  funext i
  unfold Um.putW Um.othw
  by_cases e : i = (c.cl 4 x).toNat
  · rw [if_pos e, if_pos (by omega), e]
  · rw [if_neg e, if_neg (by omega)]

theorem own_put {c : Um.Cf} {slot : Int} (hp : 0 ≤ c.cl 4 slot) (x : Int) (ws : Nat → Nat) : Um.putW ws (c.cl 4 slot).toNat (Um.withN (ws (c.cl 4 slot).toNat) 0 x) = Um.ownw c 0 slot x ws := by
  funext i
  unfold Um.putW Um.ownw
  by_cases e : i = (c.cl 4 slot).toNat
  · rw [if_pos e, if_pos (by omega), e]
  · rw [if_neg e, if_neg (by omega)]

theorem row_at {W : World} {v : Value} {L : List Int} (h : IsRow W v L) : ∃ a cap, v = .slice a L.length cap ∧ ∀ j, j < L.length → ∃ b off, a = some ⟨b, off, none⟩ ∧ b < W.heap.size ∧ L.length ≤ cap ∧ W.cell? ⟨b, off + j, none⟩ = some (.int .i64 (L[j]?.getD 0)) := by
  rcases h with ⟨rfl, rfl⟩ | ⟨b, off, cap, rfl, h1, h2, h3, h4⟩
  · exact ⟨none, 0, rfl, fun j hj => absurd hj (Nat.not_lt_zero _)⟩
  · exact ⟨_, cap, rfl, fun j hj => ⟨b, off, rfl, h3, h1, h4 j hj⟩⟩

theorem drop_cons {L : List Int} {j : Nat} (hj : j < L.length) : L.drop j = (L[j]?.getD 0) :: L.drop (j + 1) := by
  rw [List.drop_eq_getElem_cons hj]
  simp [hj]

set_option maxRecDepth 100000 in
set_option maxHeartbeats 16000000 in
theorem lConf_any (c : Um.Cf) {v vo : Value} {ws : Nat → Nat} {L : List Int} {slot : Int} (w : World) (hr : c.r = true) (h0 : 0 ≤ slot) (h1 : slot < c.s) (hI : IsWords w v c.n ws) (hO : IsRow w vo L) (hL : ∀ x ∈ L, 0 ≤ x ∧ x ≤ 11) (hlen : L.length ≤ 12)
    (R : (Nat → Nat) × Bool) (hR : R = Um.conf c 1 0 slot (ws (c.cl 5 slot).toNat) ws L) :
    Calls Tryz.prog 27 #[(.agg #[.int .i64 (c.t), .int .i64 (c.s), .int .i64 (c.k), .int .i64 (c.g), .int .u64 (c.q : Int)]), v, .int .i64 slot, .int .i64 0, vo] w fun r w' => ∃ v', r = .returned (.tuple #[v', .bool R.2]) ∧ IsWords w' v' c.n R.1 ∧ Below w.heap.size w w' := by
  obtain ⟨la, cap, rfl, hrow⟩ := row_at hO
  obtain ⟨c4, c5, _⟩ := Um.sl_cells (c := c) hr h0 h1
  have HC4 := hide c4
  have HC5 := hide (show 0 ≤ c.cl 5 slot by omega)
  have HLI := hide hL
  have HROW := hide hrow
  have HI := hide hI
  have HR := hide hr
  have HRR := hide hR
  have HS0 := hide (And.intro h0 h1)
  clear hO hrow hL hI hr hR c4 c5 h0 h1
  have hS := Sx.new w
  go_enter Tryz.func27, Tryz.ntmps27
  go_wp2_with (first | (refine ybox hS (h := ?_); clear hS; intro _ _ hS) | (refine yall hS (h := ?_); clear hS; intro _ _ hS) | refine yld hS (h := ?_) | (refine yst hS (h := ?_); clear hS; intro _ hS))
  refine (lAt_any c (kd := 5) (i := slot) _ ((unhide HI).below hS.bel (Nat.le_refl _)) (by have := unhide HC5; omega)).mono ?_
  rintro r u ⟨rfl, hb⟩
  replace hS := hS.call hb
  clear hb
  obtain ⟨n, hn⟩ : ∃ n, n = ws (c.cl 5 slot).toNat := ⟨_, rfl⟩
  rw [← hn] at HRR ⊢
  clear hn
  go_wp2_with fail
  obtain ⟨CF, rfl⟩ := nameB hS 0 rfl
  go_loopw [1, 22] (fun v1 iv wr => ∃ (j : Nat) (cur : Nat → Nat), j ≤ L.length ∧ iv = .int .i64 j ∧ Hid (IsWords wr v1 c.n cur) ∧ Hid (Um.conf c 1 0 slot n cur (L.drop j) = R) ∧ Hid (Sx [] w wr [(CF, [.int .i64 c.t, .int .i64 c.s, .int .i64 c.k, .int .i64 c.g, .int .u64 c.q])] [])) (fun _ iv _ => L.length - (intOf iv).toNat)
  case atStart => exact ⟨0, ws, Nat.zero_le _, rfl, hide ((unhide HI).below hS.bel (Nat.le_refl _)), hide (unhide HRR).symm, hide hS⟩
  case round =>
    clear hS HI HRR
    rename_i v1 wr
    obtain ⟨j, cur, hj, rfl, HIW, HCF, HS⟩ := hrel
    have hS := unhide HS
    clear HS
    by_cases hlt : j < L.length
    · have hlti : (j : Int) < (L.length : Int) := by omega
      obtain ⟨lb, lo, hla, hlb, hcap, hlc⟩ := (unhide HROW) j hlt
      have q9 : wr.cell? ⟨lb, lo + j, none⟩ = some (.int .i64 (L[j]?.getD 0)) := (hS.bel.cell (p := ⟨lb, lo + j, none⟩) hlb).trans hlc
      subst hla
      have HD := hide (drop_cons hlt)
      have HLX := hide ((unhide HLI) (L[j]?.getD 0) (by
        have e := List.mem_of_mem_drop (show L[j]?.getD 0 ∈ L.drop j by rw [drop_cons hlt]; exact List.mem_cons_self)
        exact e))
      generalize L[j]?.getD 0 = x at q9 HD HLX
      clear hlc
      have HCN := hide ((unhide HD) ▸ (unhide HCF))
      clear HCF
      by_cases hxs : c.s ≤ x
      · have dx : decide (c.s ≤ x) = true := decide_eq_true hxs
        go_wp2_with (first | (refine ybox hS (h := ?_); clear hS; intro _ _ hS) | (refine yall hS (h := ?_); clear hS; intro _ _ hS) | refine yld hS (h := ?_) | (refine yst hS (h := ?_); clear hS; intro _ hS))
        have HS6 := hide hS
        have HC6 := hide (show Um.conf c 1 0 slot n cur (L.drop (j + 1)) = R by
          rw [← unhide HCN]
          have e : Um.cfl c 1 slot n cur x = 1 := by unfold Um.cfl; rw [if_neg (by omega)]
          show _ = if Um.cfl c 1 slot n cur x = 3 then _ else if Um.cfl c 1 slot n cur x = 2 then _ else _
          rw [e, if_neg (by decide), if_neg (by decide)])
        clear hS q9 dx
        go_wp2
        exact ⟨⟨j + 1, cur, by omega, by go_num, HIW, HC6, HS6⟩, by simp [intOf]; omega⟩
      · have dx : decide (c.s ≤ x) = false := decide_eq_false hxs
        have hx0 := (unhide HLX).1
        have HX4 := hide (Um.sl_cells (c := c) (unhide HR) hx0 (show x < c.s by omega)).1
        have HX6 := hide (show 0 ≤ c.cl 6 x by have := Um.sl_cells (c := c) (unhide HR) hx0 (show x < c.s by omega); omega)
        have HXS := hide (And.intro hx0 (show x < c.s by omega))
        go_wp2_with (first | (refine ybox hS (h := ?_); clear hS; intro _ _ hS) | (refine yall hS (h := ?_); clear hS; intro _ _ hS) | refine yld hS (h := ?_) | (refine yst hS (h := ?_); clear hS; intro _ hS))
        refine (lAt_any c (kd := 4) (i := x) _ (unhide HIW) (by have := unhide HX4; omega)).mono ?_
        rintro r u ⟨rfl, hb⟩
        have HIWn := hide ((unhide HIW).below hb (Nat.le_refl _))
        replace hS := hS.call hb
        clear hb HIW
        have HIW := HIWn
        clear HIWn
        obtain ⟨s, hs⟩ : ∃ s, s = cur (c.cl 4 x).toNat := ⟨_, rfl⟩
        have HSW := hide (show Um.Word s by rw [hs]; exact words_word12 (unhide HIW) (Um.Cf.cl_lt (by have := unhide HX4; omega)))
        rw [← hs]
        have HSV := hide hs
        clear hs
        go_wp2_with (first | (refine ybox hS (h := ?_); clear hS; intro _ _ hS) | (refine yall hS (h := ?_); clear hS; intro _ _ hS) | refine yld hS (h := ?_) | (refine yst hS (h := ?_); clear hS; intro _ hS))
        refine (lAt_any c (kd := 6) (i := x) _ (unhide HIW) (by have := unhide HX6; omega)).mono ?_
        rintro r u ⟨rfl, hb⟩
        have HIWn := hide ((unhide HIW).below hb (Nat.le_refl _))
        replace hS := hS.call hb
        clear hb HIW
        have HIW := HIWn
        clear HIWn
        obtain ⟨n6, hn6⟩ : ∃ n6, n6 = cur (c.cl 6 x).toNat := ⟨_, rfl⟩
        have HJ := hide (show Um.cfl c 1 slot n cur x = Um.jtg 1 slot n s n6 by unfold Um.cfl; rw [if_pos (unhide HXS).2, unhide HSV, hn6])
        rw [← hn6]
        clear hn6
        go_wp2_with fail
        refine (lGone_any s n6 n _ (unhide HSW)).mono ?_
        rintro r u ⟨rfl, hb⟩
        have HIWn := hide ((unhide HIW).below hb (Nat.le_refl _))
        replace hS := hS.call hb
        clear hb HIW
        have HIW := HIWn
        clear HIWn
        cases hg : Um.goneB s n6 n with
        | true =>
          have HC6 := hide (show Um.conf c 1 0 slot n cur (L.drop (j + 1)) = R by
            rw [← unhide HCN]
            show _ = if Um.cfl c 1 slot n cur x = 3 then _ else if Um.cfl c 1 slot n cur x = 2 then _ else _
            rw [unhide HJ, Um.jtg_gone (Um.goneB_iff.1 hg), if_neg (by decide), if_neg (by decide)])
          go_wp2_with fail
          have HS6 := hide hS
          clear hS q9 dx
          go_wp2
          exact ⟨⟨j + 1, cur, by omega, by go_num, HIW, HC6, HS6⟩, by simp [intOf]; omega⟩
        | false =>
          have hG : ¬ Um.goneN s n6 n := fun q => by rw [Um.goneB_iff.2 q] at hg; cases hg
          go_wp2_with fail
          refine (refHas_any s 1 slot _ (unhide HSW)).mono ?_
          rintro r u ⟨rfl, rfl⟩
          cases hh : Um.hasN s 1 slot with
          | true =>
            have HK2 := hide (show Um.cfl c 1 slot n cur x = 2 by rw [unhide HJ]; exact Um.jtg_has hG hh)
            go_wp2_with fail
            have k0 := fun w1 (hq : BlkAt w1 CF [.int .i64 c.t, .int .i64 c.s, .int .i64 c.k, .int .i64 c.g, .int .u64 c.q]) => hq.cell 0 _ rfl
            have k1 := fun w1 (hq : BlkAt w1 CF [.int .i64 c.t, .int .i64 c.s, .int .i64 c.k, .int .i64 c.g, .int .u64 c.q]) => hq.cell 1 _ rfl
            have k2 := fun w1 (hq : BlkAt w1 CF [.int .i64 c.t, .int .i64 c.s, .int .i64 c.k, .int .i64 c.g, .int .u64 c.q]) => hq.cell 2 _ rfl
            have k3 := fun w1 (hq : BlkAt w1 CF [.int .i64 c.t, .int .i64 c.s, .int .i64 c.k, .int .i64 c.g, .int .u64 c.q]) => hq.cell 3 _ rfl
            have k4 := fun w1 (hq : BlkAt w1 CF [.int .i64 c.t, .int .i64 c.s, .int .i64 c.k, .int .i64 c.g, .int .u64 c.q]) => hq.cell 4 _ rfl
            have HP := hide (hS.get 0 rfl)
            have HS3 := hide hS
            clear hS q9 dx
            go_region_held3 (fun w1 => BlkAt w1 CF [.int .i64 c.t, .int .i64 c.s, .int .i64 c.k, .int .i64 c.g, .int .u64 c.q]) (first | exact (unhide HP).drew | exact BlkAt.below (by assumption) (by assumption) | assumption) (first | (go_at_call 25; refine (of12_any _ _ _).mono ?_; rintro e u5 ⟨rfl, hb5⟩) | (go_at_call 38; refine (refWith_any s 1 slot _ (unhide HSW)).mono ?_; rintro e u6 ⟨rfl, rfl⟩) | (go_at_call 24; refine (lPut_any c (kd := 4) (i := x) _ ((unhide HIW).below (below_undrew hb5) (Nat.le_refl _)) (by have := unhide HX4; omega) (Um.with_word (unhide HSW) _ _)).mono ?_; rintro e u7 ⟨v2, rfl, hI2, hb7⟩))
            all_goals
              have hS := ((unhide HS3).undrew hb5).call hb7
              rw [show Um.putW cur (c.cl 4 x).toNat (Um.withN s 1 slot) = Um.othw c 1 slot x cur by rw [unhide HSV]; exact oth_put (by have := unhide HX4; omega) slot cur] at hI2
              clear hb5 hb7 HS3 HP HIW
              have HIW := hide hI2
              clear hI2
              go_wp2_with fail
              have HP := hide (hS.get 0 rfl)
              have HS3 := hide hS
              clear hS
              go_region_held3 (fun w1 => BlkAt w1 CF [.int .i64 c.t, .int .i64 c.s, .int .i64 c.k, .int .i64 c.g, .int .u64 c.q]) (first | exact (unhide HP).drew | exact BlkAt.below (by assumption) (by assumption) | assumption) (first | (go_at_call 25; refine (of12_any _ _ _).mono ?_; rintro e u5 ⟨rfl, hb5⟩) | (go_at_call 23; refine (lAt_any c (kd := 4) (i := slot) _ (by first | exact (unhide HIW).below (below_undrew hb5) (Nat.le_refl _) | exact isWords_drew (unhide HIW)) (by have := unhide HC4; omega)).mono ?_; rintro e u6 ⟨rfl, hb6⟩) | (go_at_call 38; refine (refWith_any _ 0 x _ (words_word12 (unhide HIW) (Um.Cf.cl_lt (by have := unhide HC4; omega)))).mono ?_; rintro e u8 ⟨rfl, rfl⟩) | (go_at_call 24; refine (lPut_any c (kd := 4) (i := slot) _ (by first | exact ((unhide HIW).below (below_undrew hb5) (Nat.le_refl _)).below hb6 (Nat.le_refl _) | exact ((unhide HIW).below (below_undrew hb6) (Nat.le_refl _)).below hb5 (Nat.le_refl _)) (by have := unhide HC4; omega) (Um.with_word (words_word12 (unhide HIW) (Um.Cf.cl_lt (by have := unhide HC4; omega))) _ _)).mono ?_; rintro e u7 ⟨v3, rfl, hI3, hb7⟩))
              all_goals
                rw [own_put (by have := unhide HC4; omega)] at hI3
                have HI3 := hide hI3
                have HS6 : Hid (Sx [] w u7 [(CF, [.int .i64 c.t, .int .i64 c.s, .int .i64 c.k, .int .i64 c.g, .int .u64 c.q])] []) := by first | exact hide ((((unhide HS3).undrew hb5).call hb6).call hb7) | exact hide ((((unhide HS3).undrew hb6).call hb5).call hb7)
                have HC6 := hide (show Um.conf c 1 0 slot n (Um.ownw c 0 slot x (Um.othw c 1 slot x cur)) (L.drop (j + 1)) = R by
                  rw [← unhide HCN]
                  show _ = if Um.cfl c 1 slot n cur x = 3 then _ else if Um.cfl c 1 slot n cur x = 2 then _ else _
                  rw [unhide HK2, if_neg (by decide), if_pos rfl])
                clear hI3 hb5 hb6 hb7 HS3 HP HIW k0 k1 k2 k3 k4
                go_wp2
                exact ⟨⟨j + 1, _, by omega, by go_num, HI3, HC6, HS6⟩, by simp [intOf]; omega⟩
          | false =>
            go_wp2_with fail
            refine (rState_b s _ (unhide HSW)).mono ?_
            rintro r u ⟨rfl, hb⟩
            have HIWn := hide ((unhide HIW).below hb (Nat.le_refl _))
            replace hS := hS.call hb
            clear hb HIW
            have HIW := HIWn
            clear HIWn
            by_cases h2 : Um.stN s = 2
            · have a3p : ((Um.stN s : Nat) : Int) = 2 := by omega
              have a3 : (((Um.stN s : Nat) : Int) != 2) = false := by rw [a3p]; simp
              have HK2 := hide (show Um.cfl c 1 slot n cur x = 2 by rw [unhide HJ]; exact Um.jtg_lay hG hh (.inl h2))
              go_wp2_with fail
              clear a3 a3p
              have k0 := fun w1 (hq : BlkAt w1 CF [.int .i64 c.t, .int .i64 c.s, .int .i64 c.k, .int .i64 c.g, .int .u64 c.q]) => hq.cell 0 _ rfl
              have k1 := fun w1 (hq : BlkAt w1 CF [.int .i64 c.t, .int .i64 c.s, .int .i64 c.k, .int .i64 c.g, .int .u64 c.q]) => hq.cell 1 _ rfl
              have k2 := fun w1 (hq : BlkAt w1 CF [.int .i64 c.t, .int .i64 c.s, .int .i64 c.k, .int .i64 c.g, .int .u64 c.q]) => hq.cell 2 _ rfl
              have k3 := fun w1 (hq : BlkAt w1 CF [.int .i64 c.t, .int .i64 c.s, .int .i64 c.k, .int .i64 c.g, .int .u64 c.q]) => hq.cell 3 _ rfl
              have k4 := fun w1 (hq : BlkAt w1 CF [.int .i64 c.t, .int .i64 c.s, .int .i64 c.k, .int .i64 c.g, .int .u64 c.q]) => hq.cell 4 _ rfl
              have HP := hide (hS.get 0 rfl)
              have HS3 := hide hS
              clear hS q9 dx
              go_region_held3 (fun w1 => BlkAt w1 CF [.int .i64 c.t, .int .i64 c.s, .int .i64 c.k, .int .i64 c.g, .int .u64 c.q]) (first | exact (unhide HP).drew | exact BlkAt.below (by assumption) (by assumption) | assumption) (first | (go_at_call 25; refine (of12_any _ _ _).mono ?_; rintro e u5 ⟨rfl, hb5⟩) | (go_at_call 38; refine (refWith_any s 1 slot _ (unhide HSW)).mono ?_; rintro e u6 ⟨rfl, rfl⟩) | (go_at_call 24; refine (lPut_any c (kd := 4) (i := x) _ ((unhide HIW).below (below_undrew hb5) (Nat.le_refl _)) (by have := unhide HX4; omega) (Um.with_word (unhide HSW) _ _)).mono ?_; rintro e u7 ⟨v2, rfl, hI2, hb7⟩))
              all_goals
                have hS := ((unhide HS3).undrew hb5).call hb7
                rw [show Um.putW cur (c.cl 4 x).toNat (Um.withN s 1 slot) = Um.othw c 1 slot x cur by rw [unhide HSV]; exact oth_put (by have := unhide HX4; omega) slot cur] at hI2
                clear hb5 hb7 HS3 HP HIW
                have HIW := hide hI2
                clear hI2
                go_wp2_with fail
                have HP := hide (hS.get 0 rfl)
                have HS3 := hide hS
                clear hS
                go_region_held3 (fun w1 => BlkAt w1 CF [.int .i64 c.t, .int .i64 c.s, .int .i64 c.k, .int .i64 c.g, .int .u64 c.q]) (first | exact (unhide HP).drew | exact BlkAt.below (by assumption) (by assumption) | assumption) (first | (go_at_call 25; refine (of12_any _ _ _).mono ?_; rintro e u5 ⟨rfl, hb5⟩) | (go_at_call 23; refine (lAt_any c (kd := 4) (i := slot) _ (by first | exact (unhide HIW).below (below_undrew hb5) (Nat.le_refl _) | exact isWords_drew (unhide HIW)) (by have := unhide HC4; omega)).mono ?_; rintro e u6 ⟨rfl, hb6⟩) | (go_at_call 38; refine (refWith_any _ 0 x _ (words_word12 (unhide HIW) (Um.Cf.cl_lt (by have := unhide HC4; omega)))).mono ?_; rintro e u8 ⟨rfl, rfl⟩) | (go_at_call 24; refine (lPut_any c (kd := 4) (i := slot) _ (by first | exact ((unhide HIW).below (below_undrew hb5) (Nat.le_refl _)).below hb6 (Nat.le_refl _) | exact ((unhide HIW).below (below_undrew hb6) (Nat.le_refl _)).below hb5 (Nat.le_refl _)) (by have := unhide HC4; omega) (Um.with_word (words_word12 (unhide HIW) (Um.Cf.cl_lt (by have := unhide HC4; omega))) _ _)).mono ?_; rintro e u7 ⟨v3, rfl, hI3, hb7⟩))
                all_goals
                  rw [own_put (by have := unhide HC4; omega)] at hI3
                  have HI3 := hide hI3
                  have HS6 : Hid (Sx [] w u7 [(CF, [.int .i64 c.t, .int .i64 c.s, .int .i64 c.k, .int .i64 c.g, .int .u64 c.q])] []) := by first | exact hide ((((unhide HS3).undrew hb5).call hb6).call hb7) | exact hide ((((unhide HS3).undrew hb6).call hb5).call hb7)
                  have HC6 := hide (show Um.conf c 1 0 slot n (Um.ownw c 0 slot x (Um.othw c 1 slot x cur)) (L.drop (j + 1)) = R by
                    rw [← unhide HCN]
                    show _ = if Um.cfl c 1 slot n cur x = 3 then _ else if Um.cfl c 1 slot n cur x = 2 then _ else _
                    rw [unhide HK2, if_neg (by decide), if_pos rfl])
                  clear hI3 hb5 hb6 hb7 HS3 HP HIW k0 k1 k2 k3 k4
                  go_wp2
                  exact ⟨⟨j + 1, _, by omega, by go_num, HI3, HC6, HS6⟩, by simp [intOf]; omega⟩
            · have a3p : ¬ ((Um.stN s : Nat) : Int) = 2 := by omega
              have a3 : (((Um.stN s : Nat) : Int) != 2) = true := by simpa using a3p
              go_wp2_with fail
              clear a3 a3p
              refine (drew_below (refAny_any s 0 _ (unhide HSW))).mono ?_
              rintro r u ⟨rfl, hb⟩
              have HIWn := hide ((unhide HIW).below hb (Nat.le_refl _))
              replace hS := hS.call hb
              clear hb HIW
              have HIW := HIWn
              clear HIWn
              cases ha : Um.anyN s 0 with
              | true =>
                have HC6 := hide (show ((cur, false) : (Nat → Nat) × Bool) = R by
                  rw [← unhide HCN]
                  show _ = if Um.cfl c 1 slot n cur x = 3 then _ else if Um.cfl c 1 slot n cur x = 2 then _ else _
                  rw [unhide HJ, Um.jtg_fail hG hh h2 ha, if_pos rfl])
                have HS6 := hide hS
                clear hS q9 dx
                go_wp2
                go_ret2
                refine ⟨_, by rw [← unhide HC6]; rfl, by rw [← unhide HC6]; exact unhide HIW, (unhide HS6).bel⟩
              | false =>
                have HK2 := hide (show Um.cfl c 1 slot n cur x = 2 by rw [unhide HJ]; exact Um.jtg_lay hG hh (.inr ha))
                go_wp2_with fail
                have k0 := fun w1 (hq : BlkAt w1 CF [.int .i64 c.t, .int .i64 c.s, .int .i64 c.k, .int .i64 c.g, .int .u64 c.q]) => hq.cell 0 _ rfl
                have k1 := fun w1 (hq : BlkAt w1 CF [.int .i64 c.t, .int .i64 c.s, .int .i64 c.k, .int .i64 c.g, .int .u64 c.q]) => hq.cell 1 _ rfl
                have k2 := fun w1 (hq : BlkAt w1 CF [.int .i64 c.t, .int .i64 c.s, .int .i64 c.k, .int .i64 c.g, .int .u64 c.q]) => hq.cell 2 _ rfl
                have k3 := fun w1 (hq : BlkAt w1 CF [.int .i64 c.t, .int .i64 c.s, .int .i64 c.k, .int .i64 c.g, .int .u64 c.q]) => hq.cell 3 _ rfl
                have k4 := fun w1 (hq : BlkAt w1 CF [.int .i64 c.t, .int .i64 c.s, .int .i64 c.k, .int .i64 c.g, .int .u64 c.q]) => hq.cell 4 _ rfl
                have HP := hide (hS.get 0 rfl)
                have HS3 := hide hS
                clear hS q9 dx
                go_region_held3 (fun w1 => BlkAt w1 CF [.int .i64 c.t, .int .i64 c.s, .int .i64 c.k, .int .i64 c.g, .int .u64 c.q]) (first | exact (unhide HP).drew | exact BlkAt.below (by assumption) (by assumption) | assumption) (first | (go_at_call 25; refine (of12_any _ _ _).mono ?_; rintro e u5 ⟨rfl, hb5⟩) | (go_at_call 38; refine (refWith_any s 1 slot _ (unhide HSW)).mono ?_; rintro e u6 ⟨rfl, rfl⟩) | (go_at_call 24; refine (lPut_any c (kd := 4) (i := x) _ ((unhide HIW).below (below_undrew hb5) (Nat.le_refl _)) (by have := unhide HX4; omega) (Um.with_word (unhide HSW) _ _)).mono ?_; rintro e u7 ⟨v2, rfl, hI2, hb7⟩))
                all_goals
                  have hS := ((unhide HS3).undrew hb5).call hb7
                  rw [show Um.putW cur (c.cl 4 x).toNat (Um.withN s 1 slot) = Um.othw c 1 slot x cur by rw [unhide HSV]; exact oth_put (by have := unhide HX4; omega) slot cur] at hI2
                  clear hb5 hb7 HS3 HP HIW
                  have HIW := hide hI2
                  clear hI2
                  go_wp2_with fail
                  have HP := hide (hS.get 0 rfl)
                  have HS3 := hide hS
                  clear hS
                  go_region_held3 (fun w1 => BlkAt w1 CF [.int .i64 c.t, .int .i64 c.s, .int .i64 c.k, .int .i64 c.g, .int .u64 c.q]) (first | exact (unhide HP).drew | exact BlkAt.below (by assumption) (by assumption) | assumption) (first | (go_at_call 25; refine (of12_any _ _ _).mono ?_; rintro e u5 ⟨rfl, hb5⟩) | (go_at_call 23; refine (lAt_any c (kd := 4) (i := slot) _ (by first | exact (unhide HIW).below (below_undrew hb5) (Nat.le_refl _) | exact isWords_drew (unhide HIW)) (by have := unhide HC4; omega)).mono ?_; rintro e u6 ⟨rfl, hb6⟩) | (go_at_call 38; refine (refWith_any _ 0 x _ (words_word12 (unhide HIW) (Um.Cf.cl_lt (by have := unhide HC4; omega)))).mono ?_; rintro e u8 ⟨rfl, rfl⟩) | (go_at_call 24; refine (lPut_any c (kd := 4) (i := slot) _ (by first | exact ((unhide HIW).below (below_undrew hb5) (Nat.le_refl _)).below hb6 (Nat.le_refl _) | exact ((unhide HIW).below (below_undrew hb6) (Nat.le_refl _)).below hb5 (Nat.le_refl _)) (by have := unhide HC4; omega) (Um.with_word (words_word12 (unhide HIW) (Um.Cf.cl_lt (by have := unhide HC4; omega))) _ _)).mono ?_; rintro e u7 ⟨v3, rfl, hI3, hb7⟩))
                  all_goals
                    rw [own_put (by have := unhide HC4; omega)] at hI3
                    have HI3 := hide hI3
                    have HS6 : Hid (Sx [] w u7 [(CF, [.int .i64 c.t, .int .i64 c.s, .int .i64 c.k, .int .i64 c.g, .int .u64 c.q])] []) := by first | exact hide ((((unhide HS3).undrew hb5).call hb6).call hb7) | exact hide ((((unhide HS3).undrew hb6).call hb5).call hb7)
                    have HC6 := hide (show Um.conf c 1 0 slot n (Um.ownw c 0 slot x (Um.othw c 1 slot x cur)) (L.drop (j + 1)) = R by
                      rw [← unhide HCN]
                      show _ = if Um.cfl c 1 slot n cur x = 3 then _ else if Um.cfl c 1 slot n cur x = 2 then _ else _
                      rw [unhide HK2, if_neg (by decide), if_pos rfl])
                    clear hI3 hb5 hb6 hb7 HS3 HP HIW k0 k1 k2 k3 k4
                    go_wp2
                    exact ⟨⟨j + 1, _, by omega, by go_num, HI3, HC6, HS6⟩, by simp [intOf]; omega⟩
    · have hge : ¬ (j : Int) < (L.length : Int) := by omega
      obtain rfl : j = L.length := by omega
      have HC6 := hide (show ((cur, true) : (Nat → Nat) × Bool) = R by
        rw [← unhide HCF, List.drop_length]
        rfl)
      have HS6 := hide hS
      clear hS
      go_wp2
      go_ret2
      refine ⟨_, by rw [← unhide HC6]; rfl, by rw [← unhide HC6]; exact unhide HIW, (unhide HS6).bel⟩

end Go.Proofs.YtapgghciieloaaaGreat

/-
  Plain arithmetic of layer 12: a read that is alone, as its law reckons it: word by word. No Go in sight.
-/
namespace Um
set_option maxRecDepth 100000

section
variable {c : Cf} {h : Nat} {inn : Nat → Bool} {ky slot : Int} {n : Nat}

theorem conf_bs (hr : c.r = true) (h0 : 0 ≤ slot) (h1 : slot < c.s) : ∀ (L : List Int) (ws : Nat → Nat), (∀ x ∈ L, 0 ≤ x ∧ x ≠ slot) →
    conf c 1 0 slot n (bsw c slot ws) L = (bsw c slot (conf c 1 0 slot n ws L).1, (conf c 1 0 slot n ws L).2) := by
  intro L
  induction L with
  | nil => intro ws _; rfl
  | cons x r ih =>
    intro ws hL
    have hx := hL x List.mem_cons_self
    have hr2 : ∀ y ∈ r, 0 ≤ y ∧ y ≠ slot := fun y hy => hL y (List.mem_cons_of_mem _ hy)
    have e := cfl_bs (so := 1) (n := n) hr h0 h1 ws hx.1 hx.2
    show (if cfl c 1 slot n (bsw c slot ws) x = 3 then _ else if cfl c 1 slot n (bsw c slot ws) x = 2 then _ else _) = _
    rw [e]
    have hc : conf c 1 0 slot n ws (x :: r) = if cfl c 1 slot n ws x = 3 then (ws, false) else if cfl c 1 slot n ws x = 2 then conf c 1 0 slot n (ownw c 0 slot x (othw c 1 slot x ws)) r else conf c 1 0 slot n ws r := rfl
    rw [hc]
    by_cases q3 : cfl c 1 slot n ws x = 3
    · rw [if_pos q3, if_pos q3]
    · rw [if_neg q3, if_neg q3]
      by_cases q2 : cfl c 1 slot n ws x = 2
      · rw [if_pos q2, if_pos q2, show ownw c 0 slot x (othw c 1 slot x (bsw c slot ws)) = bsw c slot (ownw c 0 slot x (othw c 1 slot x ws)) from bsw_layw x ws]
        exact ih _ hr2
      · rw [if_neg q2, if_neg q2]
        exact ih _ hr2

theorem move_bzN (x : Nat) : moveN (bzN x) 5 false = moveN x 5 false := by
  apply Nat.eq_of_testBit_eq
  intro j
  rw [move_bits (by decide), move_bits (by decide)]
  by_cases e1 : j = 26
  · rw [if_pos e1, if_pos e1]
  · rw [if_neg e1, if_neg e1]
    by_cases e2 : 27 ≤ j ∧ j < 30
    · rw [if_pos e2, if_pos e2]
    · rw [if_neg e2, if_neg e2]
      unfold bzN
      rw [testBit_setN, if_neg (fun q => e1 q.symm)]

theorem lst5 (v : Nat) : lst 5 v = 5 := by unfold lst; rw [if_neg (by decide)]; rfl

theorem mk_put {k : Int} (hp : 0 ≤ c.cl 8 k) (ws : Nat → Nat) : putW ws (c.cl 8 k).toNat (withN (ws (c.cl 8 k).toNat) 0 slot) = mkw c 0 k slot ws := by
  funext i
  unfold putW mkw
  by_cases e : i = (c.cl 8 k).toNat
  · rw [if_pos e, if_pos (by omega), e]
  · rw [if_neg e, if_neg (by omega)]

theorem alone_words (hr : c.r = true) (hn : ook h c.s = true) (k0 : 0 ≤ ky) (k1 : ky < c.k) (m : Mm) (hf : flN h inn (m.ws (c.cl 4 (svN h)).toNat) = 0) (A : Rd) (hA : A = rdit c h inn ky (svN h) (rdbeg c h ky m) 300)
    (R : (Nat → Nat) × Bool) (hR : R = conf c 1 0 (svN h) (mkw c 0 ky (svN h) m.ws (c.cl 5 (svN h)).toNat) (mkw c 0 ky (svN h) m.ws) (othersN (m.ws (c.cl 8 ky).toNat) 1 (svN h))) :
    A.e = (if R.2 = true then 0 else 7) ∧ A.m.ws = (if R.2 = true then R.1 else putW R.1 (c.cl 4 (svN h)).toNat (moveN (R.1 (c.cl 4 (svN h)).toNat) 5 false)) := by
  obtain ⟨h0, h1⟩ := slot_in hn
  obtain ⟨c4, c5, _⟩ := sl_cells (c := c) hr h0 h1
  obtain ⟨d8, dne, dn5, _⟩ := key_cells hr h0 h1 k0 k1
  have hnf : (mkw c 0 ky (svN h) m.ws (c.cl 5 (svN h)).toNat) = m.ws (c.cl 5 (svN h)).toNat := if_neg (by omega)
  rw [hnf] at hR
  have hLs : ∀ x ∈ othersN (m.ws (c.cl 8 ky).toNat) 1 (svN h), 0 ≤ x ∧ x ≠ svN h := ot_facts
  obtain ⟨o', r1, r2, r3, r4⟩ := read_alone (key := ky) (slot := svN h) hr hn rfl k0 k1 m hf _ rfl
  have hk1 : ¬ (ky < 0 ∨ c.k ≤ ky) := by omega
  rw [rdbeg_yes hk1 hn] at hA
  have eA : A = o' := by rw [hA]; exact reach_end r1 r2 (by decide)
  rw [mkw_bsw, conf_bs hr h0 h1 _ _ hLs, ← hR] at r3 r4
  have r3' : o'.e = if R.2 = true then 0 else 7 := r3
  have r4' : o'.m.ws = lvw c (svN h) (if R.2 = true then -1 else 5) (bsw c (svN h) R.1) := r4
  refine ⟨by rw [eA]; exact r3', ?_⟩
  rw [eA, r4']
  cases hr2 : R.2 with
  | true =>
    rw [if_pos rfl, if_pos rfl]
    refine lvw_bsw ?_
    have hP : ∀ x ∈ othersN (m.ws (c.cl 8 ky).toNat) 1 (svN h), Pc c (svN h) (m.ws (c.cl 5 (svN h)).toNat) (mkw c 0 ky (svN h) m.ws) x = decide (cfl c 1 (svN h) (m.ws (c.cl 5 (svN h)).toNat) (mkw c 0 ky (svN h) m.ws) x = 2) := fun _ _ => rfl
    obtain ⟨L', l1, l2, _⟩ := conf_lays (so := 1) (sw := 0) hr (.inr rfl) h0 h1 (Pc c (svN h) (m.ws (c.cl 5 (svN h)).toNat) (mkw c 0 ky (svN h) m.ws)) (othersN (m.ws (c.cl 8 ky).toNat) 1 (svN h)) (mkw c 0 ky (svN h) m.ws) hLs hP
    rw [hR, l2, (layL_parts (so := 1) hr (.inl rfl) h0 h1 (Pc c (svN h) (m.ws (c.cl 5 (svN h)).toNat) (mkw c 0 ky (svN h) m.ws)) L' (mkw c 0 ky (svN h) m.ws) (fun x hx => ⟨(hLs x (l1 x hx)).1, (hLs x (l1 x hx)).2, fun hp => P_in hr hp⟩) (c.cl 4 (svN h)).toNat (by omega)).2.2, show mkw c 0 ky (svN h) m.ws (c.cl 4 (svN h)).toNat = m.ws (c.cl 4 (svN h)).toNat from if_neg (by omega)]
    exact (fl_facts hf).2.2.1
  | false =>
    rw [if_neg (by decide), if_neg (by decide)]
    funext i
    unfold lvw putW
    by_cases e : (i : Int) = c.cl 4 (svN h)
    · have e2 : i = (c.cl 4 (svN h)).toNat := by omega
      rw [if_pos e, if_pos e2, lst5, ← e2, show bsw c (svN h) R.1 i = bzN (R.1 i) from if_pos e, move_bzN]
    · rw [if_neg e, if_neg (by omega)]
      exact if_neg e

end

end Um
