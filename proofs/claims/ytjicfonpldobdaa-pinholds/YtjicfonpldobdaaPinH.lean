/-
  The walk of a grace that is played to its end.
-/
import Derived.Test.YtjicfonpldobdaaPinX
import Derived.Test.YtjicfonpldobdaaPinMath2
import Derived.LoopTactic
namespace Go.Proofs.Ytjicfonpldobdaa
set_option maxRecDepth 100000
open Go.RowKit Go.Sort

theorem neGrc (a : Addr) (w : World) : (binOp .neq 66 (.pointer (some a)) (.pointer none)).run Try.prog w = .ok (.bool true) w := by go_simp

section
variable {bs : List Nat} {w0 w : World} {l e : List (Nat × List Value)} {B C : Nat} {c : Um.Cf} {m : Um.Mm}

set_option maxHeartbeats 4000000 in
theorem graced_x (hS : Sx bs w0 w l e) (i j : Nat) (hi : l[i]? = some (B, memL c C m)) (hj : l[j]? = some (C, rowW m.ws c.n)) (hij : i ≠ j) (hr : c.r = true) (hw : WordsOk c m) (own : Int) (ret : Nat) (S : Um.Gs) (hs : S = Um.git c own ret ⟨m, Um.goTo own 0, false⟩ c.t.toNat) :
    Calls Try.prog 36 #[.pointer (some ⟨B, 0, none⟩), .int .i64 own, .int .u64 ret] w fun r w' => r = .returned (.bool S.later) ∧ WordsOk c S.m ∧ Sx bs w0 w' (putL l [(i, B, memL c C S.m), (j, C, rowW S.m.ws c.n)]) e := by
  obtain ⟨n, hn⟩ : ∃ n : Nat, c.t = n := ⟨c.t.toNat, by have := c.rb hr; omega⟩
  have hn' : c.t.toNat = n := by omega
  have hnb : n ≤ 8 := by have := c.rb hr; omega
  rw [hn'] at hs
  have HN := hide hn
  clear hn hn'
  have HC := hide (fun k => (Um.git_char hr m own ret k).2.1)
  have HS := hide hS
  have HI := hide (And.intro hi hj)
  have hL := hS.enter2 i j hi hj hij
  have HR := hide hr
  have HW0 := hide hw
  have Hs := hide hs
  have hF := field_thr
  clear hS hi hj hr hw hs
  have hS := hL
  clear hL
  go_enter Try.func36, Try.ntmps36
  go_wp2_with fail
  refine (gNew_x hS own ret).mono ?_
  rintro r u ⟨G, rfl, hSn⟩
  clear hS
  have hS := hSn
  clear hSn
  dsimp only [List.cons_append, List.nil_append] at hS
  go_wp2_with fail
  refine (config_x hS 0 1 rfl rfl (by decide) (unhide HR) (unhide HW0)).mono ?_
  rintro r u2 ⟨rfl, hb⟩
  replace hS := hS.call hb
  clear hb
  go_wp2_with fail
  go_loopw [14] (fun i wr => ∃ k : Nat, k ≤ n ∧ i = .int .i64 k ∧ Hid (WordsOk c (Um.git c own ret ⟨m, Um.goTo own 0, false⟩ k).m) ∧ Hid (Sx [B, C] w wr [(B, memL c C (Um.git c own ret ⟨m, Um.goTo own 0, false⟩ k).m), (C, rowW (Um.git c own ret ⟨m, Um.goTo own 0, false⟩ k).m.ws c.n), (G, grcL G own ret (Um.git c own ret ⟨m, Um.goTo own 0, false⟩ k).oth (Um.git c own ret ⟨m, Um.goTo own 0, false⟩ k).later)] [])) (fun i _ => n - (intOf i).toNat)
  case atStart => exact ⟨0, Nat.zero_le _, rfl, HW0, hS⟩
  case round =>
    clear hS HW0
    rename_i wr
    obtain ⟨k, hk, rfl, HW, HS3⟩ := hrel
    have hS := unhide HS3
    clear HS3
    by_cases hlt : k < n
    · have hlti : (k : Int) < c.t := by rw [unhide HN]; omega
      go_wp2_with fail
      refine (gStep_x hS 0 1 2 _ (Um.git c own ret ⟨m, Um.goTo own 0, false⟩ (k + 1)) rfl rfl rfl (by decide) (by decide) (by decide) (unhide HR) (unhide HW) ((unhide HC) k) rfl).mono ?_
      rintro r u3 ⟨rfl, hWn, hSn⟩
      clear hS
      dsimp only [putL, List.set] at hSn
      have HW6 := hide hWn
      have HS6 := hide hSn
      clear hWn hSn
      go_wp2
      exact ⟨⟨k + 1, by omega, by go_num, HW6, HS6⟩, by simp [intOf]; omega⟩
    · have hge : ¬ (k : Int) < c.t := by rw [unhide HN]; omega
      obtain rfl : k = n := by omega
      have hS' := (unhide HS).back2 i j (unhide HI).1 (unhide HI).2 hS
      go_wp2_with fail
      refine (gLater_x hS 2 rfl).mono ?_
      rintro r u3 ⟨rfl, rfl⟩
      have HSe := hide hS'
      clear hS hS'
      rw [← unhide Hs] at HSe HW
      rw [← unhide Hs]
      clear Hs hlt hk hge HC
      go_wp2
      go_ret
      exact ⟨rfl, unhide HW, unhide HSe⟩

end

end Go.Proofs.Ytjicfonpldobdaa
