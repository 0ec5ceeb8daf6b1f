/-
  The statements' read of layer 18 (made by wip/lab/genfcsame.py).
-/
import Derived.Test.YtmmdhhjpbolkhaaGreatIcSame
namespace Go.Proofs.YtmmdhhjpbolkhaaGreat
open Go.RowKit
set_option linter.unusedVariables false
set_option linter.unusedSimpArgs false

set_option maxRecDepth 100000 in
set_option maxHeartbeats 4000000 in
theorem read18_any {w : World} {lo p : Nat} {l : List Nat} {i : Nat} {er : Int} {A : Option Addr} {c : Nat} {B : Nat} {A1 : Option Addr} {b : List Nat} {c1 : Nat} {A2 : Option Addr} {wt : List Nat} {c2 : Nat} (h : Cur w lo p l i er A c)
    (hb : Sees w B A1 (bts b)) (hw : Sees w B A2 (bts wt)) (hbl : b.length ≤ c1) (hc1 : c1 ≤ maxLen) (hbm : b.length ≤ 1000000000000) (hwm : wt.length ≤ 1000000000000) :
    Calls Tryz.prog 24 #[.pointer (some ⟨p, 0, none⟩), .slice A1 b.length c1, .slice A2 wt.length c2] w fun e w' => e = .returned (.bool (readQ i b wt)) ∧ ∃ n, w.drewN n = w' := by
  obtain ⟨sq, hsq⟩ : ∃ z, z = readQ i b wt := ⟨_, rfl⟩
  rw [← hsq]
  have HSQ : Hid (sq = (((i : Int) == (wt.length : Int)) && (decide ((wt.length : Int) ≤ (b.length : Int)) && sameB (b.take wt.length) wt))) := hsq
  clear hsq
  have C1 := Lib.hid (at_any h)
  have HBS := Lib.hid hb
  have HWS := Lib.hid hw
  clear h hb hw
  obtain ⟨n, hn⟩ : ∃ z, z = wt.length := ⟨_, rfl⟩
  obtain ⟨m, hm⟩ : ∃ z, z = b.length := ⟨_, rfl⟩
  rw [← hn, ← hm] at HSQ
  rw [← hn, ← hm]
  rw [← hn] at hwm
  rw [← hm] at hbl hbm
  have HN := Lib.hid hn
  have HM := Lib.hid hm
  clear hn hm
  unfold maxLen at hc1
  go_enter Tryz.func24, Tryz.ntmps24
  go_wp2_with fail
  refine C1.out.mono ?_
  rintro e V ⟨rfl, rfl⟩
  clear C1
  by_cases h1 : i = n
  · have d1 : ((i : Int) == (n : Int)) = true := by simp [h1]
    by_cases h2 : n ≤ m
    · have d2 : decide ((n : Int) ≤ (m : Int)) = true := by simp; omega
      have HE : Hid (sq = sameB (b.take n) wt) := by show _ = _; rw [HSQ.out, d1, d2]; simp
      have C2 := Lib.hid (same_at (b.take n) wt sq n n B A1 A2 c1 c2 w HE.out.symm (by rw [List.length_take, ← HM.out]; omega) HN.out.symm (by unfold maxLen; omega) (by unfold maxLen; omega) (fun hne => by
        obtain ⟨b', o', e, hb', hc'⟩ := HBS.out (by intro e; rw [bts, List.map_take] at hne; apply hne; rw [show b.map _ = bts b from rfl, e]; simp)
        refine ⟨b', o', e, hb', fun j u hu => hc' j u ?_⟩
        rw [bts, List.map_take, List.getElem?_take] at hu
        split at hu
        · exact hu
        · cases hu) HWS.out)
      obtain ⟨k, rfl⟩ : ∃ k, m = n + k := ⟨m - n, by omega⟩
      clear h1 h2 HSQ
      go_wp2_with fail
      refine C2.out.mono ?_
      rintro e V ⟨rfl, nq, rfl⟩
      clear C2
      go_wp2
      go_ret
      exact ⟨rfl, nq, rfl⟩
    · have d2 : decide ((n : Int) ≤ (m : Int)) = false := by simp; omega
      have d3 : decide (n ≤ m) = false := by simp; omega
      have HE : Hid (sq = false) := by show _ = _; rw [HSQ.out, d1, d2]; simp
      clear d2
      clear h1 h2 HSQ
      go_wp2
      go_ret
      exact ⟨by rw [HE.out]; rfl, 0, rfl⟩
  · have d1 : ((i : Int) == (n : Int)) = false := by simp; omega
    have HE : Hid (sq = false) := by show _ = _; rw [HSQ.out, d1]; simp
    clear h1 HSQ
    go_wp2
    go_ret
    exact ⟨by rw [HE.out]; rfl, 0, rfl⟩

end Go.Proofs.YtmmdhhjpbolkhaaGreat
