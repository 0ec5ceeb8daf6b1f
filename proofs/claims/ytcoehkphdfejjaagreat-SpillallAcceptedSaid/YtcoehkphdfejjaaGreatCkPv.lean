/-
  The checker of the program: Valid, largestInvariant, Bound.
-/
import Derived.Test.YtcoehkphdfejjaaGreatCkPw
import Derived.Test.YtcoehkphdfejjaaGreatCkXl
import Derived.Test.YtcoehkphdfejjaaGreatSucOwn
import Derived.Test.YtcoehkphdfejjaaGreatSrcCheck
import Derived.Test.YtcoehkphdfejjaaGreatMacCheck
import Derived.Test.YtcoehkphdfejjaaGreatEdInv
import Derived.Deep.RegionHeld3
namespace Go.Proofs.YtcoehkphdfejjaaGreat
open Go.RowKit
set_option linter.unusedVariables false
set_option linter.unusedSimpArgs false

set_option maxRecDepth 100000 in
set_option maxHeartbeats 4000000 in
theorem pcklarge_any {W : World} {B : Nat} {A : Option Addr} {xs : List (List Pr)} {k : Nat} (h : SeesPP W B A xs) (hn : xs.length ≤ 1000) (hl : ∀ x ∈ xs, x.length ≤ 1000) :
    Calls Tryz.prog 24 #[.slice A xs.length k] W fun e w' => e = .returned (.int .i64 (maxI xs : Int)) ∧ W = w' := by
  have HS := Lib.hid h
  have HL := Lib.hid hl
  clear h hl
  obtain ⟨nw, hnw⟩ : ∃ z, z = xs.length := ⟨_, rfl⟩
  rw [← hnw] at hn ⊢
  have HNW := Lib.hid hnw
  clear hnw
  go_enter Tryz.func24, Tryz.ntmps24
  go_wp2
  go_loopg [3, 8] nw (fun g s3 s8 wr => ∃ k : Nat, k + g = nw ∧ s8 = .int .i64 k ∧ s3 = .int .i64 (maxI (xs.take k) : Int) ∧ W = wr)
  case atStart => exact ⟨0, by omega, by go_num, by simp [maxI], rfl⟩
  case round =>
    obtain ⟨q, hg, rfl, rfl, rfl⟩ := hrel
    by_cases hk : q < nw
    · have hkz : (q : Int) < (nw : Int) := by omega
      have hki : q < xs.length := by rw [← HNW.out]; exact hk
      obtain ⟨b, o, Ai, ci, rfl, hb, hc, hci, hcm, hsi⟩ := HS.out.at_ hki
      have hl4 := HL.out _ (List.getElem_mem hki)
      have HMX := Lib.hid (maxI_step xs q hki)
      generalize xs[q].length = li at *
      obtain ⟨mx, hmx⟩ : ∃ z, z = maxI (xs.take q) := ⟨_, rfl⟩
      rw [← hmx] at HMX ⊢
      clear hmx hsi
      by_cases hgt : mx < li
      · have hgz : (mx : Int) < (li : Int) := by omega
        have HM2 : Hid (maxI (xs.take (q + 1)) = li) := by show _ = _; rw [HMX.out]; omega
        go_wp2
        go_roundg (nw - (q + 1))
        case measure => omega
        case rel => exact ⟨q + 1, by omega, by go_num, by rw [HM2.out], rfl⟩
      · have hgz : ¬ (mx : Int) < (li : Int) := by omega
        have HM2 : Hid (maxI (xs.take (q + 1)) = mx) := by show _ = _; rw [HMX.out]; omega
        go_wp2
        go_roundg (nw - (q + 1))
        case measure => omega
        case rel => exact ⟨q + 1, by omega, by go_num, by rw [HM2.out], rfl⟩
    · have hkz : ¬ (q : Int) < (nw : Int) := by omega
      have HMI : Hid (maxI (xs.take q) = maxI xs) := by show _ = _; rw [List.take_of_length_le (by rw [← HNW.out]; omega)]
      rw [HMI.out]
      go_wp2
      go_ret
      exact ⟨rfl, rfl⟩

theorem boundC_eq (c : Ct) (g : Nat) : boundC c g = 3 * (codeN c.bs + mcodeN c.ms + edN c.bs + c.bs.length + 1) * (g + 1) := by rfl

end Go.Proofs.YtcoehkphdfejjaaGreat
