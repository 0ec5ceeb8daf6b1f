/-
  The reference of layer 15: Initial, Few, Valid.
-/
import Derived.Test.YtapdheabblgbaaaGreatEdMath
import Derived.Test.YtapdheabblgbaaaGreatPpIn
namespace Go.Proofs.YtapdheabblgbaaaGreat
open Go.RowKit
set_option linter.unusedVariables false

/-- What Few says. -/
def FewPP (xs : List (List Pr)) (e : Ending) : Prop := ∃ b : Bool, e = .returned (.bool b) ∧ (b = true → xs.length ≤ 40 ∧ ∀ x ∈ xs, x.length ≤ 400)

set_option maxRecDepth 100000 in
set_option maxHeartbeats 4000000 in
theorem redfew_any (B : Nat) (A : Option Addr) (xs : List (List Pr)) (c : Nat) (w : World) (hs : SeesPP w B A xs) (hm : xs.length ≤ maxLen) :
    Calls Tryz.prog 24 #[.slice A xs.length c] w fun e w' => FewPP xs e ∧ Grew w w' := by
  have HS := Lib.hid hs
  clear hs
  have hm2 : (xs.length : Int) ≤ 9223372036854775807 := by unfold maxLen at hm; omega
  go_enter Tryz.func24, Tryz.ntmps24
  go_wp2
  go_loopg [3] xs.length (fun g v3 wr => ∃ k : Nat, k + g = xs.length ∧ k ≤ 41 ∧ v3 = .int .i64 k ∧ Hid (∀ x ∈ xs.take k, x.length ≤ 400) ∧ Hid (Grew w wr))
  case atStart => exact ⟨0, by omega, by omega, by go_num, fun x hx => by simp at hx, Grew.refl w⟩
  case round =>
    obtain ⟨k, hg, hk41, rfl, HT, HG⟩ := hrel
    by_cases hk : k < xs.length
    · have hkz : (k : Int) < (xs.length : Int) := by omega
      by_cases h4 : k ≤ 40
      · have h4z : (k : Int) ≤ 40 := by omega
        obtain ⟨b, o, Ai, ci, rfl, hb, hc, hci, hcm, hsi⟩ := HS.out.at_ hk
        have f0 := HG.out.cell hc
        have HN : Hid (xs[k].length ≤ 400 → ∀ x ∈ xs.take (k + 1), x.length ≤ 400) := fun h x hx => by
          rw [List.take_succ_eq_append_getElem hk, List.mem_append] at hx
          rcases hx with hx | hx
          · exact HT.out x hx
          · simp at hx; subst hx; exact h
        generalize xs[k].length = m at *
        clear hc hsi HT
        by_cases hm4 : m ≤ 400
        · have HN2 := Lib.hid (HN.out hm4)
          have hmz : ¬ (400 : Int) < (m : Int) := by omega
          clear HN
          go_wp2
          go_roundg (xs.length - (k + 1))
          case measure => omega
          case rel => exact ⟨k + 1, by omega, by omega, by go_num, HN2.out, HG.out⟩
        · have hmz : (400 : Int) < (m : Int) := by omega
          go_wp2
          go_ret
          exact ⟨⟨false, rfl, fun h => by cases h⟩, HG.out⟩
      · have h4z : ¬ (k : Int) ≤ 40 := by omega
        have h5 : ¬ (xs.length : Int) ≤ 40 := by omega
        have h6 : decide ((xs.length : Int) ≤ 40) = false := by simp; omega
        go_wp2
        go_ret
        exact ⟨⟨false, rfl, fun h => by cases h⟩, HG.out⟩
    · have hkz : ¬ (k : Int) < (xs.length : Int) := by omega
      have HA : Hid (∀ x ∈ xs, x.length ≤ 400) := by have := HT.out; rw [List.take_of_length_le (by omega)] at this; exact this
      go_wp2
      go_ret
      exact ⟨⟨_, rfl, fun h => ⟨by simp at h; omega, HA.out⟩⟩, HG.out⟩

theorem prE_9 {v r s : Int} {q : Option Pr} {p : Pr} (h : p.1 < 0 ∨ v ≤ p.1) : prE v r s q p = 9 := by unfold prE; rw [if_pos h]
theorem prE_10 {v r s : Int} {q : Option Pr} {p : Pr} (h : ¬ (p.1 < 0 ∨ v ≤ p.1)) (k : locS p.2 r s = false) : prE v r s q p = 10 := by unfold prE; rw [if_neg h, if_pos k]
theorem prE_none {v r s : Int} {p : Pr} (h : ¬ (p.1 < 0 ∨ v ≤ p.1)) (k : locS p.2 r s = true) : prE v r s none p = 0 := by unfold prE; rw [if_neg h, if_neg (by simp [k])]
theorem prE_some {v r s : Int} {q p : Pr} (h : ¬ (p.1 < 0 ∨ v ≤ p.1)) (k : locS p.2 r s = true) : prE v r s (some q) p = if ltP q p then 0 else 13 := by unfold prE; rw [if_neg h, if_neg (by simp [k])]

theorem fits_of {x : Int} (h : I64 x) : Fits x := by
  have := i64_of_wf h
  unfold Fits
  omega

/-- What is left of an invariant: the error there, or on. -/
theorem vl_stop {v r s E e : Int} {l : List Pr} {k : Nat} (hk : k < l.length) (h : vlE v r s (bef l k) (l.drop k) = E) (he : prE v r s (bef l k) l[k] = e) (h0 : e ≠ 0) : E = e := by
  rw [vlE_step hk, he, if_pos h0] at h
  exact h.symm
theorem vl_on {v r s E : Int} {l : List Pr} {k : Nat} (hk : k < l.length) (h : vlE v r s (bef l k) (l.drop k) = E) (he : prE v r s (bef l k) l[k] = 0) : vlE v r s (bef l (k + 1)) (l.drop (k + 1)) = E := by
  rw [vlE_step hk, he] at h
  simpa using h
theorem vl_end {v r s E : Int} {l : List Pr} {k : Nat} (hk : ¬ k < l.length) (h : vlE v r s (bef l k) (l.drop k) = E) : E = 0 := by
  rw [List.drop_of_length_le (by omega)] at h
  rw [← h]
  cases bef l k <;> rfl

end Go.Proofs.YtapdheabblgbaaaGreat
