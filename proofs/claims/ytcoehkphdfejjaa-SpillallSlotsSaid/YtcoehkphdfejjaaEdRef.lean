/-
  The reference of layer 15: Initial, Few, Valid.
-/
import Derived.Test.YtcoehkphdfejjaaEdMath
import Derived.Test.YtcoehkphdfejjaaPpIn
namespace Go.Proofs.Ytcoehkphdfejjaa
open Go.RowKit
set_option linter.unusedVariables false

/-- What Few says. -/
def FewPP (xs : List (List Pr)) (e : Ending) : Prop := ∃ b : Bool, e = .returned (.bool b) ∧ (b = true → xs.length ≤ 40 ∧ ∀ x ∈ xs, x.length ≤ 400)

theorem prE_9 {v r s : Int} {q : Option Pr} {p : Pr} (h : p.1 < 0 ∨ v ≤ p.1) : prE v r s q p = 9 := by unfold prE; rw [if_pos h]

theorem prE_10 {v r s : Int} {q : Option Pr} {p : Pr} (h : ¬ (p.1 < 0 ∨ v ≤ p.1)) (k : locS p.2 r s = false) : prE v r s q p = 10 := by unfold prE; rw [if_neg h, if_pos k]

theorem prE_none {v r s : Int} {p : Pr} (h : ¬ (p.1 < 0 ∨ v ≤ p.1)) (k : locS p.2 r s = true) : prE v r s none p = 0 := by unfold prE; rw [if_neg h, if_neg (by simp [k])]

theorem prE_some {v r s : Int} {q p : Pr} (h : ¬ (p.1 < 0 ∨ v ≤ p.1)) (k : locS p.2 r s = true) : prE v r s (some q) p = if ltP q p then 0 else 13 := by unfold prE; rw [if_neg h, if_neg (by simp [k])]

theorem fits_of {x : Int} (h : I64 x) : Fits x := by
  have := i64_of_wf h
  unfold Fits
  omega

/-- What is left of an invariant: the error there, or on. -/
theorem vl_stop {v r s E e : Int} {l : List Pr} {k : Nat} (hk : k < l.length) (h : vlE v r s (bef l k) (l.drop k) = E) (he : prE v r s (bef l k) l[k] = e) (h0 : e ≠ 0) : E = e := by
  rw [vlE_step hk, he, if_pos h0] at h
  exact h.symm

theorem vl_on {v r s E : Int} {l : List Pr} {k : Nat} (hk : k < l.length) (h : vlE v r s (bef l k) (l.drop k) = E) (he : prE v r s (bef l k) l[k] = 0) : vlE v r s (bef l (k + 1)) (l.drop (k + 1)) = E := by
  rw [vlE_step hk, he] at h
  simpa using h

theorem vl_end {v r s E : Int} {l : List Pr} {k : Nat} (hk : ¬ k < l.length) (h : vlE v r s (bef l k) (l.drop k) = E) : E = 0 := by
  rw [List.drop_of_length_le (by omega)] at h
  rw [← h]
  cases bef l k <;> rfl

theorem totP_at : ∀ (xs : List (List Pr)) (k : Nat) (h : k < xs.length), totP (xs.take k) + xs[k].length ≤ totP xs
  | x :: xs, 0, _ => by show 0 + x.length ≤ x.length + totP xs; omega
  | x :: xs, k + 1, h => by
    have := totP_at xs k (by simpa using h)
    show x.length + totP (xs.take k) + (xs[k]'(by simpa using h)).length ≤ x.length + totP xs
    omega

end Go.Proofs.Ytcoehkphdfejjaa
