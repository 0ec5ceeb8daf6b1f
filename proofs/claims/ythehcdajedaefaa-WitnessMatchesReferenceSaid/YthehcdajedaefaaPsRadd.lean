/-
  The reference's Add and Make.
-/
import Derived.Test.YthehcdajedaefaaPsSame
import Derived.Test.YthehcdajedaefaaPsOwn
namespace Go.Proofs.Ythehcdajedaefaa
open Go.RowKit
set_option linter.unusedVariables false

theorem stA_t (p : Pr) (o : List Pr) (x : Pr) (he : x = p) : stA p (true, o) x = (true, o) := by simp [stA, he]

theorem stA_tn (p : Pr) (o : List Pr) (x : Pr) (he : ¬ x = p) : stA p (true, o) x = (true, o ++ [x]) := by simp [stA, he]

theorem stA_f (p : Pr) (o : List Pr) (x : Pr) (hl : ltP x p = true) (he : x = p) : stA p (false, o) x = (false, o) := by subst he; simp [stA, hl]

theorem stA_fn (p : Pr) (o : List Pr) (x : Pr) (hl : ltP x p = true) (he : ¬ x = p) : stA p (false, o) x = (false, o ++ [x]) := by simp [stA, hl, he]

theorem stA_p (p : Pr) (o : List Pr) (x : Pr) (hl : ltP x p = false) (he : x = p) : stA p (false, o) x = (true, o ++ [p]) := by subst he; simp [stA, hl]

theorem stA_pn (p : Pr) (o : List Pr) (x : Pr) (hl : ltP x p = false) (he : ¬ x = p) : stA p (false, o) x = (true, o ++ [p] ++ [x]) := by simp [stA, hl, he]

theorem stA_len (p : Pr) (s : Bool × List Pr) (x : Pr) : (stA p s x).2.length ≤ s.2.length + 2 := by
  unfold stA
  dsimp only
  split <;> split <;> simp <;> omega

theorem foA_len (p : Pr) : ∀ (k : Nat) (l : List Pr), l.length = k → (foA p l).2.length ≤ 2 * k
  | 0, l, hk => by
    obtain rfl := List.eq_nil_of_length_eq_zero hk
    simp [foA]
  | k + 1, l, hk => by
    rcases List.eq_nil_or_concat l with rfl | ⟨r, x, rfl⟩
    · simp at hk
    rw [List.concat_eq_append] at *
    rw [foA_snoc]
    have := stA_len p (foA p r) x
    have := foA_len p k r (by simpa using hk)
    omega

theorem foA_take (p : Pr) {l : List Pr} {k : Nat} (hk : k < l.length) : foA p (l.take (k + 1)) = stA p (foA p (l.take k)) l[k] := by
  rw [List.take_succ_eq_append_getElem hk, foA_snoc]

end Go.Proofs.Ythehcdajedaefaa
