/-
  A list of machine instructions that a call owns; runs of moves in it.
-/
import Derived.Test.YtapdheabblgbaaaGreatPk1
namespace Go.Proofs.YtapdheabblgbaaaGreat
open Go.RowKit
set_option linter.unusedVariables false

def flatM (xs : List Mi) : List Value := xs.flatMap Mi.cells
theorem flatM_length (xs : List Mi) : (flatM xs).length = xs.length * 7 := by
  induction xs with
  | nil => rfl
  | cons x r ih =>
    show (x.cells ++ flatM r).length = _
    rw [List.length_append, ih, List.length_cons]
    show 7 + r.length * 7 = _
    omega
theorem flatM_oneCell (xs : List Mi) : ∀ u ∈ flatM xs, u.oneCell' = true := fun u hu => by
  obtain ⟨x, _, hx⟩ := List.mem_flatMap.1 hu
  simp only [Mi.cells, List.mem_cons, List.not_mem_nil, or_false] at hx
  rcases hx with rfl | rfl | rfl | rfl | rfl | rfl | rfl <;> rfl
/-- What a call owns it sees. -/
theorem MisAt.of_own {W : World} {base : Nat} {T : TypeId} {A : Option Addr} {c : Nat} {xs : List Mi} (h : W.ownsRow base T 7 (.slice A xs.length c) xs.length (flatM xs)) (hok : ∀ x ∈ xs, x.Ok) : MisAt W W.heap.size A xs := fun hn => by
  have h0 : flatM xs ≠ [] := fun e => by
    have := congrArg List.length e
    rw [flatM_length] at this
    exact hn (List.eq_nil_of_length_eq_zero (by simp at this; omega))
  obtain ⟨b, o, e, hb, hc⟩ := sees_own h h0
  refine ⟨b, o, e, hb, fun i x hx => ?_⟩
  have hg := flat_get Mi.cells 7 (fun _ => rfl) xs i x hx
  have g := fun j u hu => hc _ _ (hg j u hu)
  refine ⟨hok x (List.mem_of_getElem? hx), ?_, ?_, ?_, ?_, ?_, ?_, ?_⟩
  · exact g 0 _ rfl
  · rw [Nat.add_assoc]; exact g 1 _ rfl
  · rw [Nat.add_assoc]; exact g 2 _ rfl
  · rw [Nat.add_assoc]; exact g 3 _ rfl
  · rw [Nat.add_assoc]; exact g 4 _ rfl
  · rw [Nat.add_assoc]; exact g 5 _ rfl
  · rw [Nat.add_assoc]; exact g 6 _ rfl
end Go.Proofs.YtapdheabblgbaaaGreat
