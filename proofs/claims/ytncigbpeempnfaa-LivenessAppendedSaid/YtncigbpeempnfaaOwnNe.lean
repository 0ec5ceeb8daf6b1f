/-
  An own list lies in another block than a row of another type.
-/
import Derived.Test.YtncigbpeempnfaaPk1
namespace Go.Proofs.Ytncigbpeempnfaa
open Go.RowKit
set_option linter.unusedVariables false

theorem own_row_neS {w : World} {lo n p sz : Nat} {e T : TypeId} {v : Value} {xs : List Value} {cs : Array Value} (h : w.ownsRow lo e sz v n xs) (hr : Row w p T cs) (hT : e ≠ T) : ∀ k, v.ownBlock = some k → ¬ k = p := by
  intro k hk e1
  subst e1
  rcases h.2 with ⟨rfl, _⟩ | ⟨a, cap, cur, rfl, _, h1, _⟩
  · cases hk
  · simp only [Value.ownBlock, Option.some.injEq] at hk
    subst hk
    unfold Row at hr
    rw [h1] at hr
    simp only [Option.some.injEq, Obj.cells.injEq] at hr
    exact hT hr.2.1

end Go.Proofs.Ytncigbpeempnfaa
