/-
  The program's Eval, Pure and Traps.
-/
import Derived.Test.YtabebkkicpcjcaaAluFind
namespace Go.Proofs.Ytabebkkicpcjcaa
open Go.RowKit

theorem got {x y : Option Value} {n m : Nat} {d c : Bool} (h1 : x = some (.func (.func n) #[] #[])) (h2 : y = some (.bool d)) (e1 : x = some (.func (.func m) #[] #[])) (e2 : y = some (.bool c)) : n = m ∧ d = c := by
  rw [h1] at e1
  rw [h2] at e2
  injection e1 with e1
  injection e1 with e1
  injection e1 with e1
  injection e2 with e2
  injection e2 with e2
  exact ⟨e1, e2⟩

end Go.Proofs.Ytabebkkicpcjcaa
