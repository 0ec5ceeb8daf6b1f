/-
  The reference's Same and Copy; Clone of a slice of integers.
-/
import Derived.Test.YtabebkkicpcjcaaRunMem
import Derived.Test.YtabebkkicpcjcaaPk1
namespace Go.Proofs.Ytabebkkicpcjcaa
open Go.RowKit
set_option linter.unusedVariables false

/-- A copy of integers, in memory of its own. -/
def OwnP (w : World) (l : List Int) (e : Ending) (w' : World) : Prop :=
  ∃ A c, e = .returned (.slice A l.length c) ∧ w'.ownsRow w.heap.size 2 1 (.slice A l.length c) l.length (ints l) ∧ Below w.heap.size w w'

end Go.Proofs.Ytabebkkicpcjcaa
