/-
  The program's Start.
-/
import Derived.Test.YtabebkkicpcjcaaRunRst
import Derived.Laws.CopyOwn
import Derived.Laws.OwnMore
import Derived.Deep.OwnRows
namespace Go.Proofs.Ytabebkkicpcjcaa
open Go.RowKit
set_option linter.unusedVariables false

abbrev zrun : Rn := ⟨0, 0, 0, 0, [], [], 0⟩

end Go.Proofs.Ytabebkkicpcjcaa
