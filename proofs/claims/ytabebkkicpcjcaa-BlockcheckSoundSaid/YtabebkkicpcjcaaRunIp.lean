/-
  The program's interpreter in memory.
-/
import Derived.Test.YtabebkkicpcjcaaRunStart
namespace Go.Proofs.Ytabebkkicpcjcaa
open Go.RowKit
set_option linter.unusedVariables false

end Go.Proofs.Ytabebkkicpcjcaa
