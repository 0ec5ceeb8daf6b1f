/-
  The program's leave.
-/
import Derived.Test.YtabebkkicpcjcaaRunPerf
namespace Go.Proofs.Ytabebkkicpcjcaa
open Go.RowKit
set_option linter.unusedVariables false

end Go.Proofs.Ytabebkkicpcjcaa
