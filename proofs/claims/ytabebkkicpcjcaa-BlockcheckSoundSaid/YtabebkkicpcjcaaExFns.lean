/-
  The reference's Same and Copy of runs with slots.
-/
import Derived.Test.YtabebkkicpcjcaaExMem
namespace Go.Proofs.Ytabebkkicpcjcaa
open Go.RowKit
set_option linter.unusedVariables false

end Go.Proofs.Ytabebkkicpcjcaa
