/-
  The program's perform.
-/
import Derived.Test.YtabebkkicpcjcaaRunEmit
import Derived.Test.YtabebkkicpcjcaaAluEval
import Derived.Deep.RegionHeld3
import Derived.Deep.DeepMust
import Derived.RegionTactic
import Derived.ChangeAlike
namespace Go.Proofs.Ytabebkkicpcjcaa
open Go.RowKit
set_option linter.unusedVariables false

end Go.Proofs.Ytabebkkicpcjcaa
