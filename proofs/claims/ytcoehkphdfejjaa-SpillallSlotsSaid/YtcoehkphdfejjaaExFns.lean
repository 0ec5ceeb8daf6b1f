/-
  The reference's Same and Copy of runs with slots.
-/
import Derived.Test.YtcoehkphdfejjaaPk9
namespace Go.Proofs.Ytcoehkphdfejjaa
open Go.RowKit
set_option linter.unusedVariables false

end Go.Proofs.Ytcoehkphdfejjaa
