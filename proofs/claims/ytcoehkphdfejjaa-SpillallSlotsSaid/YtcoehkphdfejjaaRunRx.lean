/-
  The reference's Exec; Right.
-/
import Derived.Test.YtcoehkphdfejjaaRunRs
import Derived.Test.YtcoehkphdfejjaaPk2
import Derived.Test.YtcoehkphdfejjaaSrcFew
import Derived.Deep.LoopGhost
namespace Go.Proofs.Ytcoehkphdfejjaa
open Go.RowKit
set_option linter.unusedVariables false
set_option linter.unusedSimpArgs false

end Go.Proofs.Ytcoehkphdfejjaa
