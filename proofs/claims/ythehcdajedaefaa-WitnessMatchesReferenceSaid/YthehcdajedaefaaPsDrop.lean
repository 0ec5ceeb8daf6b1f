/-
  DropV and DropL of the program.
-/
import Derived.Test.YthehcdajedaefaaPsUn
namespace Go.Proofs.Ythehcdajedaefaa
open Go.RowKit
set_option linter.unusedVariables false

end Go.Proofs.Ythehcdajedaefaa
