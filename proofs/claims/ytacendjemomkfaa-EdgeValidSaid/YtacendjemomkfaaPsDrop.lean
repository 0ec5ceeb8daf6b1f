/-
  DropV and DropL of the program.
-/
import Derived.Test.YtacendjemomkfaaPsUn
namespace Go.Proofs.Ytacendjemomkfaa
open Go.RowKit
set_option linter.unusedVariables false

end Go.Proofs.Ytacendjemomkfaa
