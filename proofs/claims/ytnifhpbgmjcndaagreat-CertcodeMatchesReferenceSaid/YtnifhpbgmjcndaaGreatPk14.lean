import Derived.Test.YtnifhpbgmjcndaaGreatPk13
import Derived.Laws.MakeOwn
set_option linter.unusedVariables false
set_option linter.unusedSimpArgs false
set_option linter.unusedSectionVars false
namespace Go.Proofs.YtnifhpbgmjcndaaGreat
open Go.RowKit
end Go.Proofs.YtnifhpbgmjcndaaGreat
