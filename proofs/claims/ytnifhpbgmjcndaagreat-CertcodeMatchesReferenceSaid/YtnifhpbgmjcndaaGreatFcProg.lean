/- The program of layer 18: Func, MFunc, PutFunc, PutMFunc over a cursor and a writer. -/
import Derived.Test.YtnifhpbgmjcndaaGreatFcPh
import Derived.Test.YtnifhpbgmjcndaaGreatPk11
set_option linter.unusedVariables false
set_option linter.unusedSimpArgs false
namespace Go.Proofs.YtnifhpbgmjcndaaGreat
open Go.RowKit
end Go.Proofs.YtnifhpbgmjcndaaGreat
