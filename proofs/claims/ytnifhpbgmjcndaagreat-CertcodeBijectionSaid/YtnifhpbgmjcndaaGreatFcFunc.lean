/- The reference of layer 18: Func (made by wip/lab/genfcfunc.py). -/
import Derived.Test.YtnifhpbgmjcndaaGreatPk8
import Derived.Deep.LoopGhost
set_option linter.unusedVariables false
set_option linter.unusedSimpArgs false
set_option maxRecDepth 100000
set_option maxHeartbeats 16000000
namespace Go.Proofs.YtnifhpbgmjcndaaGreat
open Go.RowKit
end Go.Proofs.YtnifhpbgmjcndaaGreat
