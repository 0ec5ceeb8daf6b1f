/- The reference of layer 18: MFunc (made by wip/lab/genfcmfunc.py). -/
import Derived.Test.YtnifhpbgmjcndaaGreatFcFunc
import Derived.Test.YtnifhpbgmjcndaaGreatPk2
import Derived.Deep.LoopGhost
import Derived.Deep.Cut
import Derived.Deep.CutRange
import Derived.BigRegion
set_option linter.unusedVariables false
set_option linter.unusedSimpArgs false
set_option linter.unusedSectionVars false
set_option maxRecDepth 100000
set_option maxHeartbeats 16000000
namespace Go.Proofs.YtnifhpbgmjcndaaGreat
open Go.RowKit
end Go.Proofs.YtnifhpbgmjcndaaGreat
