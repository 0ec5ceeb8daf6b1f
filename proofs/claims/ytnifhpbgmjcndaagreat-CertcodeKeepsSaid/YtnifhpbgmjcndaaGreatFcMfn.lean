/- The reference of layer 18: MFunc (made by wip/lab/genfcmfunc.py). -/
import Derived.Test.YtnifhpbgmjcndaaGreatFcFunc
set_option linter.unusedVariables false
set_option linter.unusedSimpArgs false
set_option maxRecDepth 100000
set_option maxHeartbeats 16000000
namespace Go.Proofs.YtnifhpbgmjcndaaGreat
open Go.RowKit
end Go.Proofs.YtnifhpbgmjcndaaGreat
