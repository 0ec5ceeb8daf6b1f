/-
  The walk of FunccodeTruncated.
-/
import Derived.Test.YtmmdhhjpbolkhaaGreatFcAwake
import Derived.Test.YtmmdhhjpbolkhaaGreatFcMenc
import Derived.Test.YtmmdhhjpbolkhaaGreatPk7
import Derived.Test.YtmmdhhjpbolkhaaGreatMacRchk
import Derived.Test.YtmmdhhjpbolkhaaGreatSmMac
namespace Go.Proofs.YtmmdhhjpbolkhaaGreat
open Go.RowKit
set_option linter.unusedVariables false
set_option linter.unusedSimpArgs false

theorem u16_of18 {x : Int} (h : (Lit.int .u16 x).wf = true) : 0 ≤ x ∧ x ≤ 65535 := by
  simp [Lit.wf, IntKind.min, IntKind.max, IntKind.signed, IntKind.bits] at h
  omega

end Go.Proofs.YtmmdhhjpbolkhaaGreat
