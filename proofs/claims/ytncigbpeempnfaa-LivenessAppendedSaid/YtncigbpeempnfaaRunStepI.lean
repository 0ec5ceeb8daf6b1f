/-
  The program's Step (its region is written by wip/lab/genstepi.py).
-/
import Derived.Test.YtncigbpeempnfaaPk8
namespace Go.Proofs.Ytncigbpeempnfaa
open Go.RowKit
set_option linter.unusedVariables false
set_option linter.unusedSimpArgs false

section
variable {w W W' : World} {RA SA TA BA : Option Addr} {rc sc tc bl bc : Nat} {r : Rn}

end

end Go.Proofs.Ytncigbpeempnfaa
