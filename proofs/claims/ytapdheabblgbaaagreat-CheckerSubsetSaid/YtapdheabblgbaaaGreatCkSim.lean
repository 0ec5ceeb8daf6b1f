/-
  An accepted certificate: the allocated function simulates the source function.
-/
import Derived.Test.YtapdheabblgbaaaGreatBcSim
import Derived.Test.YtapdheabblgbaaaGreatCkMath
namespace Go.Proofs.YtapdheabblgbaaaGreat
open Go.RowKit
set_option linter.unusedVariables false

/-! Runs of moves. -/
section
variable {N n m q : Nat} {code : List In} {mach : List Mi} {bt mt : Tm} {bs : List Blk} {ms : List MBlk} {most : Int}

end

end Go.Proofs.YtapdheabblgbaaaGreat
