/-
  The reference's Exec of layer 10; Right.
-/
import Derived.Test.YtcoehkphdfejjaaExRs
import Derived.Test.YtcoehkphdfejjaaExRst
import Derived.Test.YtcoehkphdfejjaaPk2
import Derived.Test.YtcoehkphdfejjaaMacFew
import Derived.Deep.LoopGhost
namespace Go.Proofs.Ytcoehkphdfejjaa
open Go.RowKit
set_option linter.unusedVariables false
set_option linter.unusedSimpArgs false

/-- What Right says. -/
def RightX (args regs slots : Int) (bs : List MBlk) (fuel : Int) (na : Nat) (w : World) (e : Ending) (w' : World) : Prop :=
  (∃ b, e = .returned (.bool b) ∧ (b = true → FewM regs slots bs ∧ eMF args regs slots bs = 0 ∧ fuel ≤ 400 ∧ na ≤ 100)) ∧ Below w.heap.size w w'

end Go.Proofs.Ytcoehkphdfejjaa
