/-
  The reference's Few of layer 8.
-/
import Derived.Test.YtcoehkphdfejjaaPk2
namespace Go.Proofs.Ytcoehkphdfejjaa
open Go.RowKit
set_option linter.unusedVariables false

/-- What Few says: few blocks, registers and instructions. -/
def FewM (regs slots : Int) (bs : List MBlk) : Prop := bs.length ≤ 40 ∧ regs ≤ 60 ∧ slots ≤ 60 ∧ mcodeN bs ≤ 1300

def FewM.P (regs slots : Int) (bs : List MBlk) (w : World) (e : Ending) (w' : World) : Prop := (∃ b, e = .returned (.bool b) ∧ (b = true → FewM regs slots bs)) ∧ Below w.heap.size w w'

end Go.Proofs.Ytcoehkphdfejjaa
